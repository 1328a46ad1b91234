import PyProof.Rows.All
import Wide.All
import OpenK.AllK
import Wide.FinOn
import Lean
import PyProof.EqAt
import PyProof.EqKinds
import PyProof.TupleCall
import PyProof.NeKinds
import PyProof.RulesTry
import PyProof.ExcArgsOwn
import PyProof.InstStoreFacts
import PyProof.ExcInit
import PyProof.ExcClass3
import KE.KTryMore
import PyProof.NsDelKeeps
import PyProof.RulesAs
import PyProof.InstEq
import PyProof.Rows.EqMixed
import PyProof.FactsAll.tuple_1
import PySem.Challenge.RW_markwords_k63_texts_that_are_none
set_option Elab.async false
set_option linter.all false
set_option maxRecDepth 100000
set_option maxHeartbeats 8000000
namespace L2
open PySem PySem.Spec PyProof.Rows
abbrev Key:=Sum Int Str
def XY:Key->Value->Bool
 |.inl k,v=>Value.isInt k v
 |.inr x,v=>Value.isStrOf x v
def keyH (w:World):Key->Int
 |.inl k=>hashInt k
 |.inr x=>hashStr w x
theorem qU:∀{k:Key} {v:Value},XY k v=true->(∃i t,k=Sum.inl i/\v=Value.int i t)\/(∃x t,k=Sum.inr x/\v=Value.str x t)
 |.inl i,v,h=>by
  obtain⟨t,e⟩:=Value.isInt_shape (k:=i) (v:=v) h
  exact .inl ⟨i,t,rfl,e⟩
 |.inr x,v,h=>by
  obtain⟨t,e⟩:=Value.isStrOf_shape (x:=x) (v:=v) h
  exact .inr ⟨x,t,rfl,e⟩
theorem KH (i:Int) (t:Tok):XY (.inl i) (.int i t)=true:=by simp[XY,Value.isInt]
theorem KG (x:Str) (t:Tok):XY (.inr x) (.str x t)=true:=by simp[XY,Value.isStrOf]
theorem key_ll (a b:Int):decide ((Sum.inl a:Key)=Sum.inl b)=(a==b):=by
 by_cases e:a=b
 ·subst e; simp
 ·have h:¬(Sum.inl a:Key)=Sum.inl b:=fun q=>e (Sum.inl.inj q)
  rw[decide_eq_false h]
  exact(beq_eq_false_iff_ne.mpr e).symm
theorem key_rr (a b:Str):decide ((Sum.inr a:Key)=Sum.inr b)=decide (a=b):=by
 by_cases e:a=b
 ·subst e; simp
 ·have h:¬(Sum.inr a:Key)=Sum.inr b:=fun q=>e (Sum.inr.inj q)
  rw[decide_eq_false h,decide_eq_false e]
theorem key_lr (a:Int) (b:Str):decide ((Sum.inl a:Key)=Sum.inr b)=false:=decide_eq_false (fun q=>nomatch q)
theorem key_rl (a:Str) (b:Int):decide ((Sum.inr a:Key)=Sum.inl b)=false:=decide_eq_false (fun q=>nomatch q)
def qF (prog:Program) (w:World):PySem.KeyKind prog w Key where
 is:=XY
 hash:=keyH w
 inj:=fun v a b ha hb=>by
  rcases qU ha with⟨i,t,rfl,rfl⟩|⟨x,t,rfl,rfl⟩
  ·rcases qU hb with⟨j,u,rfl,e⟩|⟨y,u,rfl,e⟩
   ·injection e with e1 _; rw[e1]
   ·exact nomatch e
  ·rcases qU hb with⟨j,u,rfl,e⟩|⟨y,u,rfl,e⟩
   ·exact nomatch e
   ·injection e with e1 _; rw[e1]
 byValue:=fun k v h=>by
  rcases qU h with⟨i,t,rfl,rfl⟩|⟨x,t,rfl,rfl⟩<;>rfl
 pyHash:=fun hv h=>by
  rcases qU hv with⟨i,t,rfl,rfl⟩|⟨x,t,rfl,rfl⟩
  ·exact wpAny_pyHash_int h
  ·exact wpAny_pyHash_str h
 eqBool:=fun hu hv h=>by
  rcases qU hu with⟨i,t,rfl,rfl⟩|⟨x,t,rfl,rfl⟩
  ·rcases qU hv with⟨j,u,rfl,rfl⟩|⟨y,u,rfl,rfl⟩
   ·rw[key_ll] at h; exact wpAny_eqBool_int h
   ·rw[key_lr] at h; exact SeqAt.EqAt.int_str i t y u _ _ _ _ h
  ·rcases qU hv with⟨j,u,rfl,rfl⟩|⟨y,u,rfl,rfl⟩
   ·rw[key_rl] at h; exact SeqAt.EqAt.str_int x t j u _ _ _ _ h
   ·rw[key_rr] at h; exact wpAny_eqBool_str h
 «strs»:=fun k x t v h=>by
  rcases qU h with⟨i,u,rfl,e⟩|⟨y,u,rfl,e⟩
  ·exact nomatch e
  ·injection e with e1 _
   subst e1
   cases v<;>rfl
theorem V1 (prog:Program) (w:World) (i:Int) (t:Tok):(qF prog w).is (.inl i) (.int i t)=true:=KH i t
theorem v6 (prog:Program) (w:World) (x:Str) (t:Tok):(qF prog w).is (.inr x) (.str x t)=true:=KG x t
inductive V where
 |non|bl (b:Bool)|int (i:Int)|str (x:Str)|byt (b:Array UInt8)|flt (b:UInt64)|ref (a:Addr)|ty (n:String)
 deriving DecidableEq
def RelV:V->Value->Prop
 |.non,u=>u=Value.none
 |.bl b,u=>u=Value.bool b
 |.int i,u=>∃t,u=Value.int i t
 |.str x,u=>∃t,u=Value.str x t
 |.byt b,u=>∃t,u=Value.bytes b t
 |.flt b,u=>∃t,u=Value.float b t
 |.ref a,u=>u=Value.ref a
 |.ty n,u=>u=Value.type n
abbrev Vals:List V->List Value->Prop:=Paired RelV
theorem Vals.length {xs:List V} {us:List Value} (r:Vals xs us):xs.length=us.length:=Paired.length r
theorem Vals.get:∀{xs:List V} {us:List Value} {i:Nat} {x:V},Vals xs us->xs[i]?=some x->∃u,us[i]?=some u/\RelV x u
 |_,_,_,_, .nil,e=>by simp at e
 |_,_,0,_, .cons r _,e=>by simp at e; subst e; exact⟨_,rfl,r⟩
 |_,_,i+1,x, .cons _ t,e=>by
  obtain⟨u,h1,h2⟩:=Vals.get (i:=i) (x:=x) t (by simpa using e)
  exact⟨u,by simpa using h1,h2⟩
theorem Vals.set {x:V} {u:Value} (r:RelV x u):∀{xs:List V} {us:List Value} (i:Nat),Vals xs us->Vals (xs.set i x) (us.set i u)
 |_,_,_, .nil=>.nil
 |_,_,0, .cons _ t=>.cons r t
 |_,_,i+1, .cons q t=>.cons q (Vals.set r i t)
theorem Vals.append:∀{xs ys:List V} {us ws:List Value},Vals xs us->Vals ys ws->Vals (xs++ys) (us++ws)
 |_,_,_,_, .nil,s=>s
 |_,_,_,_, .cons r t,s=>.cons r (Vals.append t s)
theorem Vals.take:∀{xs:List V} {us:List Value} (n:Nat),Vals xs us->Vals (xs.take n) (us.take n)
 |_,_,0,_=>.nil
 |_,_,_+1, .nil=>.nil
 |_,_,n+1, .cons r t=>.cons r (Vals.take n t)
theorem Vals.drop:∀{xs:List V} {us:List Value} (n:Nat),Vals xs us->Vals (xs.drop n) (us.drop n)
 |_,_,0,r=>r
 |_,_,_+1, .nil=>.nil
 |_,_,n+1, .cons _ t=>Vals.drop n t
def RelO:Option V->Option Value->Prop
 |some v,some u=>RelV v u
 |none,none=>True
 |_,_=>False
def KV {κ:Type}:List (κ×V)->List (κ×Value)->Prop:=Paired fun(p:κ×V) (q:κ×Value)=>p.1=q.1/\RelV p.2 q.2
def kV:Key->V
 |.inl i=>.int i
 |.inr x=>.str x
inductive HO where
  |lst (xs:List V)
  |tup (xs:List V)
  |dK (kvs:List (Key×V))|dT (kvs:List (List Key×V))
  |set (S:Int->Bool) (n:Nat)
  |ins (C dx:Addr) (fs:List (Str×V))
  |own (x:Addr)
  |xd (fs:List (Str×V))
  |met (f x:Addr)
  |rng (lo hi:Int)
  |frz (o:Obj) (u:HO)
  |tbl (ps:Array Value)
  |ext (φ:Heap->Prop)
abbrev Hp:=Addr->Option HO
def upd (H:Hp) (a:Addr) (o:HO):Hp:=fun b=>if b=a then some o else H b
theorem upd_same {H:Hp} {a:Addr} {o:HO}:upd H a o a=some o:=by unfold upd; rw[if_pos rfl]
theorem upd_ne {H:Hp} {a b:Addr} {o:HO} (h:b≠a):upd H a o b=H b:=by unfold upd; rw[if_neg h]
theorem qL {H:Hp} {a b:Addr} {o:HO} (h:H a=some o) (h':H b=none):a≠b:=by
 intro e; subst e; rw[h] at h'; cases h'
section
variable (P:Program) (w:World)
def ObjOk (H:Hp) (h:Heap) (a:Addr):HO->Prop
 |.lst xs=>xs.length<=sizeLine/\∃(its:List Value) (n:Nat),Vals xs its/\h.get? a=some { cls:=.type "list", data:=.seq its.toArray n }
 |.tup xs=>xs.length<=sizeLine/\∃its:List Value,Vals xs its/\IsTup h a its.toArray
 |.dK kvs=>kvs.length<=sizeLine/\(a==sysModules)=false/\∃vs,KV kvs vs/\h.DictOf (qF P w) a vs
 |.dT kvs=>kvs.length<=sizeLine/\(a==sysModules)=false/\∃xs:List (List Key×Addr×Value),
   Paired (fun(p:List Key×V) (q:List Key×Addr×Value)=>p.1=q.1/\H q.2.1=some (.tup (p.1.map kV))/\RelV p.2 q.2.2) kvs xs /\
   ∃o es ep,h.get? a=some o/\o.ExactDict/\o.data=.dict es ep/\es.toList=xs.map (entryOfKey (tupleKind (qF P w)))/\(xs.map (·.1)).Nodup
 |.set S n=>h.SetOf (intKind P w) a S n
 |.ins C dx fs=>H dx=some (.own a)/\fs.length<=1000/\dx≠a/\h.get? a=some (PySem.W.instObj C dx) /\
   ∃mA,h.Ns1 dx mA/\(∀f,RelO (fs.lookup f) (mA f))/\PySem.Within mA (fs.map (·.1))
 |.own _=>∃o,h.get? a=some o
 |.xd fs=>∃mA,h.Ns1 a mA/\∀f,RelO (fs.lookup f) (mA f)
 |.rng lo hi=>∃t u v,h.get? a=some { cls:=.type "range", data:=.fields #[.int lo t, .int hi u, .int 1 v] }
 |.frz o u=>h.get? a=some o/\ObjOk H h a u
 |.tbl ps=>h.get? a=some { cls:=.none,data:=.fields ps }
 |.met f x=>h.get? a=some (PySem.W.methodObj (.ref f) (.ref x))
 |.ext φ=>φ h/\(∃o,h.get? a=some o)/\∀h1 h2:Heap,φ h1->(∀o,h1.get? a=some o->h2.get? a=some o)->φ h2
def HOk (H:Hp) (h:Heap):Prop:=∀a o,H a=some o->ObjOk P w H h a o
end
section
variable {P:Program} {w:World} {H H':Hp} {h h':Heap} {a:Addr} {o:HO}
theorem ObjOk.lt (x:ObjOk P w H h a o):a<h.objs.size:=by
 cases o with
 |lst xs=>obtain⟨_,_,_,_,e⟩:=x; exact Heap.lt_size e
 |tup xs=>obtain⟨_,_,_,p⟩:=x; exact p.lt
 |dK kvs=>obtain⟨_,_,_,_,o,_,_,e,_⟩:=x; exact Heap.lt_size e
 |dT kvs=>obtain⟨_,_,_,_,o,_,_,e,_⟩:=x; exact Heap.lt_size e
 |set S n=>obtain⟨o,_,_,_,e,_⟩:=x; exact Heap.lt_size e
 |ins C dx fs=>obtain⟨_,_,_,e,_⟩:=x; exact Heap.lt_size e
 |own y=>obtain⟨_,e⟩:=x; exact Heap.lt_size e
 |xd fs=>obtain⟨_,⟨_,_,_,e,_⟩,_⟩:=x; exact Heap.lt_size e
 |rng lo hi=>obtain⟨_,_,_,e⟩:=x; exact Heap.lt_size e
 |frz ob u=>obtain⟨e,_⟩:=x; exact Heap.lt_size e
 |tbl ps=>exact Heap.lt_size (show h.get? a=some _ from x)
 |met f y=>exact Heap.lt_size (show h.get? a=some _ from x)
 |ext φ=>obtain⟨_,⟨_,e⟩,_⟩:=x; exact Heap.lt_size e
theorem Paired.mapP {α β:Type} {F G:α->β->Prop}:∀{l₁:List α} {l₂:List β},Paired F l₁ l₂->(∀a b,F a b->G a b)->Paired G l₁ l₂
 |_,_, .nil,_=>.nil
 |_,_, .cons r t,f=>.cons (f _ _ r) (Paired.mapP t f)
theorem ObjOk.stay (x:ObjOk P w H h a o) (k:∀b u,(b=a\/H b=some (.own a))->h.get? b=some u->h'.get? b=some u)
  (ho:∀b,H b=some (.own a)->H' b=some (.own a)) (ht:∀b xs,H b=some (.tup xs)->H' b=some (.tup xs)):ObjOk P w H' h' a o:=by
 induction o with
 |lst xs=>obtain⟨z,its,n,r,e⟩:=x; exact⟨z,its,n,r,k _ _ (.inl rfl) e⟩
 |tup xs=>obtain⟨z,its,r,ob,e,c⟩:=x; exact⟨z,its,r,ob,k _ _ (.inl rfl) e,c⟩
 |dK kvs=>obtain⟨z,y,vs,r,ob,es,ep,e,c⟩:=x; exact⟨z,y,vs,r,ob,es,ep,k _ _ (.inl rfl) e,c⟩
 |dT kvs =>
  obtain⟨z,y,xs,r,ob,es,ep,e,c⟩:=x
  exact⟨z,y,xs,Paired.mapP r fun p q z=>⟨z.1,ht _ _ z.2.1,z.2.2⟩,ob,es,ep,k _ _ (.inl rfl) e,c⟩
 |set S n=>obtain⟨ob,es,ep,t,e,c⟩:=x; exact⟨ob,es,ep,t,k _ _ (.inl rfl) e,c⟩
 |ins C dx fs =>
  obtain⟨d,z,ne,e,mA,⟨od,es,ep,e2,c⟩,r⟩:=x
  exact⟨ho _ d,z,ne,k _ _ (.inl rfl) e,mA,⟨od,es,ep,k _ _ (.inr d) e2,c⟩,r⟩
 |own y=>obtain⟨ob,e⟩:=x; exact⟨ob,k _ _ (.inl rfl) e⟩
 |xd fs=>obtain⟨mA,⟨od,es,ep,e,c⟩,r⟩:=x; exact⟨mA,⟨od,es,ep,k _ _ (.inl rfl) e,c⟩,r⟩
 |rng lo hi=>obtain⟨t,u,v,e⟩:=x; exact⟨t,u,v,k _ _ (.inl rfl) e⟩
 |frz ob u ih=>obtain⟨e,q⟩:=x; exact⟨k _ _ (.inl rfl) e,ih q⟩
 |tbl ps =>
  have e:h.get? a=some { cls:=.none,data:=.fields ps }:=x
  show h'.get? a=some { cls:=.none,data:=.fields ps }
  exact k a _ (.inl rfl) e
 |met f y =>
  have e:h.get? a=some (PySem.W.methodObj (.ref f) (.ref y)):=x
  show h'.get? a=some (PySem.W.methodObj (.ref f) (.ref y))
  exact k a _ (.inl rfl) e
 |ext φ=>obtain⟨p,⟨o,e⟩,st⟩:=x; exact⟨st _ _ p fun o q=>k _ _ (.inl rfl) q,⟨o,k _ _ (.inl rfl) e⟩,st⟩
theorem HOk.lt (x:HOk P w H h) (e:H a=some o):a<h.objs.size:=(x a o e).lt
theorem HOk.fresh (x:HOk P w H h) (e:h.objs.size<=a):H a=none:=by
 cases q:H a with
 |none=>rfl
 |some u=>exact absurd (Nat.lt_of_lt_of_le (x.lt q) e) (Nat.lt_irrefl _)
theorem HOk.kept (x:HOk P w H h) (k:∀b u,h.get? b=some u->h'.get? b=some u):HOk P w H h':=fun a o e =>
 (x a o e).stay (fun b u _ q=>k b u q) (fun _ q=>q) fun _ _ q=>q
theorem HOk.laid (x:HOk P w H h) (k:∀b u,h.get? b=some u->h'.get? b=some u) (hp:h.objs.size<=a) (new:ObjOk P w (upd H a o) h' a o):HOk P w (upd H a o) h':=fun b u e=>by
 have hn:=x.fresh hp
 by_cases hb:b=a
 ·subst hb; rw[upd_same] at e; cases e; exact new
 ·rw[upd_ne hb] at e
  exact(x b u e).stay (fun c v _ q=>k c v q) (fun c q=>by rw[upd_ne (qL q hn)]; exact q) fun c xs q=>by rw[upd_ne (qL q hn)]; exact q
end
def Rd (H:Hp) (a:Addr) (u:HO):Prop:=H a=some u\/∃o,H a=some (.frz o u)
theorem Rd.ok {P:Program} {w:World} {H:Hp} {h:Heap} {a:Addr} {u:HO} (r:Rd H a u) (x:HOk P w H h):ObjOk P w H h a u:=by
 rcases r with r|⟨o,r⟩
 ·exact x a u r
 ·obtain⟨_,q⟩:=x a _ r
  exact q
def Mut:Option HO->Prop
 |some (.lst _)=>True
 |some (.dK _)=>True
 |some (.dT _)=>True
 |some (.set _ _)=>True
 |some (.ins _ _ _)=>True
 |some (.ext _)=>True
 |_=>False
section
variable {P:Program} {w:World} {H:Hp} {h h':Heap} {x e:Addr} {o':HO}
theorem HOk.write (ok:HOk P w H h) (mu:Mut (H x)) (he:e=x\/H e=some (.own x)) (k:∀b u,b≠e->h.get? b=some u->h'.get? b=some u) (heo:∃u,h'.get? e=some u)
  (new:ObjOk P w (upd H x o') h' x o'):HOk P w (upd H x o') h':=fun b u q=>by
 have nown:∀c y,H c=some (.own y)->c≠x:=fun c y r z=>by subst z; rw[r] at mu; exact mu
 have ntup:∀c xs,H c=some (.tup xs)->c≠x:=fun c xs r z=>by subst z; rw[r] at mu; exact mu
 by_cases hb:b=x
 ·subst hb; rw[upd_same] at q; cases q; exact new
 ·rw[upd_ne hb] at q
  by_cases hbe:b=e
  ·have q':H b=some (.own x):=by
    rcases he with z|z
    ·exact absurd (hbe.trans z) hb
    ·rw[hbe]; exact z
   rw[q] at q'; cases q'
   obtain⟨v,hv⟩:=heo
   exact⟨v,by rw[hbe]; exact hv⟩
  ·refine(ok b u q).stay (fun c v hc r=>k c v ?_ r) (fun c r=>by rw[upd_ne (nown c b r)]; exact r) fun c xs r=>by rw[upd_ne (ntup c xs r)]; exact r
   rcases hc with rfl|hc
   ·exact hbe
   ·rintro rfl
    rcases he with z|z
    ·exact nown c b hc z
    ·rw[hc] at z; cases z; exact hb rfl
end
structure Un (fs ex:List Addr) (H H':Hp) (h h':Heap):Prop where
 keep:∀b o,h.get? b=some o->H b=none->b∉fs->b∉ex->h'.get? b=some o
 slot:∀b o,h.get? b=some o->H b=none->b∈fs->b∉ex->∃sl,h'.get? b=some { o with slots:=sl }
 free:∀b o,h.get? b=some o->H b=none->b∉ex->H' b=none
 there:∀b o,h.get? b=some o->b∉ex->∃o',h'.get? b=some o'
 tups:∀b xs,H b=some (.tup xs)->H' b=some (.tup xs)
 frzs:∀b o u,H b=some (.frz o u)->H' b=some (.frz o u)
 tbls:∀b ps,H b=some (.tbl ps)->∃more,H' b=some (.tbl (ps++more))
section
variable {fs fs' ex ex':List Addr} {H H1 H2:Hp} {h h1 h2 h':Heap} {a x e:Addr} {o:HO}
theorem Un.any (u:Un fs ex H H1 h h1) {b:Addr} {ob:Obj} (q:h.get? b=some ob) (n:H b=none) (hx:b∉ex):∃sl,h1.get? b=some { ob with slots:=sl }:=by
 by_cases hb:b∈fs
 ·exact u.slot b ob q n hb hx
 ·exact⟨ob.slots,u.keep b ob q n hb hx⟩
theorem Un.trans (a:Un fs ex H H1 h h1) (b:Un fs ex H1 H2 h1 h2):Un fs ex H H2 h h2 where
 keep:=fun c ob q n hc hx=>b.keep c ob (a.keep c ob q n hc hx) (a.free c ob q n hx) hc hx
 slot:=fun c ob q n hc hx=>by
  obtain⟨sl,e1⟩:=a.slot c ob q n hc hx
  obtain⟨sl',e2⟩:=b.slot c _ e1 (a.free c ob q n hx) hc hx
  exact⟨sl',e2⟩
 free:=fun c ob q n hx=>by
  obtain⟨o',e1⟩:=a.there c ob q hx
  exact b.free c o' e1 (a.free c ob q n hx) hx
 there:=fun c ob q hx=>by
  obtain⟨o',e1⟩:=a.there c ob q hx
  exact b.there c o' e1 hx
 tups:=fun c xs q=>b.tups c xs (a.tups c xs q)
 frzs:=fun c ob xs q=>b.frzs c ob xs (a.frzs c ob xs q)
 tbls:=fun c ps q=>by
  obtain⟨m1,e1⟩:=a.tbls c ps q
  obtain⟨m2,e2⟩:=b.tbls c _ e1
  exact⟨m1++m2,by rw[e2,Array.append_assoc]⟩
theorem Un.kept (k:∀b u,h.get? b=some u->h'.get? b=some u):Un fs ex H H h h' :=
 ⟨fun b ob q _ _ _=>k b ob q,fun b ob q _ _ _=>⟨ob.slots,k b ob q⟩,fun _ _ _ n _=>n,fun b ob q _=>⟨ob,k b ob q⟩,fun _ _ q=>q,fun _ _ _ q=>q,fun _ ps q=>⟨#[],by rw[q]; simp⟩⟩
theorem Un.refl:Un fs ex H H h h:=Un.kept fun _ _ q=>q
theorem Un.laid (k:∀b u,h.get? b=some u->h'.get? b=some u) (hp:h.objs.size<=a) (hn:H a=none):Un fs ex H (upd H a o) h h' where
 keep:=fun b u q _ _ _=>k b u q
 slot:=fun b u q _ _ _=>⟨u.slots,k b u q⟩
 free:=fun b u q n _=>by rw[upd_ne (Nat.ne_of_lt (Nat.lt_of_lt_of_le (Heap.lt_size q) hp))]; exact n
 there:=fun b u q _=>⟨u,k b u q⟩
 tups:=fun b xs q=>by rw[upd_ne (qL q hn)]; exact q
 frzs:=fun b u xs q=>by rw[upd_ne (qL q hn)]; exact q
 tbls:=fun b ps q=>⟨#[],by rw[upd_ne (qL q hn),q]; simp⟩
theorem Un.write (mu:Mut (H x)) (he:e=x\/H e=some (.own x)) (k:∀b u,b≠e->h.get? b=some u->h'.get? b=some u) (heo:∃u,h'.get? e=some u):Un fs ex H (upd H x o) h h':=by
 have hx:∀b,H b=none->b≠x:=fun b n z=>by subst z; rw[n] at mu; exact mu
 have hb:∀b,H b=none->b≠e:=fun b n z=>by
  subst z
  rcases he with r|r
  ·exact hx b n r
  ·rw[n] at r; cases r
 have hm:∀b u,H b=some u->¬Mut (some u)->b≠x:=fun b u q nm z=>by subst z; rw[q] at mu; exact nm mu
 refine⟨fun b u q n _ _=>k b u (hb b n) q,fun b u q n _ _=>⟨u.slots,k b u (hb b n) q⟩,fun b u q n _=>by rw[upd_ne (hx b n)]; exact n,fun b u q _=>?_,
  fun b xs q=>by rw[upd_ne (hm b _ q fun z=>z)]; exact q,fun b u xs q=>by rw[upd_ne (hm b _ q fun z=>z)]; exact q,fun b ps q=>⟨#[],by rw[upd_ne (hm b _ q fun z=>z),q]; simp⟩⟩
 by_cases hbe:b=e
 ·subst hbe; exact heo
 ·exact⟨u,k b u hbe q⟩
theorem Un.mono (u:Un fs ex H H1 h h1) (hs:∀b∈fs,b∈fs') (hx:∀b∈ex,b∈ex'):Un fs' ex' H H1 h h1 :=
 ⟨fun b ob q n hb he=>u.keep b ob q n (fun z=>hb (hs b z)) fun z=>he (hx b z),fun _ _ q n _ he=>u.any q n fun z=>he (hx _ z),fun b ob q n he=>u.free b ob q n fun z=>he (hx b z),fun b ob q he=>u.there b ob q fun z=>he (hx b z),u.tups,u.frzs,u.tbls⟩
end
def trk (h:Heap) (H:Hp):List Addr:=(List.range h.objs.size).filter fun a=>(H a).isSome
def hidT (h:Heap) (H:Hp):Heap:=PySem.W.hideAll h (trk h H)
theorem KS (h:Heap) (H:Hp):(hidT h H).objs.size=h.objs.size:=PySem.W.hideAll_size _ _
theorem hidT_get {h:Heap} {H:Hp} {b:Addr} {o:Obj} (e:h.get? b=some o) (n:H b=none):(hidT h H).get? b=some o :=
 PySem.W.hideAll_get _ e fun hm=>by
  have q:(H b).isSome=true:=(List.mem_filter.mp hm).2
  rw[n] at q; simp at q
theorem of_hidT {h:Heap} {H:Hp} {b:Addr} {o:Obj} (e:(hidT h H).get? b=some o):h.get? b=some o/\H b=none:=by
 have e':h.get? b=some o:=PySem.W.of_hideAll (trk h H) e
 refine⟨e', ?_⟩
 cases q:H b with
 |none=>rfl
 |some x =>
  have hm:b∈trk h H:=List.mem_filter.mpr ⟨List.mem_range.mpr (Heap.lt_size e'),by simp[q]⟩
  have z:(hidT h H).get? b=none:=PySem.W.hideAll_none (trk h H) hm
  rw[z] at e; cases e
def allNews (g h:Heap) (L:Addr):List (Addr×Obj):=(List.range h.objs.size).filterMap fun a=>if a=L\/(g.get? a).isSome=true then none else(h.get? a).map fun o=>(a,o)
def rest (g h:Heap) (L d:Addr):List (Addr×Obj):=(allNews g h L).filter fun p=>decide (p.1≠d)
structure Mod (K:PySem.W.Frag) (mg:Str->Option Value) (base:Heap):Prop where
 kin:K.In base
 glob:base.Ns mainGlobals mg
 blt:∃mb,base.Ns builtinsNs mb/\∀x:Str,x ≠ "__name__" -> mb x=bootBuiltins x
 nolimit:base.NoLimit
structure Cx where
 prog:Program
 w:World
 K:PySem.W.Frag
 mg:Str->Option Value
 base:Heap
 A:Around
 N:List Str
 s₀:Shared
 H₀:Hp
 env:Env
 outer:List Env
 stack:List Env
 ex:List Addr
 fn:Str->Bool
 calm:Bool
 pn:List (Addr×Obj)
 xe:Value->Shared->Prop
def frs (l:List Env):List Addr:=l.filterMap (·.frame)
abbrev Cx.fs (X:Cx):List Addr:=frs X.outer
def Vis (sc:Scope) (x:Str):Prop:=sc.names.lookup x=some .local\/sc.names.lookup x=some .cell\/sc.names.lookup x=some .free
def Loc (sc:Scope) (x:Str):Prop:=sc.names.lookup x=some .local\/sc.names.lookup x=some .cell
def Look (env:Env) (h:Heap) (m:Str->Option Value) (x:Str) (u:Value):Prop :=
 (env.kindOf x=some .local/\m x=some u)\/((env.kindOf x=some .cell\/env.kindOf x=some .free)/\∃c,env.cells.lookup x=some c/\h.IsCell c (some u))
structure Cx.Ok (X:Cx):Prop where
 mod:Mod X.K X.mg X.base
 kind:X.env.scope.kind=.function
 glob:X.env.globals=mainGlobals
 blt:X.env.builtins=builtinsNs
 above:X.s₀.heap.objs.size<=X.env.locals
 inj:∀x y c,X.env.cells.lookup x=some c->X.env.cells.lookup y=some c->x=y
 has:∀x,(X.env.kindOf x=some .cell\/X.env.kindOf x=some .free)->∃c,X.env.cells.lookup x=some c
 cab:∀x c,X.fn x=true->X.env.cells.lookup x=some c->X.s₀.heap.objs.size<=c
 hd:X.calm=true->X.A.handled=none
 frames:X.A.frames=some X.stack
 stk:X.stack=X.outer\/(X.stack=X.env::X.outer/\X.env.frame=some X.env.locals)
 exf:∀b∈X.ex,b≠X.env.locals/\∀x c,X.env.cells.lookup x=some c->c≠b
 bs:∀b o,X.base.get? b=some o->X.s₀.heap.get? b=some o/\X.H₀ b=none
 bsz:X.base.objs.size<=X.s₀.heap.objs.size
 noex:∀b o,X.base.get? b=some o->b∉X.ex
 exfs:∀b∈X.ex,b∉X.fs
 funs:X.s₀.heap.FunFrames X.base X.outer
 frf:∀b∈X.fs,X.H₀ b=none
structure Inv (X:Cx) (pins:List (Addr×Obj)) (σ:List (Option V)) (H:Hp) (s:Shared):Prop where
 ok:X.Ok
 os:s.os=X.s₀.os
 bare:AllBare s.gens
 base:Un X.fs X.ex X.H₀ H X.s₀.heap s.heap
 loc:∃m,s.heap.Ns X.env.locals m/\∀(i:Nat) (x:Str) (v:V),X.N[i]?=some x->σ[i]?=some (some v)->Vis X.env.scope x->∃u,RelV v u/\Look X.env s.heap m x u
 cell:∀x c,X.env.cells.lookup x=some c->∃v,s.heap.IsCell c v
 free:H X.env.locals=none
 freeC:∀x c,X.env.cells.lookup x=some c->H c=none
 pin:∀p∈X.pn++pins,s.heap.get? p.1=some p.2/\H p.1=none/\p.1≠X.env.locals/\p.1∉X.fs/\∀v,p.2.data ≠ .cell v
 hok:HOk X.prog X.w H s.heap
 len:σ.length=X.N.length
section
variable {X:Cx} {pins:List (Addr×Obj)} {σ:List (Option V)} {H H':Hp} {s:Shared} {h':Heap}
theorem Cx.Ok.nofr (ok:X.Ok) {b:Addr} {o:Obj} (e:X.base.get? b=some o):b∉X.fs:=fun hb=>by
 have:=(ok.funs.mem hb).1
 rw[e] at this; cases this
theorem Inv.bs (I:Inv X pins σ H s):∀b o,X.base.get? b=some o->s.heap.get? b=some o/\H b=none:=fun b o e =>
 ⟨I.base.keep b o (I.ok.bs b o e).1 (I.ok.bs b o e).2 (I.ok.nofr e) (I.ok.noex b o e),I.base.free b o (I.ok.bs b o e).1 (I.ok.bs b o e).2 (I.ok.noex b o e)⟩
theorem Inv.bk (I:Inv X pins σ H s):∀b o,X.base.get? b=some o->s.heap.get? b=some o:=fun b o e=>(I.bs b o e).1
theorem Inv.mod (I:Inv X pins σ H s):Mod X.K X.mg X.base:=I.ok.mod
theorem Inv.kIn (I:Inv X pins σ H s):X.K.In s.heap:=I.ok.mod.kin.keeps I.bk
theorem Inv.fr (I:Inv X pins σ H s):∃m,Fr X.base X.env.locals s.heap m :=
 let⟨m,hn,_⟩:=I.loc
 ⟨m,hn,I.bk,Nat.le_trans I.ok.bsz I.ok.above⟩
theorem Inv.lt (I:Inv X pins σ H s):X.env.locals<s.heap.objs.size:=let⟨_,hn,_⟩:=I.loc; hn.lt
theorem Inv.sz (I:Inv X pins σ H s):X.s₀.heap.objs.size<=s.heap.objs.size:=Nat.le_trans I.ok.above (Nat.le_of_lt I.lt)
theorem Inv.nofs (I:Inv X pins σ H s) {a:Addr} (h:s.heap.objs.size<=a):a∉X.fs:=fun hb=>by
 obtain⟨_,o,ho,_⟩:=I.ok.funs.mem hb
 exact absurd (Nat.lt_of_lt_of_le (Heap.lt_size ho) (Nat.le_trans I.sz h)) (Nat.lt_irrefl _)
theorem Inv.cne (I:Inv X pins σ H s):∀x c,X.env.cells.lookup x=some c->c≠X.env.locals:=fun x c e z=>by
 obtain⟨v,o,ho,hd⟩:=I.cell x c e
 obtain⟨m,⟨o',es,ep,ho',hd',_⟩,_⟩:=I.loc
 rw[z,ho'] at ho; cases ho; rw[hd'] at hd; cases hd
theorem Inv.funs (I:Inv X pins σ H s):s.heap.FunFrames X.base X.outer:=by
 have all:∀(l:List Env),(∀b∈frs l,b∈X.fs)->X.s₀.heap.FunFrames X.base l->s.heap.FunFrames X.base l:=by
  intro l
  induction l with
  |nil=>intro _ _; trivial
  |cons env r ih =>
   intro hs hl
   obtain⟨hk,⟨L,o,hf,hn,ho,hd⟩,hr⟩:=hl
   have hL:L∈X.fs:=hs L (by unfold frs; rw[List.filterMap_cons,hf]; exact List.mem_cons_self)
   obtain⟨sl,e⟩:=I.base.slot L o ho (I.ok.frf L hL) hL fun z=>I.ok.exfs L z hL
   exact⟨hk,⟨L,_,hf,hn,e,hd⟩,ih (fun b hb=>hs b (by unfold frs; rw[List.filterMap_cons,hf]; exact List.mem_cons_of_mem _ hb)) hr⟩
 exact all X.outer (fun _ hb=>hb) I.ok.funs
theorem Inv.stack (I:Inv X pins σ H s):s.heap.FunFrames X.base X.stack:=by
 rcases I.ok.stk with e|⟨e,hf⟩
 ·rw[e]; exact I.funs
 ·rw[e]
  obtain⟨m,hn,_⟩:=I.loc
  refine .cons (by rw[I.ok.kind]; decide) hf hn ?_ I.funs
  exact Heap.get?_none_of_le (Nat.le_trans I.ok.bsz I.ok.above)
theorem Inv.stkSub (I:Inv X pins σ H s):∀b∈frs X.stack,b∈X.env.locals::X.fs:=fun b hb=>by
 rcases I.ok.stk with e|⟨e,hf⟩
 ·rw[e] at hb; exact List.mem_cons_of_mem _ hb
 ·rw[e] at hb
  unfold frs at hb
  rw[List.filterMap_cons,hf] at hb
  exact hb
theorem Inv.stkFree (I:Inv X pins σ H s):∀b∈frs X.stack,H b=none:=fun b hb=>by
 rcases List.mem_cons.mp (I.stkSub b hb) with e|hb
 ·rw[e]; exact I.free
 ·obtain⟨_,o,ho,_⟩:=I.ok.funs.mem hb
  exact I.base.free b o ho (I.ok.frf b hb) fun z=>I.ok.exfs b z hb
theorem Inv.step {g':Array GenState} {t':Nat} {d':Drawn} {ch:List Addr} (I:Inv X pins σ H s)
  (hch:∀b∈ch,(b∈X.ex\/X.s₀.heap.objs.size<=b)/\b≠X.env.locals/\(∀x c,X.env.cells.lookup x=some c->c≠b)/\∀p∈X.pn++pins,p.1≠b)
  (keep:∀b o,b≠X.env.locals->b∉X.fs->b∉ch->s.heap.get? b=some o->H b=none->h'.get? b=some o)
  (slot:∀b o,b≠X.env.locals->b∈X.fs->b∉ch->s.heap.get? b=some o->H b=none->∃sl,h'.get? b=some { o with slots:=sl }) (free:∀b o,b∉ch->s.heap.get? b=some o->H b=none->H' b=none)
  (there:∀b o,b∉ch->s.heap.get? b=some o->∃o',h'.get? b=some o')
  (tups:∀b xs,H b=some (.tup xs)->H' b=some (.tup xs)) (frzs:∀b o u,H b=some (.frz o u)->H' b=some (.frz o u)) (tbls:∀b ps,H b=some (.tbl ps)->∃more,H' b=some (.tbl (ps++more)))
  (ns:∀m,s.heap.Ns X.env.locals m->h'.Ns X.env.locals m) (hok:HOk X.prog X.w H' h') (hg:AllBare g') :
  Inv X pins σ H' { s with heap:=h',gens:=g',drawn:=d',toks:=t' }:=by
 have neL:∀b o,X.s₀.heap.get? b=some o->b≠X.env.locals:=fun b o e=>Nat.ne_of_lt (Nat.lt_of_lt_of_le (Heap.lt_size e) I.ok.above)
 have neC:∀b o,X.s₀.heap.get? b=some o->b∉X.ex->b∉ch:=fun b o e hx hb=>by
  rcases(hch b hb).1 with z|z
  ·exact hx z
  ·exact absurd (Nat.lt_of_lt_of_le (Heap.lt_size e) z) (Nat.lt_irrefl _)
 have cellK:∀x c,X.env.cells.lookup x=some c->∀v,s.heap.IsCell c v->h'.IsCell c v:=fun x c e v ⟨o,ho,hd⟩=>by
  have nch:c∉ch:=fun z=>(hch c z).2.2.1 x c e rfl
  by_cases hc:c∈X.fs
  ·obtain⟨sl,q⟩:=slot c o (I.cne x c e) hc nch ho (I.freeC x c e)
   exact⟨_,q,hd⟩
  ·exact⟨o,keep c o (I.cne x c e) hc nch ho (I.freeC x c e),hd⟩
 refine⟨I.ok,I.os,hg,⟨fun b o e n hb hx=>?_,fun b o e n hb hx=>?_,fun b o e n hx=>?_,fun b o e hx=>?_,fun b xs e=>tups b xs (I.base.tups b xs e),fun b o xs e=>frzs b o xs (I.base.frzs b o xs e),fun b ps e=>?_⟩, ?_,fun x c e=>?_, ?_,fun x c e=>?_,fun p hp=>?_,hok,I.len⟩
 ·exact keep b o (neL b o e) hb (neC b o e hx) (I.base.keep b o e n hb hx) (I.base.free b o e n hx)
 ·obtain⟨sl,e1⟩:=I.base.slot b o e n hb hx
  obtain⟨sl',e2⟩:=slot b _ (neL b o e) hb (neC b o e hx) e1 (I.base.free b o e n hx)
  exact⟨sl',e2⟩
 ·obtain⟨o',e1⟩:=I.base.there b o e hx
  exact free b o' (neC b o e hx) e1 (I.base.free b o e n hx)
 ·obtain⟨o',e1⟩:=I.base.there b o e hx
  exact there b o' (neC b o e hx) e1
 ·obtain⟨m1,e1⟩:=I.base.tbls b ps e
  obtain⟨m2,e2⟩:=tbls b _ e1
  exact⟨m1++m2,by rw[e2,Array.append_assoc]⟩
 ·obtain⟨m,hn,hl⟩:=I.loc
  refine⟨m,ns m hn,fun i x v e1 e2 e3=>?_⟩
  obtain⟨u,r,l⟩:=hl i x v e1 e2 e3
  refine⟨u,r, ?_⟩
  rcases l with l|⟨k,c,e,z⟩
  ·exact .inl l
  ·exact .inr ⟨k,c,e,cellK x c e _ z⟩
 ·obtain⟨v,z⟩:=I.cell x c e
  exact⟨v,cellK x c e v z⟩
 ·obtain⟨m,⟨o,_,_,ho,_⟩,_⟩:=I.loc
  exact free _ o (fun z=>(hch _ z).2.1 rfl) ho I.free
 ·obtain⟨v,o,ho,hd⟩:=I.cell x c e
  exact free c o (fun z=>(hch c z).2.2.1 x c e rfl) ho (I.freeC x c e)
 ·obtain⟨e,n,ne,nf,d⟩:=I.pin p hp
  have nch:p.1∉ch:=fun z=>(hch p.1 z).2.2.2 p hp rfl
  exact⟨keep p.1 p.2 ne nf nch e n,free p.1 p.2 nch e n,ne,nf,d⟩
theorem Inv.un {t':Nat} (I:Inv X pins σ H s) (u:Un X.fs [] H H' s.heap h') (hok:HOk X.prog X.w H' h'):Inv X pins σ H' { s with heap:=h',toks:=t' }:=by
 obtain⟨m,⟨o,es,ep,ho,r⟩,_⟩:=id I.loc
 obtain⟨sl,hL⟩:=u.any ho I.free (by simp)
 exact I.step (g':=s.gens) (d':=s.drawn) (ch:=[]) (fun _ z=>nomatch z) (fun b o _ hb _ e n=>u.keep b o e n hb (by simp)) (fun b o _ hb _ e n=>u.slot b o e n hb (by simp)) (fun b o _ e n=>u.free b o e n (by simp)) (fun b o _ e=>u.there b o e (by simp)) u.tups u.frzs u.tbls (fun m' hm=>by
  obtain⟨o',es',ep',ho',r'⟩:=hm
  rw[ho] at ho'; cases ho'
  exact⟨_,es',ep',hL,r'⟩) hok I.bare
theorem Inv.call {g':Array GenState} {t':Nat} {d':Drawn} {ch:List Addr} (I:Inv X pins σ H s) (u:Un (frs X.stack) ch H H' s.heap h') (hok:HOk X.prog X.w H' h') (hg:AllBare g')
  (hch:∀b∈ch,(b∈X.ex\/X.s₀.heap.objs.size<=b)/\b≠X.env.locals/\(∀x c,X.env.cells.lookup x=some c->c≠b)/\∀p∈X.pn++pins,p.1≠b) :
  Inv X pins σ H' { s with heap:=h',gens:=g',drawn:=d',toks:=t' }:=by
 obtain⟨m,⟨o,es,ep,ho,r⟩,_⟩:=id I.loc
 obtain⟨sl,hL⟩:=u.any ho I.free fun z=>(hch _ z).2.1 rfl
 exact I.step (ch:=ch) hch (fun b o hL hb hc e n=>u.keep b o e n (fun z=>(List.mem_cons.mp (I.stkSub b z)).elim hL hb) hc) (fun b o _ _ hc e n=>u.any e n hc) (fun b o hc e n=>u.free b o e n hc) (fun b o hc e=>u.there b o e hc) u.tups u.frzs u.tbls (fun m' hm=>by
  obtain⟨o',es',ep',ho',r'⟩:=hm
  rw[ho] at ho'; cases ho'
  exact⟨_,es',ep',hL,r'⟩) hok hg
theorem Inv.turned {t':Nat} {it:Addr} (I:Inv X pins σ H s) (k:∀b o,b≠it->s.heap.get? b=some o->h'.get? b=some o) (hn:H it=none) (hL:it≠X.env.locals)
  (h1:it∈X.ex\/X.s₀.heap.objs.size<=it) (h2:∀x c,X.env.cells.lookup x=some c->c≠it) (h3:∀p∈X.pn++pins,p.1≠it):Inv X pins σ H { s with heap:=h',toks:=t' }:=by
 have nit:∀b u,H b=some u->b≠it:=fun b u e z=>by rw[z,hn] at e; cases e
 refine I.step (g':=s.gens) (d':=s.drawn) (ch:=[it]) (fun b hb=>?_) (fun b o _ _ hc e _=>k b o (fun z=>hc (by simp[z])) e) (fun b o _ _ hc e _=>⟨o.slots,k b o (fun z=>hc (by simp[z])) e⟩) (fun _ _ _ _ n=>n)
  (fun b o hc e=>⟨o,k b o (fun z=>hc (by simp[z])) e⟩) (fun _ _ e=>e) (fun _ _ _ e=>e) (fun b ps e=>⟨#[],by rw[e]; simp⟩) (fun m hm=>?_) (fun b u e=>?_) I.bare
 ·have e:b=it:=by simpa using hb
  subst e
  exact⟨h1,hL,h2,h3⟩
 ·obtain⟨o,es,ep,ho,r⟩:=hm
  exact⟨o,es,ep,k _ o (Ne.symm hL) ho,r⟩
 ·refine(I.hok b u e).stay (fun c v hc q=>k c v ?_ q) (fun _ q=>q) fun _ _ q=>q
  rcases hc with z|z
  ·rw[z]; exact nit b u e
  ·exact nit c _ z
theorem Inv.tok (I:Inv X pins σ H s) (t:Nat):Inv X pins σ H { s with toks:=t }:=I.un (h':=s.heap) (t':=t) Un.refl I.hok
theorem Inv.kept {t':Nat} (I:Inv X pins σ H s) (k:∀b u,s.heap.get? b=some u->h'.get? b=some u):Inv X pins σ H { s with heap:=h',toks:=t' }:=I.un (Un.kept k) (I.hok.kept k)
theorem Inv.laid {a:Addr} {o:HO} {t':Nat} (I:Inv X pins σ H s) (k:∀b u,s.heap.get? b=some u->h'.get? b=some u) (hp:s.heap.objs.size<=a) (new:ObjOk X.prog X.w (upd H a o) h' a o) :
  Inv X pins σ (upd H a o) { s with heap:=h',toks:=t' }:=I.un (Un.laid k hp (I.hok.fresh hp)) (I.hok.laid k hp new)
theorem Inv.write {x e:Addr} {o:HO} {t':Nat} (I:Inv X pins σ H s) (mu:Mut (H x)) (he:e=x\/H e=some (.own x)) (k:∀b u,b≠e->s.heap.get? b=some u->h'.get? b=some u) (heo:∃u,h'.get? e=some u)
  (new:ObjOk X.prog X.w (upd H x o) h' x o):Inv X pins σ (upd H x o) { s with heap:=h',toks:=t' }:=I.un (Un.write mu he k heo) (I.hok.write mu he k heo new)
theorem Inv.weak {σ':List (Option V)} (I:Inv X pins σ H s) (hl:σ'.length=σ.length) (w:∀(i:Nat) v,σ'[i]?=some (some v)->σ[i]?=some (some v)):Inv X pins σ' H s :=
 ⟨I.ok,I.os,I.bare,I.base,let⟨m,hn,hl'⟩:=I.loc; ⟨m,hn,fun i x v e1 e2 e3=>hl' i x v e1 (w i v e2) e3⟩,I.cell,I.free,I.freeC,I.pin,I.hok,hl.trans I.len⟩
theorem Inv.pins_of {pins':List (Addr×Obj)} (I:Inv X pins σ H s) (h:∀p∈pins',s.heap.get? p.1=some p.2/\H p.1=none/\p.1≠X.env.locals/\p.1∉X.fs/\∀v,p.2.data ≠ .cell v):Inv X pins' σ H s :=
 ⟨I.ok,I.os,I.bare,I.base,I.loc,I.cell,I.free,I.freeC,fun p hp=>(List.mem_append.mp hp).elim (fun z=>I.pin p (List.mem_append_left _ z)) (h p),I.hok,I.len⟩
theorem Qb {N:List Str} (hN:N.Nodup) {i j:Nat} {x:Str} (a:N[i]?=some x) (b:N[j]?=some x):i=j:=by
 obtain⟨h1,e1⟩:=List.getElem?_eq_some_iff.mp a
 obtain⟨h2,e2⟩:=List.getElem?_eq_some_iff.mp b
 exact(List.getElem_inj hN).mp (e1.trans e2.symm)
theorem QY {M:Model} {A:Around} {E:Value->Shared->Prop} {i:Nat} {x:Str} {v:V} {u:Value} {Q:Unit->Shared->Prop} (I:Inv X pins σ H s) (hN:X.N.Nodup) (hi:X.N[i]?=some x) (hx:Loc X.env.scope x) (r:RelV v u)
  (h:∀s',Inv X pins (σ.set i (some v)) H s'->(∃a,Heap.SameBut a s.heap s'.heap/\(a=X.env.locals\/X.env.cells.lookup x=some a))->Q () s') (hf:X.fn x=true\/X.env.scope.names.lookup x=some .local:=by first|exact .inl rfl|exact .inr rfl|assumption):wpAny M A (storeName X.env x u) Q E s:=by
 obtain⟨m,hn,hl⟩:=id I.loc
 have hcls:(X.env.scope.kind == .class||(X.env.scope.kind == .module&&X.env.locals != X.env.globals))=false:=by rw[I.ok.kind]; rfl
 have hiσ:i<σ.length:=by rw[I.len]; exact(List.getElem?_eq_some_iff.mp hi).1
 have cne:=I.cne
 have tracked:∀{a:Addr} {h':Heap},(∃o,s.heap.get? a=some o/\H a=none)->Heap.SameBut a s.heap h'->HOk X.prog X.w H h':=fun {a h'} ha hs b ob e=>by
  obtain⟨_,_,hfree⟩:=ha
  refine(I.hok b ob e).stay (fun c w' hc q=>(hs.2 c ?_).trans q) (fun _ q=>q) fun _ _ q=>q
  rintro rfl
  rcases hc with rfl|hc
  ·rw[hfree] at e; cases e
  ·rw[hfree] at hc; cases hc
 rcases hx with hk|hk
 ·refine wpAny_storeName_local hk hn (fun h' hn' hs=>?_) hcls
  obtain⟨oL,_,_,hoL,_⟩:=id hn
  refine h _ ⟨I.ok,I.os,I.bare,⟨fun b o e n hb hx=>?_,fun b o e n hb hx=>?_,I.base.free,fun b o e hx=>?_,I.base.tups,I.base.frzs,I.base.tbls⟩,⟨_,hn',fun j y v' e1 e2 e3=>?_⟩,fun y c e=>?_,I.free,I.freeC,fun p hp=>?_,tracked ⟨oL,hoL,I.free⟩ hs,by simpa using I.len⟩ ⟨_,hs, .inl rfl⟩
  ·exact(hs.2 b (Nat.ne_of_lt (Nat.lt_of_lt_of_le (Heap.lt_size e) I.ok.above))).trans (I.base.keep b o e n hb hx)
  ·obtain⟨sl,e1⟩:=I.base.slot b o e n hb hx
   exact⟨sl,(hs.2 b (Nat.ne_of_lt (Nat.lt_of_lt_of_le (Heap.lt_size e) I.ok.above))).trans e1⟩
  ·obtain⟨o',e1⟩:=I.base.there b o e hx
   exact⟨o',(hs.2 b (Nat.ne_of_lt (Nat.lt_of_lt_of_le (Heap.lt_size e) I.ok.above))).trans e1⟩
  ·by_cases hj:j=i
   ·subst hj
    rw[hi] at e1; cases e1
    rw[List.getElem?_set_self hiσ] at e2
    cases e2
    exact⟨u,r, .inl ⟨hk,by simp⟩⟩
   ·rw[List.getElem?_set_ne (Ne.symm hj)] at e2
    obtain⟨u',r',q⟩:=hl j y v' e1 e2 e3
    refine⟨u',r', ?_⟩
    rcases q with⟨k,e⟩|⟨k,c,e,z⟩
    ·refine .inl ⟨k, ?_⟩
     have:y≠x:=fun e=>hj (Qb hN e1 (e▸hi))
     simp[this,e]
    ·exact .inr ⟨k,c,e,z.sameBut hs (cne y c e)⟩
  ·obtain⟨w',z⟩:=I.cell y c e
   exact⟨w',z.sameBut hs (cne y c e)⟩
  ·obtain⟨e,n,ne,nf,d⟩:=I.pin p hp
   exact⟨(hs.2 p.1 ne).trans e,n,ne,nf,d⟩
 ·have hfn:X.fn x=true:=by
   rcases hf with z|z
   ·exact z
   ·rw[z] at hk; cases hk
  obtain⟨c,hc⟩:=I.ok.has x (.inl hk)
  obtain⟨w',z⟩:=I.cell x c hc
  refine wpAny_storeName_cell I.ok.kind hk hc z (fun h' hc' hs=>?_)
  obtain⟨oc,hoc,hocd⟩:=id z
  refine h { s with heap:=h' } ⟨I.ok,I.os,I.bare,⟨fun b o e n hb hx=>?_,fun b o e n hb hx=>?_,I.base.free,fun b o e hx=>?_,I.base.tups,I.base.frzs,I.base.tbls⟩,⟨m,hn.sameBut hs (Ne.symm (cne x c hc)),fun j y v' e1 e2 e3=>?_⟩,fun y c' e=>?_,I.free,I.freeC,fun p hp=>?_,tracked ⟨oc,hoc,I.freeC x c hc⟩ hs,by simpa using I.len⟩ ⟨c,hs, .inr hc⟩
  ·exact(hs.2 b (Nat.ne_of_lt (Nat.lt_of_lt_of_le (Heap.lt_size e) (I.ok.cab x c hfn hc)))).trans (I.base.keep b o e n hb hx)
  ·obtain⟨sl,e1⟩:=I.base.slot b o e n hb hx
   exact⟨sl,(hs.2 b (Nat.ne_of_lt (Nat.lt_of_lt_of_le (Heap.lt_size e) (I.ok.cab x c hfn hc)))).trans e1⟩
  ·obtain⟨o',e1⟩:=I.base.there b o e hx
   exact⟨o',(hs.2 b (Nat.ne_of_lt (Nat.lt_of_lt_of_le (Heap.lt_size e) (I.ok.cab x c hfn hc)))).trans e1⟩
  ·by_cases hj:j=i
   ·subst hj
    rw[hi] at e1; cases e1
    rw[List.getElem?_set_self hiσ] at e2
    cases e2
    exact⟨u,r, .inr ⟨.inl hk,c,hc,hc'⟩⟩
   ·rw[List.getElem?_set_ne (Ne.symm hj)] at e2
    obtain⟨u',r',q⟩:=hl j y v' e1 e2 e3
    refine⟨u',r', ?_⟩
    rcases q with q|⟨k,c',e,z'⟩
    ·exact .inl q
    ·refine .inr ⟨k,c',e,z'.sameBut hs ?_⟩
     rintro rfl
     exact hj (Qb hN e1 (I.ok.inj _ _ _ e hc▸hi))
  ·by_cases hcc:c'=c
   ·subst hcc; exact⟨_,hc'⟩
   ·obtain⟨w2,z2⟩:=I.cell y c' e
    exact⟨w2,z2.sameBut hs hcc⟩
  ·obtain⟨e,n,ne,nf,d⟩:=I.pin p hp
   refine⟨(hs.2 p.1 ?_).trans e,n,ne,nf,d⟩
   intro q
   rw[q,hoc] at e
   have q':oc=p.2:=Option.some.inj e
   exact d w' (by rw[<-q']; exact hocd)
theorem xL {M:Model} {A:Around} {E:Value->Shared->Prop} {i:Nat} {x:Str} {v:V} {u:Value} {Q:Unit->Shared->Prop} (I:Inv X pins σ H s) (hN:X.N.Nodup) (hi:X.N[i]?=some x) (hx:Loc X.env.scope x) (r:RelV v u)
  (h:∀s',Inv X pins (σ.set i (some v)) H s'->Q () s') (hf:X.fn x=true\/X.env.scope.names.lookup x=some .local:=by first|exact .inl rfl|exact .inr rfl|assumption):wpAny M A (storeName X.env x u) Q E s :=
 QY I hN hi hx r (fun s' I' _=>h s' I') hf
theorem Inv.call' {s':Shared} {ch:List Addr} (I:Inv X pins σ H s) (ho:s'.os=s.os) (u:Un (frs X.stack) ch H H' s.heap s'.heap) (hok:HOk X.prog X.w H' s'.heap) (hg:AllBare s'.gens)
  (hch:∀b∈ch,(b∈X.ex\/X.s₀.heap.objs.size<=b)/\b≠X.env.locals/\(∀x c,X.env.cells.lookup x=some c->c≠b)/\∀p∈X.pn++pins,p.1≠b):Inv X pins σ H' s':=by
 obtain⟨h',g',d',t',o'⟩:=s'
 have e:o'=s.os:=ho
 subst e
 exact I.call (g':=g') (t':=t') (d':=d') u hok hg hch
end
abbrev XK:=Value->Option Addr->Hp->Prop
abbrev St:=List (Option V)
abbrev VK:=V->Hp->Prop
abbrev TE:=St->Hp->VK->Prop
abbrev TT:=St->Hp->(Bool->Hp->Prop)->Prop
abbrev TA:=St->Hp->(List V->Hp->Prop)->Prop
structure Ends where
 nx:St->Hp->Prop
 rt:VK
 bk:St->Hp->Prop:=fun _ _=>False
 ct:St->Hp->Prop:=fun _ _=>False
abbrev TS:=Ends->St->Hp->Prop
def EP (X:Cx) (pins:List (Addr×Obj)) (σ:St) (Q:VK) (u:Value) (s':Shared):Prop:=∃v H',Inv X pins σ H' s'/\RelV v u/\Q v H'
def TP (X:Cx) (pins:List (Addr×Obj)) (σ:St) (Q:Bool->Hp->Prop) (b:Bool) (s':Shared):Prop:=∃H',Inv X pins σ H' s'/\Q b H'
def AP (X:Cx) (pins:List (Addr×Obj)) (σ:St) (Q:List V->Hp->Prop) (us:List Value) (s':Shared):Prop:=∃vs H',Inv X pins σ H' s'/\Vals vs us/\Q vs H'
def SP (X:Cx) (pins:List (Addr×Obj)) (D:Ends) (f:Flow) (s':Shared):Prop :=
 match f with
 |.next=>∃σ' H',Inv X pins σ' H' s'/\D.nx σ' H'
 |.brk=>∃σ' H',Inv X pins σ' H' s'/\D.bk σ' H'
 |.cont=>∃σ' H',Inv X pins σ' H' s'/\D.ct σ' H'
 |.ret u=>∃v σ' H',Inv X pins σ' H' s'/\RelV v u/\D.rt v H'
def PE (X:Cx) (e:Expr) (t:TE):Prop :=
 ∀(pins:List (Addr×Obj)) (s:Shared) (σ:St) (H:Hp) (Q:VK),Inv X pins σ H s->t σ H Q->wpAny (model X.prog X.w) X.A (eval e X.env) (EP X pins σ Q) X.xe s
def PT (X:Cx) (e:Expr) (t:TT):Prop :=
 ∀(pins:List (Addr×Obj)) (s:Shared) (σ:St) (H:Hp) (Q:Bool->Hp->Prop),Inv X pins σ H s->t σ H Q->wpAny (model X.prog X.w) X.A (isTrue e X.env (eval e X.env)) (TP X pins σ Q) X.xe s
def PW (X:Cx) (e:Expr) (t:TT):Prop :=
 ∀(whole:Sem Value) (pins:List (Addr×Obj)) (s:Shared) (σ:St) (H:Hp) (Q:Bool->Hp->Prop),Inv X pins σ H s->t σ H Q->wpAny (model X.prog X.w) X.A (isTrue e X.env whole) (TP X pins σ Q) X.xe s
theorem PW.pt {X:Cx} {e:Expr} {t:TT} (h:PW X e t):PT X e t:=h _
def PA (X:Cx) (es:List Expr) (t:TA):Prop :=
 ∀(pos:Pos) (pins:List (Addr×Obj)) (s:Shared) (σ:St) (H:Hp) (Q:List V->Hp->Prop),Inv X pins σ H s->t σ H Q->wpAny (model X.prog X.w) X.A (spliced (backTo pos (starEach es X.env))) (AP X pins σ Q) X.xe s
def PS (X:Cx) (st:Stmt) (t:TS):Prop :=
 ∀(pins:List (Addr×Obj)) (s:Shared) (σ:St) (H:Hp) (D:Ends),Inv X pins σ H s->t D σ H->wpAny (model X.prog X.w) X.A (exec st X.env) (SP X pins D) X.xe s
def PSs (X:Cx) (st:List Stmt) (t:TS):Prop :=
 ∀(pins:List (Addr×Obj)) (s:Shared) (σ:St) (H:Hp) (D:Ends),Inv X pins σ H s->t D σ H->wpAny (model X.prog X.w) X.A (execs st X.env) (SP X pins D) X.xe s
theorem thn {α:Type} {t:Sem α} {Q Q':α->Shared->Prop} {M:Model} {A:Around} {E:Value->Shared->Prop} {s:Shared} (h:wpAny M A t Q E s) (hQ:∀a s,Q a s->Q' a s):wpAny M A t Q' E s:=wpAny_mono h hQ fun _ _ x=>x
section
variable {X:Cx}
theorem bin {a b:Expr} {ta tb:TE} (ha:PE X a ta) (hb:PE X b tb) {pins:List (Addr×Obj)} {s:Shared} {σ:St} {H:Hp} {R:V->V->Hp->Prop} (I:Inv X pins σ H s) (h:ta σ H fun x H1=>tb σ H1 fun y H2=>R x y H2)
  {α:Type} {Q:α->Shared->Prop} {f:Value->Value->Sem α}
  (hf:∀v u s2 x y H2,Inv X pins σ H2 s2->RelV x v->RelV y u->R x y H2->wpAny (model X.prog X.w) X.A (f v u) Q X.xe s2) :
  wpAny (model X.prog X.w) X.A (eval a X.env) (fun v s₁=>wpAny (model X.prog X.w) X.A (eval b X.env) (fun u s₂=>wpAny (model X.prog X.w) X.A (f v u) Q X.xe s₂) X.xe s₁) X.xe s:=by
 refine thn (ha pins s σ H _ I h) fun v s1 ⟨x,H1,I1,r1,q1⟩=>?_
 refine thn (hb pins s1 σ H1 _ I1 q1) fun u s2 ⟨y,H2,I2,r2,q2⟩=>?_
 exact hf v u s2 x y H2 I2 r1 r2 q2
def tVar (i:Nat):TE:=fun σ H Q=>∃v,σ[i]?=some (some v)/\Q v H
def tC (v:V):TE:=fun _ H Q=>Q v H
theorem pe_var {i:Nat} {x:Str} {pos:Pos} (hN:X.N[i]?=some x) (hv:Vis X.env.scope x) (hd:(x==("__debug__" : Str))=false:=by decide) (hcd:(x==("__classdict__" : Str))=false:=by decide):PE X (.Name x pos) (tVar i):=by
 intro pins s σ H Q I h
 obtain⟨v,e,h⟩:=h
 obtain⟨m,hn,hl⟩:=I.loc
 obtain⟨u,r,l⟩:=hl i x v hN e hv
 have fin:EP X pins σ Q u s:=⟨v,H,I,r,h⟩
 rcases l with⟨hk,hm⟩|⟨hk,c,hc,hcell⟩
 ·exact wpAny_Name (wpAny_loadName_local I.ok.kind hk hn hm fin) hd
 ·rcases hk with hk|hk
  ·exact wpAny_Name (wpAny_loadName_cell I.ok.kind hk hc hcell fin) hd
  ·exact wpAny_Name (wpAny_loadName_free I.ok.kind hk hc hcell fin hcd) hd
theorem pe_int {i j pos}:PE X (.Constant (.int i) j pos) (tC (.int i)):=fun _ _ _ H _ I h=>wpAny_Constant_int ⟨.int i,H,I.tok _,⟨_,rfl⟩,h⟩
theorem pe_bl {b j pos}:PE X (.Constant (.bool b) j pos) (tC (.bl b)):=fun _ _ _ H _ I h=>Constant_bool ⟨.bl b,H,I,rfl,h⟩
theorem pe_non {j pos}:PE X (.Constant .none j pos) (tC .non):=fun _ _ _ H _ I h=>Constant_none ⟨.non,H,I,rfl,h⟩
theorem pe_str {x j pos}:PE X (.Constant (.str x) j pos) (tC (.str x)):=fun _ _ _ H _ I h=>Calls.Constant_str ⟨.str x,H,I.tok _,⟨_,rfl⟩,h⟩
def Gl (X:Cx) (x:Str):Prop:=X.env.kindOf x=some .globalImplicit
theorem xD {E:Value->Shared->Prop} {pins:List (Addr×Obj)} {s:Shared} {σ:St} {H:Hp} {x:Str} {u:Value} {pos:Pos} {Q:Value->Shared->Prop} (I:Inv X pins σ H s) (hg:Gl X x) (hm:X.mg x=some u) (h:Q u s)
  (hd:(x==("__debug__" : Str))=false:=by decide):wpAny (model X.prog X.w) X.A (eval (.Name x pos) X.env) Q E s :=
 Calls.Name_function_global I.ok.kind hg (Calls.loadGlobal_global (by rw[I.ok.glob]; exact I.mod.glob.keeps I.bk) hm h) hd
theorem jY {E:Value->Shared->Prop} {pins:List (Addr×Obj)} {s:Shared} {σ:St} {H:Hp} {x:Str} {u:Value} {pos:Pos} {Q:Value->Shared->Prop} (I:Inv X pins σ H s) (hg:Gl X x) (hm:X.mg x=none) (hv:bootBuiltins x=some u) (h:Q u s)
  (hn:x ≠ "__name__" := by decide) (hd:(x==("__debug__" : Str))=false:=by decide):wpAny (model X.prog X.w) X.A (eval (.Name x pos) X.env) Q E s:=by
 obtain⟨mb,h1,h2⟩:=I.mod.blt
 exact Calls.Name_function_global I.ok.kind hg (Calls.loadGlobal_builtin (by rw[I.ok.glob]; exact I.mod.glob.keeps I.bk) hm (by rw[I.ok.blt]; exact h1.keeps I.bk) ((h2 x hn).trans hv) h) hd
theorem VS {x:Str} {v:V} {u:Value} {pos:Pos} (hg:Gl X x) (hm:X.mg x=some u) (r:RelV v u) (hd:(x==("__debug__" : Str))=false:=by decide):PE X (.Name x pos) (tC v) :=
 fun _ _ _ H _ I h=>xD I hg hm ⟨v,H,I,r,h⟩ hd
theorem pe_bltn {x:Str} {v:V} {u:Value} {pos:Pos} (hg:Gl X x) (hm:X.mg x=none) (hv:bootBuiltins x=some u) (r:RelV v u) (hn:x ≠ "__name__" := by decide) (hd:(x==("__debug__" : Str))=false:=by decide):PE X (.Name x pos) (tC v) :=
 fun _ _ _ H _ I h=>jY I hg hm hv ⟨v,H,I,r,h⟩ hn hd
variable {a b:Expr} {ta tb:TE} {pos:Pos}
def PC (X:Cx) (op:CmpOp) (a b:Expr) (t:TE):Prop :=
 ∀(pins:List (Addr×Obj)) (s:Shared) (σ:St) (H:Hp) (Q:VK),Inv X pins σ H s->t σ H Q ->
  wpAny (model X.prog X.w) X.A (eval a X.env) (fun v s₁=>wpAny (model X.prog X.w) X.A (eval b X.env) (fun u s₂=>wpAny (model X.prog X.w) X.A (compareOp op v u) (EP X pins σ Q) X.xe s₂) X.xe s₁) X.xe s
def tB (t:TE):TT:=fun σ H Q=>t σ H fun x H1=>∃c,x=.bl c/\Q c H1
theorem pt_cmp {op:CmpOp} {t:TE} (h:PC X op a b t) (h1:behindInMarks op b=false:=by first|exact nobehind _ (by decide) (by decide)|rfl):PT X (.Compare a [op] [b] pos) (tB t):=by
 intro pins s σ H Q I hw
 refine wpAny_isTrue_Compare1 (thn (h pins s σ H _ I hw) fun v s1 h1=>thn h1 fun u s2 h2=>thn h2 fun c s3 ⟨x,H1,I1,r1,q1⟩=>?_) h1
 obtain⟨d,rfl,q⟩:=q1
 cases r1
 exact wpAny_truthy_bool ⟨H1,I1,q⟩
theorem pt_val {e:Expr} {t:TE} (h:PE X e t) (he:∀whole,isTrue e X.env whole=(do let v <-whole; standAt e.pos; holding [v] (truthy v)):=by intro _; rfl):PT X e (tB t):=by
 intro pins s σ H Q I hw
 refine isTrue_plain (thn (h pins s σ H _ I hw) fun v s1 ⟨x,H1,I1,r1,q1⟩=>?_) (he _)
 obtain⟨d,rfl,q⟩:=q1
 cases r1
 exact wpAny_truthy_bool ⟨H1,I1,q⟩
variable {tA tB':TT} {rest:List Expr}
def tAnd (t u:TT):TT:=fun σ H Q=>t σ H fun c H1=>if c=true then u σ H1 Q else Q false H1
def tOr (t u:TT):TT:=fun σ H Q=>t σ H fun c H1=>if c=true then Q true H1 else u σ H1 Q
def tNot (t:TT):TT:=fun σ H Q=>t σ H fun c H1=>Q (!c) H1
theorem pw_and1 (ha:PT X a tA):PW X (.BoolOp .And [a] pos) tA:=by
 intro wh pins s σ H Q I h
 refine isTrue_and (thn (ha pins s σ H Q I h) fun c s1 e=>?_)
 cases c with
 |true=>exact isTrue_and_nil e
 |false=>exact e
theorem pw_or1 (ha:PT X a tA):PW X (.BoolOp .Or [a] pos) tA:=by
 intro wh pins s σ H Q I h
 refine isTrue_or (thn (ha pins s σ H Q I h) fun c s1 e=>?_)
 cases c with
 |false=>exact isTrue_or_nil e
 |true=>exact e
theorem pw_and (ha:PT X a tA) (hb:PW X (.BoolOp .And (b::rest) pos) tB'):PW X (.BoolOp .And (a::b::rest) pos) (tAnd tA tB'):=by
 intro wh pins s σ H Q I h
 refine isTrue_and (thn (ha pins s σ H _ I h) fun c s1 ⟨H1,I1,q1⟩=>?_)
 cases c with
 |true=>exact hb wh pins s1 σ H1 Q I1 q1
 |false=>exact⟨H1,I1,q1⟩
theorem pw_or (ha:PT X a tA) (hb:PW X (.BoolOp .Or (b::rest) pos) tB'):PW X (.BoolOp .Or (a::b::rest) pos) (tOr tA tB'):=by
 intro wh pins s σ H Q I h
 refine isTrue_or (thn (ha pins s σ H _ I h) fun c s1 ⟨H1,I1,q1⟩=>?_)
 cases c with
 |true=>exact⟨H1,I1,q1⟩
 |false=>exact hb wh pins s1 σ H1 Q I1 q1
theorem pt_not (ha:PT X a tA):PT X (.UnaryOp .Not a pos) (tNot tA):=by
 intro pins s σ H Q I h
 exact isTrue_not (ha pins s σ H (fun c H1=>Q (!c) H1) I h)
def QU (ta tb:TE):TE:=fun σ H Q=>ta σ H fun x H1=>∃c,x=.bl c/\if c=true then tb σ H1 Q else Q (.bl false) H1
def tOrV (ta tb:TE):TE:=fun σ H Q=>ta σ H fun x H1=>∃c,x=.bl c/\if c=true then Q (.bl true) H1 else tb σ H1 Q
def tNotV (ta:TE):TE:=fun σ H Q=>ta σ H fun x H1=>∃c,x=.bl c/\Q (.bl (!c)) H1
theorem pe_one {op} {t:TE} (h:PE X a t):PE X (.BoolOp op [a] pos) t:=fun pins s σ H Q I hw=>BoolOp_one (h pins s σ H Q I hw)
theorem pe_and (ha:PE X a ta) (hb:PE X (.BoolOp .And (b::rest) pos) tb):PE X (.BoolOp .And (a::b::rest) pos) (QU ta tb):=by
 intro pins s σ H Q I h
 refine BoolOp_and (thn (ha pins s σ H _ I h) fun v s1 ⟨x,H1,I1,r1,q1⟩=>?_)
 obtain⟨c,rfl,q1⟩:=q1
 cases r1
 refine wpAny_truthy_bool ?_
 cases c with
 |true=>exact hb pins s1 σ H1 Q I1 q1
 |false=>exact⟨.bl false,H1,I1,rfl,q1⟩
def tIf (t:TT) (ta tb:TE):TE:=fun σ H Q=>t σ H fun c H1=>if c=true then ta σ H1 Q else tb σ H1 Q
theorem pe_ifExp {c:Expr} (hc:PT X c tA) (ha:PE X a ta) (hb:PE X b tb):PE X (.IfExp c a b pos) (tIf tA ta tb):=by
 intro pins s σ H Q I h
 refine wpAny_IfExp (thn (hc pins s σ H _ I h) fun d s1 ⟨H1,I1,q1⟩=>?_)
 cases d with
 |true=>exact ha pins s1 σ H1 Q I1 q1
 |false=>exact hb pins s1 σ H1 Q I1 q1
end
def SqL (K:PySem.W.Frag) (H:Hp) (a:Addr) (xs:List V):Prop :=
 Rd H a (.lst xs) \/
  ∃(o:Obj) (its:Array Value) (n:Nat),K.lookup a=some o/\o.cls=.type "list" /\ o.dict=none/\o.data=.seq its n/\its.size<=sizeLine/\Vals xs its.toList
def SqT (K:PySem.W.Frag) (H:Hp) (a:Addr) (xs:List V):Prop :=
 Rd H a (.tup xs) \/
  ∃(o:Obj) (its:Array Value) (n:Nat),K.lookup a=some o/\o.cls=.type "tuple" /\ o.data=.seq its n/\its.size<=sizeLine/\Vals xs its.toList
def absV:Value->Option V
 |.none=>some .non
 |.bool b=>some (.bl b)
 |.int i _=>some (.int i)
 |.str x _=>some (.str x)
 |.bytes b _=>some (.byt b)
 |.float b _=>some (.flt b)
 |.ref a=>some (.ref a)
 |.type n=>some (.ty n)
 |_=>none
theorem RelV.abs {x:V} {u:Value} (r:RelV x u):absV u=some x:=by
 cases x with
 |non=>cases r; rfl
 |bl _=>cases r; rfl
 |int _=>obtain⟨t,rfl⟩:=r; rfl
 |str _=>obtain⟨t,rfl⟩:=r; rfl
 |byt _=>obtain⟨t,rfl⟩:=r; rfl
 |flt _=>obtain⟨t,rfl⟩:=r; rfl
 |ref _=>cases r; rfl
 |ty _=>cases r; rfl
theorem RelV.inj {x y:V} {u:Value} (r:RelV x u) (q:RelV y u):x=y:=Option.some.inj (r.abs.symm.trans q.abs)
theorem Vals.inj:∀{xs ys:List V} {us:List Value},Vals xs us->Vals ys us->xs=ys
 |_,_,_, .nil, .nil=>rfl
 |_,_,_, .cons r t, .cons r' t'=>by rw[r.inj r',Vals.inj t t']
section
variable {X:Cx} {pins:List (Addr×Obj)} {σ:St} {H:Hp} {s:Shared} {a:Addr} {xs ys:List V}
theorem SqL.of {K:PySem.W.Frag} (h:H a=some (.lst xs)):SqL K H a xs:=.inl (.inl h)
theorem SqT.of {K:PySem.W.Frag} (h:H a=some (.tup xs)):SqT K H a xs:=.inl (.inl h)
theorem Inv.list (I:Inv X pins σ H s) (h:SqL X.K H a xs):∃its:List Value,Vals xs its/\PlainL s.heap a its.toArray/\xs.length<=sizeLine:=by
 rcases h with h|⟨o,its,n,hk,hc,hd,hs,hz,r⟩
 ·obtain⟨z,its,n,r,e⟩:=h.ok I.hok
  exact⟨its,r,⟨_,n,e,rfl,rfl,rfl⟩,z⟩
 ·refine⟨its.toList,r,⟨o,n,I.kIn a o hk,hc,hd,by simpa using hs⟩, ?_⟩
  have e:=r.length
  simp only[Array.length_toList] at e
  omega
theorem Inv.tuple (I:Inv X pins σ H s) (h:SqT X.K H a xs):∃its:List Value,Vals xs its/\IsTup s.heap a its.toArray/\xs.length<=sizeLine:=by
 rcases h with h|⟨o,its,n,hk,hc,hs,hz,r⟩
 ·obtain⟨z,its,r,p⟩:=h.ok I.hok
  exact⟨its,r,p,z⟩
 ·refine⟨its.toList,r,⟨o,I.kIn a o hk,hc,n,by simpa using hs⟩, ?_⟩
  have e:=r.length
  simp only[Array.length_toList] at e
  omega
theorem Inv.list_inj (I:Inv X pins σ H s) (h:SqL X.K H a xs) (h':SqL X.K H a ys):xs=ys:=by
 obtain⟨its,r,⟨o,n,e,_,_,d⟩,_⟩:=I.list h
 obtain⟨its',r',⟨o',n',e',_,_,d'⟩,_⟩:=I.list h'
 rw[e] at e'; cases e'
 rw[d] at d'
 injection d' with d1 _
 have:its=its':=by simpa using congrArg Array.toList d1
 subst this
 exact r.inj r'
theorem Inv.tuple_inj (I:Inv X pins σ H s) (h:SqT X.K H a xs) (h':SqT X.K H a ys):xs=ys:=by
 obtain⟨its,r,⟨o,e,_,n,d⟩,_⟩:=I.tuple h
 obtain⟨its',r',⟨o',e',_,n',d'⟩,_⟩:=I.tuple h'
 rw[e] at e'; cases e'
 rw[d] at d'
 injection d' with d1 _
 have:its=its':=by simpa using congrArg Array.toList d1
 subst this
 exact r.inj r'
end
abbrev Cx.wish (X:Cx) (E:Value->Shared->Prop):Cx:={ X with xe:=E }
abbrev Cx.nox (X:Cx):Cx:=X.wish fun _ _=>False
theorem Cx.Ok.wish {X:Cx} (ok:X.Ok) (E:Value->Shared->Prop):(X.wish E).Ok :=
 ⟨ok.mod,ok.kind,ok.glob,ok.blt,ok.above,ok.inj,ok.has,ok.cab,ok.hd,ok.frames,ok.stk,ok.exf,ok.bs,ok.bsz,ok.noex,ok.exfs,ok.funs,ok.frf⟩
theorem Cx.Ok.unwish {X:Cx} {E:Value->Shared->Prop} (ok:(X.wish E).Ok):X.Ok :=
 ⟨ok.mod,ok.kind,ok.glob,ok.blt,ok.above,ok.inj,ok.has,ok.cab,ok.hd,ok.frames,ok.stk,ok.exf,ok.bs,ok.bsz,ok.noex,ok.exfs,ok.funs,ok.frf⟩
section
variable {X:Cx} {pins:List (Addr×Obj)} {σ:St} {H:Hp} {s:Shared} {E:Value->Shared->Prop}
theorem Inv.wish (I:Inv X pins σ H s) (E:Value->Shared->Prop):Inv (X.wish E) pins σ H s:=⟨I.ok.wish E,I.os,I.bare,I.base,I.loc,I.cell,I.free,I.freeC,I.pin,I.hok,I.len⟩
theorem Inv.unwish (I:Inv (X.wish E) pins σ H s):Inv X pins σ H s:=⟨I.ok.unwish,I.os,I.bare,I.base,I.loc,I.cell,I.free,I.freeC,I.pin,I.hok,I.len⟩
theorem SP.unwish {D:Ends} {f:Flow} {s':Shared} (h:SP (X.wish E) pins D f s'):SP X pins D f s':=by
 cases f with
 |next=>obtain⟨σ',H',I,q⟩:=h; exact⟨σ',H',I.unwish,q⟩
 |brk=>obtain⟨σ',H',I,q⟩:=h; exact⟨σ',H',I.unwish,q⟩
 |cont=>obtain⟨σ',H',I,q⟩:=h; exact⟨σ',H',I.unwish,q⟩
 |ret u=>obtain⟨v,σ',H',I,r,q⟩:=h; exact⟨v,σ',H',I.unwish,r,q⟩
theorem PT.nox {e:Expr} {t:TT} (h:PT X.nox e t):PT X e t:=fun pins s σ H Q I hw =>
 wpAny_mono (h pins s σ H Q (I.wish _) hw) (fun _ _ ⟨H',I',q⟩=>⟨H',I'.unwish,q⟩) fun _ _ z=>False.elim z
theorem PSs.nox {st:List Stmt} {t:TS} (h:PSs X.nox st t):PSs X st t:=fun pins s σ H D I hw =>
 wpAny_mono (h pins s σ H D (I.wish _) hw) (fun _ _ q=>q.unwish) fun _ _ z=>False.elim z
end
section
variable {X:Cx} {st:Stmt} {rest:List Stmt} {t u:TS} {e:Expr} {te:TE} {pos:Pos}
def kM:TS:=fun D σ H=>D.nx σ H
def tSeq (t u:TS):TS:=fun D σ H=>t { D with nx:=u D } σ H
theorem pss_nil:PSs X [] kM:=fun _ _ σ H _ I h=>wpAny_execs_nil ⟨σ,H,I,h⟩
theorem pss_cons (h1:PS X st t) (h2:PSs X rest u):PSs X (st::rest) (tSeq t u):=by
 intro pins s σ H D I h
 refine wpAny_execs_cons (thn (h1 pins s σ H { D with nx:=u D } I h) fun f s1 q=>?_)
 cases f with
 |next =>
  obtain⟨σ',H',I',q⟩:=q
  exact h2 pins s1 σ' H' D I' q
 |ret v=>exact q
 |brk=>exact q
 |cont=>exact q
theorem pss_one (h1:PS X st t):PSs X [st] t:=by
 intro pins s σ H D I h
 refine wpAny_execs_cons (thn (h1 pins s σ H D I h) fun f s1 q=>?_)
 cases f with
 |next=>exact wpAny_execs_nil q
 |ret v=>exact q
 |brk=>exact q
 |cont=>exact q
theorem Inv.quiet {pins:List (Addr×Obj)} {σ:St} {H:Hp} {s:Shared} (I:Inv X pins σ H s):interactive X.env=false:=by simp[interactive,I.ok.kind]
def QR (te:TE):TS:=fun D σ H=>te σ H fun _ H1=>D.nx σ H1
theorem ps_expr (he:PE X e te) (hs:swapsWith e none pos.line X.env=pure false:=by rfl):PS X (.Expr e pos) (QR te):=by
 intro pins s σ H D I h
 exact wpAny_Expr_any (thn (he pins s σ H _ I h) fun v s1 ⟨x,H1,I1,r1,q1⟩=>⟨σ,H1,I1,q1⟩) I.quiet hs
def tRet (te:TE):TS:=fun D σ H=>te σ H D.rt
theorem ps_ret (he:PE X e te):PS X (.Return (some e) pos) (tRet te):=by
 intro pins s σ H D I h
 exact wpAny_Return_some (thn (he pins s σ H _ I h) fun v s1 ⟨x,H1,I1,r1,q1⟩=>⟨x,σ,H1,I1,r1,q1⟩)
def tRetN:TS:=fun D _ H=>D.rt .non H
def tIfS (c:TT) (t u:TS):TS:=fun D σ H=>c σ H fun b H1=>if b=true then t D σ H1 else u D σ H1
theorem ps_if {c:Expr} {a b:List Stmt} {tc:TT} (hc:PT X c tc) (ha:PSs X a t) (hb:PSs X b u):PS X (.If c a b pos) (tIfS tc t u):=by
 intro pins s σ H D I h
 refine wpAny_If (thn (hc pins s σ H _ I h) fun d s1 ⟨H1,I1,q1⟩=>?_)
 cases d with
 |true=>exact ha pins s1 σ H1 D I1 q1
 |false=>exact hb pins s1 σ H1 D I1 q1
end
abbrev TG:=V->St->Hp->(St->Hp->Prop)->Prop
abbrev TGs:=List V->St->Hp->(St->Hp->Prop)->Prop
def PG (X:Cx) (target:Expr) (t:TG):Prop :=
 ∀(pins:List (Addr×Obj)) (s:Shared) (σ:St) (H:Hp) (v:V) (u:Value) (Q:St->Hp->Prop),Inv X pins σ H s->RelV v u->t v σ H Q ->
  wpAny (model X.prog X.w) X.A (assign target X.env u) (fun _ s'=>∃σ' H',Inv X pins σ' H' s'/\Q σ' H') X.xe s
def PGs (X:Cx) (ts:List Expr) (t:TGs):Prop :=
 ∀(pins:List (Addr×Obj)) (s:Shared) (σ:St) (H:Hp) (vs:List V) (us:List Value) (Q:St->Hp->Prop),Inv X pins σ H s->Vals vs us->t vs σ H Q ->
  wpAny (model X.prog X.w) X.A (assignInOrder ((assignEach ts X.env).map (·.2)) us) (fun _ s'=>∃σ' H',Inv X pins σ' H' s'/\Q σ' H') X.xe s
abbrev TSet:=V->V->V->Hp->(Hp->Prop)->Prop
def PSet (X:Cx) (t:TSet):Prop :=
 ∀(pins:List (Addr×Obj)) (s:Shared) (σ:St) (H:Hp) (o i v:V) (ov iv u:Value) (Q:Hp->Prop),Inv X pins σ H s->RelV o ov->RelV i iv->RelV v u->t o i v H Q ->
  wpAny (model X.prog X.w) X.A (setItem ov iv u) (fun _ s'=>∃H',Inv X pins σ H' s'/\Q H') X.xe s
section
variable {X:Cx} {pos:Pos}
def qZ (i:Nat):TG:=fun v σ H Q=>Q (σ.set i (some v)) H
theorem VR {i:Nat} {x:Str} (hN:X.N.Nodup) (hi:X.N[i]?=some x) (hx:Loc X.env.scope x) (hf:X.fn x=true\/X.env.scope.names.lookup x=some .local:=by first|exact .inl rfl|exact .inr rfl|assumption):PG X (.Name x pos) (qZ i):=by
 intro pins s σ H v u Q I r h
 exact wpAny_assign_Name (xL I hN hi hx r (fun s' I'=>⟨_,H,I',h⟩) hf)
def gNil:TGs:=fun vs σ H Q=>vs=[]/\Q σ H
def zn (t:TG) (u:TGs):TGs:=fun vs σ H Q=>∃v r,vs=v::r/\t v σ H fun σ' H'=>u r σ' H' Q
theorem pgs_nil:PGs X [] gNil:=by
 intro pins s σ H vs us Q I r h
 obtain⟨e,h⟩:=h
 subst e
 cases r
 exact assignInOrder_nil ⟨σ,H,I,h⟩
theorem ZW {e:Expr} {es:List Expr} {t:TG} {u:TGs} (h1:PG X e t) (h2:PGs X es u)
  (hs:(assignEach (e::es) X.env).map (·.2)=assign e X.env::(assignEach es X.env).map (·.2):=by rfl):PGs X (e::es) (zn t u):=by
 intro pins s σ H vs us Q I r h
 obtain⟨v,vr,e1,h⟩:=h
 subst e1
 cases r with
 |cons r rr =>
  rw[hs]
  refine assignInOrder_cons (thn (h1 pins s σ H _ _ _ I r h) fun _ s1 ⟨σ1,H1,I1,q1⟩=>?_)
  exact h2 pins s1 σ1 H1 _ _ Q I1 rr q1
def gTup (K:PySem.W.Frag) (n:Nat) (t:TGs):TG:=fun v σ H Q=>∃a xs,v=.ref a/\SqT K H a xs/\xs.length=n/\t xs σ H Q
theorem pg_tup {es:List Expr} {k:Nat} {t:TGs} {n:Nat} (hc:X.calm=true) (h:PGs X es t)
  (hn:(assignEach es X.env).length=n:=by rfl) (hst:(assignEach es X.env).findIdx? (·.1)=none:=by rfl):PG X (.Tuple es k pos) (gTup X.K n t):=by
 intro pins s σ H v u Q I r hw
 obtain⟨a,xs,e1,hq,hl,hw⟩:=hw
 subst e1
 cases r
 obtain⟨its,rv,ht,hz⟩:=I.tuple hq
 refine assign_Tuple_tuple (I.ok.hd hc) ht (by simp[hn, <-hl,rv.length]) hst fun h' hx=>?_
 have I1:Inv X pins σ H { s with heap:=h' }:=I.kept (t':=s.toks) fun b o e=>hx b o (Nat.ne_of_lt (Heap.lt_size e)) e
 exact h pins _ σ H xs _ Q I1 (by simpa using rv) hw
def gSub (to ti:TE) (t:TSet):TG:=fun v σ H Q=>to σ H fun o H1=>ti σ H1 fun i H2=>t o i v H2 fun H3=>Q σ H3
theorem pg_sub {o i:Expr} {to ti:TE} {t:TSet} (ho:PE X o to) (hi:PE X i ti) (hs:PSet X t)
  (ha:∀v,assign (.Subscript o i pos) X.env v=(do
   let ov <-holding [v] (eval o X.env)
   let iv <-holding [v,ov] (eval i X.env)
   standAt pos
   holding [v,ov,iv] (setItem ov iv v)
   release [v,ov,iv] []):=by intro _; rfl):PG X (.Subscript o i pos) (gSub to ti t):=by
 intro pins s σ H v u Q I r h
 rw[ha]
 refine wpAny_bind (wpAny_holding (thn (ho pins s σ H _ I h) fun ov s1 ⟨x,H1,I1,r1,q1⟩=>?_))
 refine wpAny_bind (wpAny_holding (thn (hi pins s1 σ H1 _ I1 q1) fun iv s2 ⟨y,H2,I2,r2,q2⟩=>?_))
 refine wpAny_bind (wpAny_standAt (wpAny_bind (wpAny_holding (thn (hs pins s2 σ H2 x y v ov iv u _ I2 r1 r2 r q2) fun _ s3 ⟨H3,I3,q3⟩=>?_))))
 exact wpAny_release ⟨σ,H3,I3,q3⟩
def tAsg (te:TE) (g:TG):TS:=fun D σ H=>te σ H fun x H1=>g x σ H1 D.nx
theorem ps_asg {tg e:Expr} {te:TE} {g:TG} (he:PE X e te) (hg:PG X tg g) (hs:swapsWithSole [tg] e pos.line X.env=pure false:=by rfl) (hw:swappedStores [tg] e X.env=pure none:=by rfl)
  (h1:(assignEach [tg] X.env).map (·.2)=[assign tg X.env]:=by rfl):PS X (.Assign [tg] e pos) (tAsg te g):=by
 intro pins s σ H D I h
 refine wpAny_Assign_stores (thn (he pins s σ H _ I h) fun v s1 ⟨x,H1,I1,r1,q1⟩=>?_) hs hw
 rw[h1]
 exact thn (hg pins s1 σ H1 x v _ I1 r1 q1) fun _ s2 q=>q
theorem ps_set {i:Nat} {x:Str} {e:Expr} {te:TE} {pos':Pos} (hN:X.N.Nodup) (hi:X.N[i]?=some x) (hx:Loc X.env.scope x) (he:PE X e te) (hs:swapsWith e (some (.Name x pos')) pos.line X.env=pure false:=by rfl) (hf:X.fn x=true\/X.env.scope.names.lookup x=some .local:=by first|exact .inl rfl|exact .inr rfl|assumption) :
  PS X (.Assign [.Name x pos'] e pos) (tAsg te (qZ i)):=by
 intro pins s σ H D I h
 refine wpAny_Assign_Name (thn (he pins s σ H _ I h) fun v s1 ⟨y,H1,I1,r1,q1⟩=>?_) hs
 exact xL I1 hN hi hx r1 (fun s2 I2=>⟨_,H1,I2,q1⟩) hf
end
structure It where
 go:Nat->Hp->Prop
 yld:Nat->Hp->V->Hp->Prop
 stop:Nat->Hp->Prop
def FpOk (X:Cx) (pins:List (Addr×Obj)) (H:Hp) (b:Addr):Prop :=
 H b=none/\b≠X.env.locals/\b∉X.fs/\(b∈X.ex\/X.s₀.heap.objs.size<=b)/\(∀x c,X.env.cells.lookup x=some c->c≠b)/\∀p∈X.pn++pins,p.1≠b
theorem Inv.fpOk {X:Cx} {pins:List (Addr×Obj)} {σ:St} {H H':Hp} {s:Shared} {b:Addr} (I:Inv X pins σ H s) (hb:s.heap.objs.size<=b) (hn:H' b=none):FpOk X pins H' b:=by
 refine⟨hn,Nat.ne_of_gt (Nat.lt_of_lt_of_le I.lt hb),I.nofs hb, .inr (Nat.le_trans I.sz hb),fun x c e z=>?_,fun p hp z=>?_⟩
 ·obtain⟨v,q⟩:=I.cell x c e
  exact absurd (Nat.lt_of_lt_of_le q.lt (by rw[z]; exact hb)) (Nat.lt_irrefl _)
 ·exact absurd (Nat.lt_of_lt_of_le (Heap.lt_size (I.pin p hp).1) (by rw[z]; exact hb)) (Nat.lt_irrefl _)
structure Turn (P:Program) (w:World) (K:PySem.W.Frag) (tg:Expr) (J:It) (fp:List Addr) (it:Addr) (tn:Nat->Heap->Prop):Prop where
 mem:it∈fp
 obj:∀i h,tn i h->∀b∈fp,∃o,h.get? b=some o/\∀v,o.data ≠ .cell v
 keep:∀i h h',tn i h->(∀b∈fp,∀o,h.get? b=some o->h'.get? b=some o)->tn i h'
 item:∀(X:Cx),X.prog=P->X.w=w->X.K=K->X.calm=true->∀(i:Nat) (pins:List (Addr×Obj)) (s:Shared) (σ:St) (H:Hp) (E:Value->Shared->Prop),Inv X pins σ H s->(∀b∈fp,FpOk X pins H b)->tn i s.heap->J.go i H ->
  wpAny (model P w) X.A (pyNext (.ref it)) (fun r s1=>∃u,r=some u /\
   wpAny (model P w) X.A (letOwnedTupleGo tg (.ref it) u) (fun _ s2=>∃x H',Inv X pins σ H' s2/\RelV x u/\J.yld i H x H'/\tn (i+1) s2.heap/\∀b∈fp,H' b=none) E s1) E s
 done:∀(X:Cx),X.prog=P->X.w=w->X.K=K->X.calm=true->∀(i:Nat) (pins:List (Addr×Obj)) (s:Shared) (σ:St) (H:Hp) (E:Value->Shared->Prop),Inv X pins σ H s->(∀b∈fp,FpOk X pins H b)->tn i s.heap->J.stop i H ->
  wpAny (model P w) X.A (pyNext (.ref it)) (fun r s1=>r=none/\Inv X pins σ H s1) E s
 self:∀(A:Around) (i:Nat) (s:Shared) (Q:Value->Shared->Prop) (E:Value->Shared->Prop),tn i s.heap->Q (.ref it) s->wpAny (model P w) A (pyIter (.ref it)) Q E s
abbrev TI:=St->Hp->(It->Hp->Prop)->Prop
def PIE (X:Cx) (pins:List (Addr×Obj)) (σ:St) (tg:Expr) (R:It->Hp->Prop) (itv:Value) (s2:Shared):Prop :=
 ∃(it:Addr) (fp:List Addr) (tn:Nat->Heap->Prop) (J:It) (H':Hp),itv=.ref it/\Inv X pins σ H' s2/\Turn X.prog X.w X.K tg J fp it tn/\tn 0 s2.heap/\(∀b∈fp,FpOk X pins H' b)/\R J H'
def PI (X:Cx) (tg iter:Expr) (wi:TI):Prop :=
 ∀(pins:List (Addr×Obj)) (s:Shared) (σ:St) (H:Hp) (R:It->Hp->Prop),Inv X pins σ H s->wi σ H R ->
  wpAny (model X.prog X.w) X.A (eval iter X.env) (fun v s1=>wpAny (model X.prog X.w) X.A (pyIter v) (PIE X pins σ tg R) X.xe s1) X.xe s
theorem go_of {M:Model} {A:Around} {E:Value->Shared->Prop} {s:Shared} {tg:Expr} {it:Addr} {u:Value} {o:Obj} {n:String} {vs:Array Value} {Q:Unit->Shared->Prop} (ho:s.heap.get? it=some o) (hc:o.cls=.type n) (hd:o.data=.fields vs)
  (hn:["enumerate", "zip", "dict_itemiterator", "dict_reverseitemiterator", "odict_iterator", "itertools.zip_longest", "itertools.pairwise"].contains n=false) (hQ:Q () s):wpAny M A (letOwnedTupleGo tg (.ref it) u) Q E s:=by
 unfold letOwnedTupleGo
 cases tg<;>first
  |exact wpAny_pure hQ
  | (cases u<;>first
    |exact wpAny_pure hQ
    | (refine wpAny_bind (wpAny_load ho ?_)
       rw[hc,hd]
       show wpAny M A (if(["enumerate", "zip", "dict_itemiterator", "dict_reverseitemiterator", "odict_iterator", "itertools.zip_longest", "itertools.pairwise"].contains n&&vs[0]?==some (rawInt _))=true then _ else _) Q E s
       rw[if_neg (by intro h; rw[hn,Bool.false_and] at h; cases h)]
       exact wpAny_pure hQ))
def Itl (K:PySem.W.Frag) (a:Addr):It :=
 ⟨fun i H=>∃xs x,SqL K H a xs/\xs[i]?=some x,fun i H x H'=>H'=H/\∀xs,SqL K H a xs->xs[i]?=some x,fun i H=>∃xs,SqL K H a xs/\xs.length<=i⟩
def Itt (K:PySem.W.Frag) (a:Addr):It :=
 ⟨fun i H=>∃xs x,SqT K H a xs/\xs[i]?=some x,fun i H x H'=>H'=H/\∀xs,SqT K H a xs->xs[i]?=some x,fun i H=>∃xs,SqT K H a xs/\xs.length<=i⟩
def Itr (lo:Int) (n:Nat):It:=⟨fun i _=>i<n,fun i H x H'=>H'=H/\x=.int (lo+i),fun i _=>n<=i⟩
theorem QP {P:Program} {w:World} {K:PySem.W.Frag} {tg:Expr} (a it:Addr):Turn P w K tg (Itl K a) [it] it (fun i h=>h.IsListIter it a i) where
 mem:=by simp
 obj:=fun i h st b hb=>by
  have e:b=it:=by simpa using hb
  subst e
  obtain⟨o,e,c,d⟩:=st
  exact⟨o,e,fun v z=>by rw[d] at z; cases z⟩
 keep:=fun i h h' st k=>st.at fun o e=>k it (by simp) o e
 item:=by
  intro X hP hw hK hc i pins s σ H E I hf st hg
  subst hP hw hK
  obtain⟨xs,x,hq,hx⟩:=hg
  obtain⟨its,rv,p,hz⟩:=I.list hq
  obtain⟨u,hu,ru⟩:=rv.get hx
  obtain⟨f0,f1,f2,f3,f4,f5⟩:=hf it (by simp)
  refine wpAny_pyNext_list_item st p.isList (x:=u) (by simpa using hu) fun h' st' sb=>?_
  have I1:Inv X pins σ H { s with heap:=h' }:=I.turned (t':=s.toks) (fun b o hb e=>(sb.2 b hb).trans e) f0 f1 f3 f4 f5
  obtain⟨o,e,c,d⟩:=id st'
  exact⟨u,rfl,go_of (s:={ s with heap:=h' }) e c d (by decide) ⟨x,H,I1,ru,⟨rfl,fun ys hy=>by rw[I.list_inj hy hq]; exact hx⟩,st',fun b hb=>(hf b hb).1⟩⟩
 done:=by
  intro X hP hw hK hc i pins s σ H E I hf st hg
  subst hP hw hK
  obtain⟨xs,hq,hx⟩:=hg
  obtain⟨its,rv,p,hz⟩:=I.list hq
  obtain⟨f0,f1,f2,f3,f4,f5⟩:=hf it (by simp)
  have hl:=rv.length
  exact wpAny_pyNext_list_end (I.ok.hd hc) st p.isList (by simp; omega) fun h' eb=>⟨rfl,I.turned (t':=s.toks) (fun b o hb e=>eb b o hb e) f0 f1 f3 f4 f5⟩
 self:=fun _ _ _ _ _ st h=>wpAny_pyIter_listiter st h
theorem XB {P:Program} {w:World} {K:PySem.W.Frag} {tg:Expr} (a it:Addr):Turn P w K tg (Itt K a) [it] it (fun i h=>h.IsTupleIter it a i) where
 mem:=by simp
 obj:=fun i h st b hb=>by
  have e:b=it:=by simpa using hb
  subst e
  obtain⟨o,e,c,d⟩:=st
  exact⟨o,e,fun v z=>by rw[d] at z; cases z⟩
 keep:=fun i h h' st k=>st.at fun o e=>k it (by simp) o e
 item:=by
  intro X hP hw hK hc i pins s σ H E I hf st hg
  subst hP hw hK
  obtain⟨xs,x,hq,hx⟩:=hg
  obtain⟨its,rv,p,hz⟩:=I.tuple hq
  obtain⟨u,hu,ru⟩:=rv.get hx
  obtain⟨f0,f1,f2,f3,f4,f5⟩:=hf it (by simp)
  refine wpAny_pyNext_tuple_item st (show s.heap.IsTuple a its.toArray from p) (x:=u) (by simpa using hu) fun h' st' sb=>?_
  have I1:Inv X pins σ H { s with heap:=h' }:=I.turned (t':=s.toks) (fun b o hb e=>(sb.2 b hb).trans e) f0 f1 f3 f4 f5
  obtain⟨o,e,c,d⟩:=id st'
  exact⟨u,rfl,go_of (s:={ s with heap:=h' }) e c d (by decide) ⟨x,H,I1,ru,⟨rfl,fun ys hy=>by rw[I.tuple_inj hy hq]; exact hx⟩,st',fun b hb=>(hf b hb).1⟩⟩
 done:=by
  intro X hP hw hK hc i pins s σ H E I hf st hg
  subst hP hw hK
  obtain⟨xs,hq,hx⟩:=hg
  obtain⟨its,rv,p,hz⟩:=I.tuple hq
  obtain⟨f0,f1,f2,f3,f4,f5⟩:=hf it (by simp)
  have hl:=rv.length
  exact wpAny_pyNext_tuple_end (I.ok.hd hc) st (show s.heap.IsTuple a its.toArray from p) (by simp; omega) fun h' eb=>⟨rfl,I.turned (t':=s.toks) (fun b o hb e=>eb b o hb e) f0 f1 f3 f4 f5⟩
 self:=fun _ _ _ _ _ st h=>wpAny_pyIter_tupleiter st h
theorem XC {P:Program} {w:World} {K:PySem.W.Frag} {tg:Expr} (it:Addr) (lo:Int) (n:Nat):Turn P w K tg (Itr lo n) [it] it (fun i h=>IsRangeIter h it (lo+(i:Nat)*1) ((n:Int)-(i:Nat)) 1) where
 mem:=by simp
 obj:=fun i h st b hb=>by
  have e:b=it:=by simpa using hb
  subst e
  exact⟨_,st,fun v z=>by
   have z':Data.fields _=Data.cell v:=z
   cases z'⟩
 keep:=fun i h h' st k=>k it (by simp) _ st
 item:=by
  intro X hP hw hK hc i pins s σ H E I hf st hg
  subst hP hw hK
  obtain⟨f0,f1,f2,f3,f4,f5⟩:=hf it (by simp)
  have W:=Walks.range (prog:=X.prog) (w:=X.w) (I.ok.hd hc) it lo 1 n
  refine W.item i s _ _ hg st fun v h' tk hv st' kk=>?_
  obtain⟨t,rfl⟩:=hv
  have I1:Inv X pins σ H { s with heap:=h',toks:=tk }:=I.turned (fun b o hb e=>kk b o (by simpa using hb) e) f0 f1 f3 f4 f5
  refine⟨_,rfl,go_of (s:={ s with heap:=h',toks:=tk }) (n := "range_iterator") st' rfl rfl (by decide) ⟨.int (lo+i),H,I1,⟨t, ?_⟩,⟨rfl,rfl⟩,st',fun b hb=>(hf b hb).1⟩⟩
  rw[Int.mul_one]
 done:=by
  intro X hP hw hK hc i pins s σ H E I hf st hg
  subst hP hw hK
  obtain⟨f0,f1,f2,f3,f4,f5⟩:=hf it (by simp)
  exact wpAny_pyNext_range_end (I.ok.hd hc) st (by have:n<=i:=hg; omega) fun h' eb=>⟨rfl,I.turned (t':=s.toks) (fun b o hb e=>eb b o hb e) f0 f1 f3 f4 f5⟩
 self:=fun _ _ _ _ _ st h=>wpAny_pyIter_rangeiter st h
section
variable {X:Cx} {tg:Expr}
def X0 (K:PySem.W.Frag) (tl:TE):TI:=fun σ H R=>tl σ H fun x H1=>∃a,x=.ref a/\(∃xs,SqL K H1 a xs)/\R (Itl K a) H1
def iTup (K:PySem.W.Frag) (tl:TE):TI:=fun σ H R=>tl σ H fun x H1=>∃a,x=.ref a/\(∃xs,SqT K H1 a xs)/\R (Itt K a) H1
theorem pi_list {l:Expr} {tl:TE} (hl:PE X l tl):PI X tg l (X0 X.K tl):=by
 intro pins s σ H R I h
 refine thn (hl pins s σ H _ I h) fun v s1 ⟨x,H1,I1,r1,q1⟩=>?_
 obtain⟨a,e,⟨xs,hq⟩,q⟩:=q1
 subst e
 cases r1
 obtain⟨its,rv,p,hz⟩:=I1.list hq
 refine wpAny_pyIter_list p.isList ?_
 refine⟨s1.heap.objs.size, [s1.heap.objs.size],_,_,H1,rfl,I1.kept (t':=s1.toks) fun b o e=>Heap.get?_push_of_some _ e,QP a _,⟨_,Heap.get?_push_size _ rfl,rfl,rfl⟩,fun b hb=>?_,q⟩
 have e:b=s1.heap.objs.size:=by simpa using hb
 subst e
 exact I1.fpOk (Nat.le_refl _) (I1.hok.fresh (Nat.le_refl _))
theorem pi_tup {l:Expr} {tl:TE} (hl:PE X l tl):PI X tg l (iTup X.K tl):=by
 intro pins s σ H R I h
 refine thn (hl pins s σ H _ I h) fun v s1 ⟨x,H1,I1,r1,q1⟩=>?_
 obtain⟨a,e,⟨xs,hq⟩,q⟩:=q1
 subst e
 cases r1
 obtain⟨its,rv,p,hz⟩:=I1.tuple hq
 refine wpAny_pyIter_tuple (show s1.heap.IsTuple a its.toArray from p) ?_
 refine⟨s1.heap.objs.size, [s1.heap.objs.size],_,_,H1,rfl,I1.kept (t':=s1.toks) fun b o e=>Heap.get?_push_of_some _ e,XB a _,⟨_,Heap.get?_push_size _ rfl,rfl,rfl⟩,fun b hb=>?_,q⟩
 have e:b=s1.heap.objs.size:=by simpa using hb
 subst e
 exact I1.fpOk (Nat.le_refl _) (I1.hok.fresh (Nat.le_refl _))
theorem range_it {pins:List (Addr×Obj)} {σ:St} {H:Hp} {s:Shared} {R:It->Hp->Prop} {E:Value->Shared->Prop} {lo hi:Int} {t u v:Tok} {tk:Nat} (I:Inv X pins σ H s) (h1 : -(2^62)<=lo) (h2:lo<2^62) (h3 : -(2^62)<=hi) (h4:hi<2^62)
  (q:R (Itr lo (hi-lo).toNat) H):wpAny (model X.prog X.w) X.A (pyIter (.ref s.heap.objs.size)) (PIE X pins σ tg R) E { s with heap:=s.heap.push { cls:=.type "range", data:=.fields #[.int lo t, .int hi u, .int 1 v] },toks:=tk }:=by
 refine wpAny_pyIter_range (IsRange.new ..) (small_one h1 h2 h3 h4) ?_
 have I1:Inv X pins σ H { s with heap:=s.heap.push { cls:=.type "range", data:=.fields #[.int lo t, .int hi u, .int 1 v] },toks:=tk }:=I.kept fun b o e=>Heap.get?_push_of_some _ e
 refine⟨(s.heap.push { cls:=.type "range", data:=.fields #[.int lo t, .int hi u, .int 1 v] }).objs.size, [(s.heap.push { cls:=.type "range", data:=.fields #[.int lo t, .int hi u, .int 1 v] }).objs.size],_,_,H,rfl,
  I1.kept (t':=tk) fun b o e=>Heap.get?_push_of_some _ e,XC _ lo (hi-lo).toNat, ?_,fun b hb=>?_,q⟩
 ·have e1:lo+((0:Nat):Int)*1=lo:=by simp
  have e2:(((hi-lo).toNat:Nat):Int)-((0:Nat):Int)=Builtin.Range.rangeSize lo hi 1:=by rw[rangeSize_one]; split<;>omega
  show IsRangeIter _ _ (lo+((0:Nat):Int)*1) ((((hi-lo).toNat:Nat):Int)-((0:Nat):Int)) 1
  rw[e1,e2]
  exact Heap.get?_push_size _ rfl
 ·have e:b=(s.heap.push { cls:=.type "range", data:=.fields #[.int lo t, .int hi u, .int 1 v] }).objs.size:=by simpa using hb
  subst e
  exact I1.fpOk (Nat.le_refl _) (I1.hok.fresh (Nat.le_refl _))
def KQ (ta:TA):TI:=fun σ H R=>ta σ H fun vs H1=>∃j:Int,vs=[.int j] /\ -(2^62)<=j/\j<2^62/\R (Itr 0 j.toNat) H1
theorem JW {a:Expr} {ta:TA} {p pos:Pos} (hg:Gl X "range") (hm:X.mg "range" = none) (ha:PA X [a] ta) (hs:starEach [a] X.env=[(false,eval a X.env)]:=by rfl):PI X tg (.Call (.Name "range" p) [a] [] pos) (KQ ta):=by
 intro pins s σ H R I h
 refine Call_ (jY I hg hm boot_range (PyProof.Rows.callWith_type1 (thn (ha pos pins s σ H _ I h) fun us s1 ⟨vs,H1,I1,r1,q1⟩=>?_) hs rfl))
 obtain⟨j,e,q1,q2,q⟩:=q1
 subst e
 cases r1 with
 |cons r rr =>
  cases rr
  obtain⟨t,rfl⟩:=r
  exact call_range_1 (range_it I1 (by omega) (by omega) q1 q2 (by simpa using q))
def tFor (wi:TI) (g:TG) (tb:TS):TS:=fun D σ H=>wi σ H fun J H1=>∃W:Nat->Nat->St->Hp->Prop,(∃m,W 0 m σ H1)/\∀i m σ H,W i m σ H ->
 (J.stop i H/\D.nx σ H)\/(J.go i H/\∃N:St->Hp->Prop,(∀σ' H',N σ' H'->∃m',m'<m/\W (i+1) m' σ' H')/\∀x H',J.yld i H x H'->g x σ H' fun σ2 H2=>tb { D with nx:=N,ct:=N,bk:=D.nx } σ2 H2)
def kr (fp:List Addr) (h:Heap):List (Addr×Obj):=fp.filterMap fun b=>(h.get? b).map fun o=>(b,o)
theorem vS {fp:List Addr} {h:Heap} {b:Addr} {o:Obj} (hb:b∈fp) (e:h.get? b=some o):(b,o)∈kr fp h:=List.mem_filterMap.mpr ⟨b,hb,by rw[e]; rfl⟩
theorem Kg {fp:List Addr} {h:Heap} {p:Addr×Obj} (hp:p∈kr fp h):p.1∈fp/\h.get? p.1=some p.2:=by
 obtain⟨b,hb,e⟩:=List.mem_filterMap.mp hp
 cases q:h.get? b with
 |none=>rw[q] at e; cases e
 |some o =>
  rw[q] at e
  have e':(b,o)=p:=Option.some.inj e
  subst e'
  exact⟨hb,q⟩
theorem Inv.pinned {pins:List (Addr×Obj)} {σ:St} {H:Hp} {s:Shared} {fp:List Addr} (I:Inv X pins σ H s) (hf:∀b∈fp,FpOk X pins H b) (ho:∀b∈fp,∃o,s.heap.get? b=some o/\∀v,o.data ≠ .cell v):Inv X (pins++kr fp s.heap) σ H s :=
 I.pins_of fun p hp=>(List.mem_append.mp hp).elim (fun z=>I.pin p (List.mem_append_right _ z)) fun z=>by
  obtain⟨hb,e⟩:=Kg z
  obtain⟨f0,f1,f2,_⟩:=hf p.1 hb
  obtain⟨o,e',d⟩:=ho p.1 hb
  rw[e] at e'; cases e'
  exact⟨e,f0,f1,f2,d⟩
theorem Inv.unpinned {pins pl:List (Addr×Obj)} {σ:St} {H:Hp} {s:Shared} (I:Inv X (pins++pl) σ H s):Inv X pins σ H s:=I.pins_of fun p hp=>I.pin p (List.mem_append_right _ (List.mem_append_left _ hp))
theorem ps_for {iter:Expr} {body:List Stmt} {wi:TI} {g:TG} {tb:TS} {pos:Pos} (hp:PassesOwn (model X.prog X.w) X.A X.env X.xe) (hc:X.calm=true) (hi:PI X tg iter wi) (hg:PG X tg g) (hb:PSs X body tb)
  (hs:∀x,foldedSetIterable iter X.env x=pure x:=by intro _; rfl):PS X (.For tg iter body [] pos) (tFor wi g tb):=by
 intro pins s σ H D I h
 refine wpAny_For (thn (hi pins s σ H _ I h) fun v s1 h1=>thn h1 fun itv s2 h2=>?_) hs
 obtain⟨it,fp,tn,J,H2,e,I2,T,st2,f2,W,⟨m0,w0⟩,turn⟩:=h2
 subst e
 -- what stays true of the iterator's objects through the loop
 have stat:∀{H':Hp},(∀b∈fp,H' b=none)->∀b∈fp,FpOk X pins H' b:=fun hn b hb=>⟨hn b hb,(f2 b hb).2⟩
 refine codeAny_forLoop_any (fun n s'=>∃i σ' H',Inv X pins σ' H' s'/\tn i s'.heap/\(∀b∈fp,H' b=none)/\W i n σ' H') ?_ m0 ⟨0,σ,H2,I2,st2,fun b hb=>(f2 b hb).1,w0⟩
 rintro n s3 ⟨i,σ3,H3,I3,st3,fr3,w3⟩
 rcases turn i n σ3 H3 w3 with⟨stop,qn⟩|⟨go,N,hN,step⟩
 ·refine wpAny_passesOwn hp (thn (T.done X rfl rfl rfl hc i pins s3 σ3 H3 X.xe I3 (stat fr3) st3 stop) fun r s4 ⟨hr,I4⟩=>?_)
  subst hr
  exact wpAny_execs_nil ⟨σ3,H3,I4,qn⟩
 ·refine wpAny_passesOwn hp (thn (T.item X rfl rfl rfl hc i pins s3 σ3 H3 X.xe I3 (stat fr3) st3 go) fun r s4 ⟨u,hr,h4⟩=>?_)
  subst hr
  refine wpAny_passesOwn hp (thn h4 fun _ s5 ⟨x,H5,I5,r5,y5,st5,fr5⟩=>?_)
  have I5':=I5.pinned (stat fr5) (T.obj _ _ st5)
  refine wpAny_passesOwn hp (thn (hg _ s5 σ3 H5 x u _ I5' r5 (step x H5 y5)) fun _ s6 ⟨σ6,H6,I6,q6⟩=>?_)
  refine wpAny_passesOwn hp (thn (hb _ s6 σ6 H6 _ I6 q6) fun f s7 q7=>?_)
  have again:∀{σ7:St} {H7:Hp},Inv X (pins++kr fp s5.heap) σ7 H7 s7->N σ7 H7->∃m,m<n/\∃i σ' H',Inv X pins σ' H' s7/\tn i s7.heap/\(∀b∈fp,H' b=none)/\W i m σ' H':=fun {σ7 H7} I7 n7=>by
   obtain⟨m',hm,w7⟩:=hN σ7 H7 n7
   refine⟨m',hm,i+1,σ7,H7,I7.unpinned,T.keep _ _ _ st5 fun b hb o e=>(I7.pin (b,o) (List.mem_append_right _ (List.mem_append_right _ (vS hb e)))).1,fun b hb=>?_,w7⟩
   obtain⟨o,e,d⟩:=T.obj _ _ st5 b hb
   exact(I7.pin (b,o) (List.mem_append_right _ (List.mem_append_right _ (vS hb e)))).2.1
  cases f with
  |next=>obtain⟨σ7,H7,I7,n7⟩:=q7; exact again I7 n7
  |cont=>obtain⟨σ7,H7,I7,n7⟩:=q7; exact again I7 n7
  |brk=>obtain⟨σ7,H7,I7,q7⟩:=q7; exact⟨σ7,H7,I7.unpinned,q7⟩
  |ret v=>obtain⟨x7,σ7,H7,I7,r7,q7⟩:=q7; exact⟨x7,σ7,H7,I7.unpinned,r7,q7⟩
end
theorem for_list {K:PySem.W.Frag} {a:Addr} {xs:List V} {g:TG} {tb:TS} {D:Ends} {σ:St} {H:Hp} (Pv:Nat->St->Hp->Prop) (h0:Pv 0 σ H) (hl:∀i σ H,i<=xs.length->Pv i σ H->SqL K H a xs)
  (hs:∀i x σ H,xs[i]?=some x->Pv i σ H->g x σ H fun σ2 H2=>tb { D with nx:=Pv (i+1),ct:=Pv (i+1),bk:=D.nx } σ2 H2) (hd:∀σ H,Pv xs.length σ H->D.nx σ H) :
  ∃W:Nat->Nat->St->Hp->Prop,(∃m,W 0 m σ H)/\∀i m σ H,W i m σ H ->
   ((Itl K a).stop i H/\D.nx σ H)\/((Itl K a).go i H/\∃N:St->Hp->Prop,(∀σ' H',N σ' H'->∃m',m'<m/\W (i+1) m' σ' H')/\∀x H',(Itl K a).yld i H x H'->g x σ H' fun σ2 H2=>tb { D with nx:=N,ct:=N,bk:=D.nx } σ2 H2):=by
 refine⟨fun i m σ H=>m=xs.length-i/\i<=xs.length/\Pv i σ H,⟨xs.length,by simp,Nat.zero_le _,h0⟩, ?_⟩
 rintro i m σ H ⟨rfl,hi,p⟩
 have q:=hl i σ H hi p
 by_cases hlt:i<xs.length
 ·refine .inr ⟨⟨xs,xs[i],q,by simp[hlt]⟩,Pv (i+1),fun σ' H' p'=>⟨xs.length-(i+1),by omega,rfl,hlt,p'⟩,fun x H' y=>?_⟩
  obtain⟨e,y⟩:=y
  subst e
  exact hs i x σ _ (y xs q) p
 ·have e:i=xs.length:=by omega
  subst e
  exact .inl ⟨⟨xs,q,Nat.le_refl _⟩,hd σ H p⟩
abbrev R2:=V->V->Hp->VK->Prop
def OpR (X:Cx) (f:Value->Value->Sem Value) (r:R2):Prop :=
 ∀(pins:List (Addr×Obj)) (s:Shared) (σ:St) (H:Hp) (x y:V) (v u:Value) (Q:VK),Inv X pins σ H s->RelV x v->RelV y u->r x y H Q ->
  wpAny (model X.prog X.w) X.A (f v u) (EP X pins σ Q) X.xe s
def zd (X:Cx) (f:Value) (r:List V->Hp->VK->Prop):Prop :=
 ∀(pins:List (Addr×Obj)) (s:Shared) (σ:St) (H:Hp) (xs:List V) (us:List Value) (Q:VK),Inv X pins σ H s->Vals xs us->r xs H Q ->
  wpAny (model X.prog X.w) X.A (call f us) (EP X pins σ Q) X.xe s
def tOp (r:R2) (ta tb:TE):TE:=fun σ H Q=>ta σ H fun x H1=>tb σ H1 fun y H2=>r x y H2 Q
def tUn (r:V->Hp->VK->Prop) (ta:TE):TE:=fun σ H Q=>ta σ H fun x H1=>r x H1 Q
def rI (C:Int->Int->Prop) (g:Int->Int->V):R2:=fun x y H Q=>∃i j,x=.int i/\y=.int j/\C i j/\Q (g i j) H
def rI0 (g:Int->Int->V):R2:=fun x y H Q=>∃i j,x=.int i/\y=.int j/\Q (g i j) H
def rU (g:Int->V):V->Hp->VK->Prop:=fun x H Q=>∃i,x=.int i/\Q (g i) H
section
variable {X:Cx} {a b:Expr} {ta tb:TE} {pos:Pos}
theorem binT (ha:PE X a ta) (hb:PE X b tb) {pins:List (Addr×Obj)} {s:Shared} {σ:St} {H:Hp} {R:V->V->Hp->Prop} (I:Inv X pins σ H s)
  (h:ta σ H fun x H1=>tb σ H1 fun y H2=>R x y H2) {Q:Value->Shared->Prop} {f:Value->Value->Sem Value}
  (hf:∀v u s2 x y H2,Inv X pins σ H2 s2->RelV x v->RelV y u->R x y H2->wpAny (model X.prog X.w) X.A (f v u) Q X.xe s2) :
  wpAny (model X.prog X.w) X.A (eval a X.env) (fun v s₁=>wpAny (model X.prog X.w) X.A (eval b X.env) (fun u s₂=>wpAny (model X.prog X.w) X.A (f v u) Q X.xe s₂) X.xe s₁) X.xe s:=by
 refine thn (ha pins s σ H _ I h) fun v s1 ⟨x,H1,I1,r1,q1⟩=>?_
 refine thn (hb pins s1 σ H1 _ I1 q1) fun u s2 ⟨y,H2,I2,r2,q2⟩=>?_
 exact hf v u s2 x y H2 I2 r1 r2 q2
theorem pe_op {op:Operator} {r:R2} (ho:OpR X (binaryOp op) r) (ha:PE X a ta) (hb:PE X b tb):PE X (.BinOp a op b pos) (tOp r ta tb):=by
 intro pins s σ H Q I h
 exact wpAny_BinOp (binT ha hb I h fun v u s2 x y H2 I2 rx ry q=>ho pins s2 σ H2 x y v u Q I2 rx ry q)
theorem opI {f:Value->Value->Sem Value} {C:Int->Int->Prop} {g:Int->Int->Int}
  (rule:∀(i j:Int) (t u:Tok) (s:Shared) (Q:Value->Shared->Prop) (E:Value->Shared->Prop),C i j->Q (.int (g i j) s.toks) { s with toks:=s.toks+1 }->wpAny (model X.prog X.w) X.A (f (.int i t) (.int j u)) Q E s) :
  OpR X f (rI C fun i j=>.int (g i j)):=by
 intro pins s σ H x y v u Q I rx ry h
 obtain⟨i,j,rfl,rfl,hc,q⟩:=h
 obtain⟨t,rfl⟩:=rx
 obtain⟨t',rfl⟩:=ry
 exact rule i j t t' s _ _ hc ⟨.int (g i j),H,I.tok _,⟨_,rfl⟩,q⟩
theorem opI0 {f:Value->Value->Sem Value} {g:Int->Int->Int}
  (rule:∀(i j:Int) (t u:Tok) (s:Shared) (Q:Value->Shared->Prop) (E:Value->Shared->Prop),Q (.int (g i j) s.toks) { s with toks:=s.toks+1 }->wpAny (model X.prog X.w) X.A (f (.int i t) (.int j u)) Q E s) :
  OpR X f (rI0 fun i j=>.int (g i j)):=by
 intro pins s σ H x y v u Q I rx ry h
 obtain⟨i,j,rfl,rfl,q⟩:=h
 obtain⟨t,rfl⟩:=rx
 obtain⟨t',rfl⟩:=ry
 exact rule i j t t' s _ _ ⟨.int (g i j),H,I.tok _,⟨_,rfl⟩,q⟩
theorem opB0 {f:Value->Value->Sem Value} {g:Int->Int->Bool}
  (rule:∀(i j:Int) (t u:Tok) (s:Shared) (Q:Value->Shared->Prop) (E:Value->Shared->Prop),Q (.bool (g i j)) s->wpAny (model X.prog X.w) X.A (f (.int i t) (.int j u)) Q E s) :
  OpR X f (rI0 fun i j=>.bl (g i j)):=by
 intro pins s σ H x y v u Q I rx ry h
 obtain⟨i,j,rfl,rfl,q⟩:=h
 obtain⟨t,rfl⟩:=rx
 obtain⟨t',rfl⟩:=ry
 exact rule i j t t' s _ _ ⟨.bl (g i j),H,I,rfl,q⟩
def CPow (i j:Int):Prop:=0<=j/\j<=1000000/\i.natAbs<2^64
def CMul (i j:Int):Prop:=(-(2^64)<i/\i<2^64)\/(-(2^64)<j/\j<2^64)
theorem CMul.ok {i j:Int} (h:CMul i j):IntMulOk i j:=by
 rcases h with⟨h1,h2⟩|⟨h1,h2⟩
 ·exact .of_left (intBits_le_64 h1 h2)
 ·exact .of_right (intBits_le_64 h1 h2)
theorem vn:OpR X (binaryOp .Add) (rI0 fun i j=>.int (i+j)):=opI0 fun _ _ _ _ _ _ _ q=>add_int q
theorem Q8:OpR X (binaryOp .Sub) (rI0 fun i j=>.int (i-j)):=opI0 fun _ _ _ _ _ _ _ q=>sub_int q
theorem ky:OpR X (binaryOp .Mult) (rI CMul fun i j=>.int (i*j)):=opI fun _ _ _ _ _ _ _ hc q=>mul_int q hc.ok
theorem jS:OpR X (binaryOp .Mod) (rI (fun _ j=>0<j) fun i j=>.int (i % j)):=opI fun i j _ _ _ _ _ hc q=>by
 have h1:(0:Int)<j:=hc
 exact mod_int' (by omega) (by rw[Int.fmod_eq_emod_of_nonneg i (by omega)]; exact q)
theorem ZY:OpR X (binaryOp .Pow) (rI CPow fun i j=>.int (i^j.toNat)):=opI fun _ _ _ _ _ _ _ hc q=>pow_int_small hc.1 hc.2.1 hc.2.2 q
theorem op_shl:OpR X (binaryOp .LShift) (rI CPow fun i j=>.int (i*2^j.toNat)):=opI fun _ _ _ _ _ _ _ hc q=>lshift_int_small hc.1 hc.2.1 hc.2.2 q
end
def scal:V->V->Bool
 |.non, .non=>true | .non, .int _=>true | .int _, .non=>true | .non, .bl _=>true | .bl _, .non=>true | .non, .str _=>true | .str _, .non=>true
 |.int _, .int _=>true | .bl _, .bl _=>true | .str _, .str _=>true | .byt _, .byt _=>true
 |.int _, .str _=>true | .str _, .int _=>true | .bl _, .str _=>true | .str _, .bl _=>true
 |_,_=>false
def rEq:R2:=fun x y H Q=>scal x y=true/\Q (.bl (decide (x=y))) H
def rNe:R2:=fun x y H Q=>scal x y=true/\Q (.bl (!decide (x=y))) H
theorem K8 {i j:Int}:decide (V.int i=V.int j)=(i==j):=by
 rw[Bool.eq_iff_iff]
 simp
theorem dec_bl {i j:Bool}:decide (V.bl i=V.bl j)=(i==j):=by
 rw[Bool.eq_iff_iff]
 simp
theorem K7 {i j:Str}:decide (V.str i=V.str j)=(i==j):=by
 rw[Bool.eq_iff_iff]
 simp
theorem K9 {i j:Array UInt8}:decide (V.byt i=V.byt j)=(i.toList==j.toList):=by
 rw[Bool.eq_iff_iff]
 cases i
 cases j
 simp
section
variable {X:Cx} {a b c:Expr} {ta tb tc:TE} {pos:Pos}
theorem qM {pins:List (Addr×Obj)} {σ:St} {H:Hp} {s:Shared} {Q:VK} {k k':Bool} (I:Inv X pins σ H s) (q:Q (.bl k) H) (e:k=k'):EP X pins σ Q (.bool k') s:=by
 subst e
 exact⟨.bl k,H,I,rfl,q⟩
theorem v5:OpR X (compareOp .Eq) rEq:=by
 intro pins s σ H x y v u Q I rx ry h
 obtain⟨hs,q⟩:=h
 cases x with
 |non =>
  cases rx
  cases y with
  |non=>cases ry; exact PySem.EqNone.eq_none_none (qM I q (by simp))
  |bl j=>cases ry; exact PySem.EqNone.eq_none_bool (qM I q (by simp))
  |int j=>obtain⟨t',rfl⟩:=ry; exact PySem.EqNone.eq_none_int (qM I q (by simp))
  |str j=>obtain⟨t',rfl⟩:=ry; exact PySem.EqNone.eq_none_str (qM I q (by simp))
  |_=>exact absurd (show false=true from hs) Bool.false_ne_true
 |bl i =>
  cases rx
  cases y with
  |non=>cases ry; exact PySem.EqNone.eq_bool_none (qM I q (by simp))
  |bl j=>cases ry; exact eq_bool (qM I q dec_bl)
  |str j=>obtain⟨t',rfl⟩:=ry; exact PySem.EqMixed.eq_bool_str (qM I q (by simp))
  |_=>exact absurd (show false=true from hs) Bool.false_ne_true
 |int i =>
  obtain⟨t,rfl⟩:=rx
  cases y with
  |non=>cases ry; exact PySem.EqNone.eq_int_none (qM I q (by simp))
  |int j=>obtain⟨t',rfl⟩:=ry; exact eq_int (qM I q K8)
  |str j=>obtain⟨t',rfl⟩:=ry; exact PySem.EqMixed.eq_int_str (qM I q (by simp))
  |_=>exact absurd (show false=true from hs) Bool.false_ne_true
 |str i =>
  obtain⟨t,rfl⟩:=rx
  cases y with
  |non=>cases ry; exact PySem.EqNone.eq_str_none (qM I q (by simp))
  |bl j=>cases ry; exact PySem.EqMixed.eq_str_bool (qM I q (by simp))
  |int j=>obtain⟨t',rfl⟩:=ry; exact PySem.EqMixed.eq_str_int (qM I q (by simp))
  |str j=>obtain⟨t',rfl⟩:=ry; exact eq_str (qM I q K7)
  |_=>exact absurd (show false=true from hs) Bool.false_ne_true
 |byt i =>
  obtain⟨t,rfl⟩:=rx
  cases y with
  |byt j=>obtain⟨t',rfl⟩:=ry; exact PySem.W.eq_bytes (qM I q K9)
  |_=>exact absurd (show false=true from hs) Bool.false_ne_true
 |_=>cases y<;>exact absurd (show false=true from hs) Bool.false_ne_true
theorem XO:OpR X (compareOp .NotEq) rNe:=by
 intro pins s σ H x y v u Q I rx ry h
 obtain⟨hs,q⟩:=h
 cases x with
 |non =>
  cases rx
  cases y with
  |non=>cases ry; exact PySem.EqNone.ne_none_none (qM I q (by simp))
  |bl j=>cases ry; exact PySem.EqNone.ne_none_bool (qM I q (by simp))
  |int j=>obtain⟨t',rfl⟩:=ry; exact PySem.EqNone.ne_none_int (qM I q (by simp))
  |str j=>obtain⟨t',rfl⟩:=ry; exact PySem.EqNone.ne_none_str (qM I q (by simp))
  |_=>exact absurd (show false=true from hs) Bool.false_ne_true
 |bl i =>
  cases rx
  cases y with
  |non=>cases ry; exact PySem.EqNone.ne_bool_none (qM I q (by simp))
  |bl j=>cases ry; exact ne_bool (qM I q (congrArg not dec_bl))
  |str j=>obtain⟨t',rfl⟩:=ry; exact PySem.EqMixed.ne_bool_str (qM I q (by simp))
  |_=>exact absurd (show false=true from hs) Bool.false_ne_true
 |int i =>
  obtain⟨t,rfl⟩:=rx
  cases y with
  |non=>cases ry; exact PySem.EqNone.ne_int_none (qM I q (by simp))
  |int j=>obtain⟨t',rfl⟩:=ry; exact ne_int (qM I q (congrArg not K8))
  |str j=>obtain⟨t',rfl⟩:=ry; exact PySem.EqMixed.ne_int_str (qM I q (by simp))
  |_=>exact absurd (show false=true from hs) Bool.false_ne_true
 |str i =>
  obtain⟨t,rfl⟩:=rx
  cases y with
  |non=>cases ry; exact PySem.EqNone.ne_str_none (qM I q (by simp))
  |bl j=>cases ry; exact PySem.EqMixed.ne_str_bool (qM I q (by simp))
  |int j=>obtain⟨t',rfl⟩:=ry; exact PySem.EqMixed.ne_str_int (qM I q (by simp))
  |str j=>obtain⟨t',rfl⟩:=ry; exact ne_str (qM I q (congrArg not K7))
  |_=>exact absurd (show false=true from hs) Bool.false_ne_true
 |byt i =>
  obtain⟨t,rfl⟩:=rx
  cases y with
  |byt j=>obtain⟨t',rfl⟩:=ry; exact PySem.W.ne_bytes (qM I q (congrArg not K9))
  |_=>exact absurd (show false=true from hs) Bool.false_ne_true
 |_=>cases y<;>exact absurd (show false=true from hs) Bool.false_ne_true
theorem VX:OpR X (compareOp .Lt) (rI0 fun i j=>.bl (decide (i<j))):=opB0 fun _ _ _ _ _ _ _ q=>lt_int q
theorem op_le:OpR X (compareOp .LtE) (rI0 fun i j=>.bl (decide (i<=j))):=opB0 fun _ _ _ _ _ _ _ q=>le_int q
theorem op_gt:OpR X (compareOp .Gt) (rI0 fun i j=>.bl (decide (j<i))):=opB0 fun _ _ _ _ _ _ _ q=>gt_int q
theorem J6:OpR X (compareOp .In) (fun x y H Q=>∃i j,x=.str i/\y=.str j/\Q (.bl (!(Builtin.Str.occurrences j i 0 j.length 1).isEmpty)) H):=by
 intro pins s σ H x y v u Q I rx ry h
 obtain⟨i,j,rfl,rfl,q⟩:=h
 obtain⟨t,rfl⟩:=rx
 obtain⟨t',rfl⟩:=ry
 exact in_str (qM I q rfl)
theorem J5:OpR X (compareOp .Is) (fun x y H Q=>y=.non/\Q (.bl (decide (x=.non))) H):=by
 intro pins s σ H x y v u Q I rx ry h
 obtain⟨rfl,q⟩:=h
 cases ry
 refine is_none_gen (qM I q ?_)
 cases x<;>first
  | (cases rx; rfl)
  | (obtain⟨t,rfl⟩:=rx; rfl)
theorem Q9:OpR X (compareOp .NotIn) (fun x y H Q=>∃i j,x=.str i/\y=.str j/\Q (.bl (!(!(Builtin.Str.occurrences j i 0 j.length 1).isEmpty))) H):=by
 intro pins s σ H x y v u Q I rx ry h
 obtain⟨i,j,rfl,rfl,q⟩:=h
 obtain⟨t,rfl⟩:=rx
 obtain⟨t',rfl⟩:=ry
 exact notIn_str (qM I q rfl)
theorem qD (b:Expr) {op:CmpOp} (h:op ≠ .In:=by decide) (h2:op ≠ .NotIn:=by decide):behindInMarks op b=false:=by
 have e1:(op==CmpOp.In)=false:=by cases op<;>first|rfl|exact absurd rfl h
 have e2:(op==CmpOp.NotIn)=false:=by cases op<;>first|rfl|exact absurd rfl h2
 cases b<;>simp[behindInMarks,e1,e2]
theorem pe_cmpR {op:CmpOp} {r:R2} (ho:OpR X (compareOp op) r) (ha:PE X a ta) (hb:PE X b tb) (hm:behindInMarks op b=false):PE X (.Compare a [op] [b] pos) (tOp r ta tb):=by
 intro pins s σ H Q I h
 exact wpAny_Compare1 (binT ha hb I h fun v u s2 x y H2 I2 rx ry q=>ho pins s2 σ H2 x y v u Q I2 rx ry q) hm
def jn (t:TE):TT:=fun σ H Q=>t σ H fun x H'=>∃k,x=.bl k/\Q k H'
theorem pt_cmpR {op:CmpOp} {r:R2} (ho:OpR X (compareOp op) r) (ha:PE X a ta) (hb:PE X b tb) (hm:behindInMarks op b=false):PT X (.Compare a [op] [b] pos) (jn (tOp r ta tb)):=by
 intro pins s σ H Q I h
 refine wpAny_isTrue_Compare1 (thn (ha pins s σ H _ I h) fun v s1 ⟨x,H1,I1,r1,q1⟩=>thn (hb pins s1 σ H1 _ I1 q1) fun u s2 ⟨y,H2,I2,r2,q2⟩ =>
  thn (ho pins s2 σ H2 x y v u _ I2 r1 r2 q2) fun c s3 ⟨z,H3,I3,r3,k,e,q3⟩=>?_) hm
 subst e
 cases r3
 exact wpAny_truthy_bool ⟨H3,I3,q3⟩
def jh (r r':R2) (ta tb tc:TE):TE:=fun σ H Q=>ta σ H fun x H1=>tb σ H1 fun y H2=>r x y H2 fun z H3=>∃k,z=.bl k /\
 (if k=true then tc σ H3 fun w' H4=>r' y w' H4 Q else Q (.bl false) H3)
theorem pt_chain {op op':CmpOp} {r r':R2} (ho:OpR X (compareOp op) r) (ho':OpR X (compareOp op') r') (ha:PE X a ta) (hb:PE X b tb) (hc:PE X c tc)
  (hm:lastMarks [op,op'] [b,c]=false:=by with_unfolding_all rfl):PT X (.Compare a [op,op'] [b,c] pos) (jn (jh r r' ta tb tc)):=by
 intro pins s σ H Q I h
 refine isTrue_chain (thn (ha pins s σ H _ I h) fun v s1 ⟨x,H1,I1,r1,q1⟩=>test_link (thn (hb pins s1 σ H1 _ I1 q1) fun u s2 ⟨y,H2,I2,r2,q2⟩ =>
  thn (ho pins s2 σ H2 x y v u _ I2 r1 r2 q2) fun d s3 ⟨z,H3,I3,r3,k,e,q3⟩=>?_)) hm
 subst e
 cases r3
 refine wpAny_truthy_bool ?_
 cases k with
 |false =>
  obtain⟨k',e',q'⟩:=q3
  cases e'
  exact ite_ff ⟨H3,I3,q'⟩
 |true =>
  refine ite_tt (test_last (thn (hc pins s3 σ H3 _ I3 q3) fun w' s4 ⟨z',H4,I4,r4,q4⟩=>thn (ho' pins s4 σ H4 y z' u w' _ I4 r2 r4 q4) fun d' s5 ⟨z2,H5,I5,r5,k2,e2,q5⟩=>?_))
  subst e2
  cases r5
  exact wpAny_truthy_bool ⟨H5,I5,q5⟩
def TruV (K:PySem.W.Frag) (x:V) (H:Hp) (k:Bool):Prop :=
 match x with
 |.non=>k=false
 |.bl b=>k=b
 |.int i=>k=(i != 0)
 |.str y=>y.length<=sizeLine/\k=((y.length:Int) != 0)
 |.byt y=>y.size<=sizeLine/\k=((y.size:Int) != 0)
 |.ref p=>(∃xs,SqL K H p xs/\k = !xs.isEmpty)\/(∃xs,SqT K H p xs/\k = !xs.isEmpty)\/∃kvs,H p=some (.dK kvs)/\k = !kvs.isEmpty
 |_=>False
theorem kA:(sizeLine:Nat)<2^63:=by rw[sizeLine_eq]; decide
theorem qW:OpR X (binaryOp .Add) (fun x y H Q=>∃i j,x=.str i/\y=.str j/\i.length+j.length<=sizeLine/\Q (.str (i++j)) H):=by
 intro pins s σ H x y v u Q I rx ry h
 obtain⟨i,j,rfl,rfl,hz,q⟩:=h
 obtain⟨t,rfl⟩:=rx
 obtain⟨t',rfl⟩:=ry
 exact add_str (fun t' tk=>⟨.str (i++j),H,I.tok _,⟨_,rfl⟩,q⟩) hz
theorem xA {x:V} {us:List Value} (r:Vals [x] us):∃u,us=[u]/\RelV x u:=by
 cases r with
 |cons r1 r2=>cases r2; exact⟨_,rfl,r1⟩
theorem vals2 {x y:V} {us:List Value} (r:Vals [x,y] us):∃u w',us=[u,w']/\RelV x u/\RelV y w':=by
 cases r with
 |cons r1 r2 =>
  cases r2 with
  |cons r3 r4=>cases r4; exact⟨_,_,rfl,r1,r3⟩
theorem call_abs:zd X (.builtin "abs") (fun xs H Q=>∃i,xs=[.int i]/\Q (.int (if i<0 then -i else i)) H):=by
 intro pins s σ H xs us Q I r h
 obtain⟨i,rfl,q⟩:=h
 obtain⟨u,rfl,t,rfl⟩:=xA r
 exact call_abs_int fun u tk=>⟨.int (if i<0 then -i else i),H,I.tok _,⟨_,rfl⟩,q⟩
theorem j7:zd X (.type "int") (fun xs H Q=>(∃i,xs=[.int i]/\Q (.int i) H)\/∃k,xs=[.bl k]/\Q (.int (if k then 1 else 0)) H):=by
 intro pins s σ H xs us Q I r h
 rcases h with⟨i,rfl,q⟩|⟨k,rfl,q⟩
 ·obtain⟨u,rfl,t,rfl⟩:=xA r
  exact call_int_int ⟨.int i,H,I,⟨_,rfl⟩,q⟩
 ·obtain⟨u,rfl,r1⟩:=xA r
  cases r1
  exact call_int_bool ⟨.int (if k then 1 else 0),H,I.tok _,⟨_,rfl⟩,q⟩
end
structure ObjM (h:Heap) (x dx C:Addr) (mA:Str->Option Value):Prop where
 obj:h.get? x=some (PySem.W.instObj C dx)
 ns:h.Ns1 dx mA
 ne:dx≠x
theorem Vh {h:Heap} {dx:Addr} {mA:Str->Option Value} (n:h.Ns1 dx mA):∃od,h.get? dx=some od/\∀name,PySem.W.lookIn name od=some (mA name):=by
 obtain⟨o,es,ep,ho,hd,hk,_,hm⟩:=n
 refine⟨o,ho,fun name=>?_⟩
 have e:=hm name
 unfold nsFind findBy at e
 rw[<-Array.find?_toList] at e
 unfold PySem.W.lookIn
 rw[hd]
 dsimp only
 split
 ·rename_i y q
  rw[q] at e
  exact congrArg some e
 ·rename_i q
  rw[q] at e
  have a:es.toList.any (·.refKey)=false:=by
   rw[List.any_eq_false]
   intro y hy
   obtain⟨z,t,hkey⟩:=hk y (Array.mem_toList_iff.mp hy)
   simp[DictEntry.refKey,hkey]
  have a':¬es.toList.any (·.refKey)=true:=by rw[a]; exact Bool.false_ne_true
  rw[if_neg a']
  exact congrArg some e
theorem ObjM.look {h:Heap} {x dx C:Addr} {mA:Str->Option Value} (I:ObjM h x dx C mA):∃od,PySem.W.InstAt h x (PySem.W.instObj C dx) C (some od)/\∀name,PySem.W.lookIn name od=some (mA name) :=
 let⟨od,ho,hl⟩:=Vh I.ns
 ⟨od,⟨I.obj,rfl,rfl,ho⟩,hl⟩
theorem RelO.some_of {v:V} {o:Option Value} (r:RelO (some v) o):∃u,o=some u/\RelV v u:=by
 cases o with
 |none=>exact(show False from r).elim
 |some u=>exact⟨u,rfl,r⟩
section
variable {P:Program} {w:World} {H:Hp} {h:Heap} {a C dx:Addr} {fs:List (Str×V)}
theorem ins_get (hok:HOk P w H h) (e:H a=some (.ins C dx fs)):∃mA,ObjM h a dx C mA/\(∀f,RelO (fs.lookup f) (mA f))/\PySem.Within mA (fs.map (·.1))/\fs.length<=1000/\H dx=some (.own a):=by
 obtain⟨d,z,ne,ob,mA,n,r,q⟩:=(show ObjOk P w H h a (.ins C dx fs) from hok a _ e)
 exact⟨mA,⟨ob,n,ne⟩,r,q,z,d⟩
end
structure Cls (K:PySem.W.Frag) (C:Addr):Prop where
 pg:PySem.W.plainGet K C Str.empty=true
 hd:PySem.W.hasDictIn K C=true
 po:PySem.W.plainOver K C=true
 sa:PySem.W.findIn K (.ref C) "__setattr__" = some (some (.builtin "object.__setattr__"))
theorem Cls.get {K:PySem.W.Frag} {C:Addr} (c:Cls K C) (f:Str):PySem.W.plainGet K C f=true:=c.pg
def NoAttr (K:PySem.W.Frag) (C:Addr) (f:Str):Prop:=PySem.W.findIn K (.ref C) f=some none
section
variable {X:Cx} {pins:List (Addr×Obj)} {σ:St} {H:Hp} {s:Shared} {A:Around} {E:Value->Shared->Prop} {Q:Value->Shared->Prop} {c:Value} {b:Bool}
inductive TyOf (K:PySem.W.Frag) (H:Hp):V->Value->Prop where
 |non:TyOf K H .non (.type "NoneType")
 |bl (x:Bool):TyOf K H (.bl x) (.type "bool")
 |int (i:Int):TyOf K H (.int i) (.type "int")
 |str (x:Str):TyOf K H (.str x) (.type "str")
 |flt (x:UInt64):TyOf K H (.flt x) (.type "float")
 |lst {a:Addr} {xs:List V} (e:H a=some (.lst xs)):TyOf K H (.ref a) (.type "list")
 |frz {a:Addr} {o:Obj} {xs:List V} (e:H a=some (.frz o (.lst xs))):TyOf K H (.ref a) (.type "list")
 |tup {a:Addr} {xs:List V} (e:H a=some (.tup xs)):TyOf K H (.ref a) (.type "tuple")
 |dK {a:Addr} {kvs:List (Key×V)} (e:H a=some (.dK kvs)):TyOf K H (.ref a) (.type "dict")
 |dT {a:Addr} {kvs:List (List Key×V)} (e:H a=some (.dT kvs)):TyOf K H (.ref a) (.type "dict")
 |ins {a C dx:Addr} {fs:List (Str×V)} (e:H a=some (.ins C dx fs)) (cl:Cls K C) (ha:PySem.W.findIn K (.ref C) "__class__" = some (some (.builtin "object.__class__")))
   (hn:PySem.W.specialIn K (.builtin "object.__class__") "__get__" = some (some (.builtin "getset_descriptor.__get__"))) (htk:PySem.W.takesIn K (.builtin "object.__class__")=some true)
   (hm:PySem.W.mroIn K C (.type "object")=some true):TyOf K H (.ref a) (.ref C)
theorem KN {x:V} {u t:Value} (I:Inv X pins σ H s) (rx:RelV x u) (ty:TyOf X.K H x t) (e:PySem.W.kitOne X.K t c=some b) (h:∀tk,Q (.bool b) { s with toks:=tk }) :
  wpAny (model X.prog X.w) A (call (.builtin "isinstance") [u,c]) Q E s:=by
 cases ty with
 |non=>cases(show u=Value.none from rx); exact PySem.W.kia_one PySem.W.kitx_none I.kIn True.intro e (fun z=>nomatch z) h
 |bl y=>cases(show u=Value.bool y from rx); exact PySem.W.kia_one PySem.W.kitx_bool I.kIn True.intro e (fun z=>nomatch z) h
 |int i=>obtain⟨t,q⟩:=(show ∃t,u=Value.int i t from rx); cases q; exact PySem.W.kia_one PySem.W.kitx_int I.kIn True.intro e (fun z=>nomatch z) h
 |str y=>obtain⟨t,q⟩:=(show ∃t,u=Value.str y t from rx); cases q; exact PySem.W.kia_one PySem.W.kitx_str I.kIn True.intro e (fun z=>nomatch z) h
 |flt y=>obtain⟨t,q⟩:=(show ∃t,u=Value.float y t from rx); cases q; exact PySem.W.kia_one PySem.W.kitx_float I.kIn True.intro e (fun z=>nomatch z) h
 | @lst a xs ea =>
  cases(show u=Value.ref a from rx)
  obtain⟨_,_,n,_,h1⟩:=(show ObjOk X.prog X.w H s.heap a (.lst xs) from I.hok a _ ea)
  exact PySem.W.kia_one PySem.W.kitx_list I.kIn ⟨_,h1,rfl⟩ e (fun z=>nomatch z) h
 | @frz a ob xs ea =>
  cases(show u=Value.ref a from rx)
  obtain⟨_,_,_,n,_,h1⟩:=(show ObjOk X.prog X.w H s.heap a (.frz ob (.lst xs)) from I.hok a _ ea)
  exact PySem.W.kia_one PySem.W.kitx_list I.kIn ⟨_,h1,rfl⟩ e (fun z=>nomatch z) h
 | @tup a xs ea =>
  cases(show u=Value.ref a from rx)
  obtain⟨_,_,_,p⟩:=(show ObjOk X.prog X.w H s.heap a (.tup xs) from I.hok a _ ea)
  obtain⟨o,h1,h2,_⟩:=p
  exact PySem.W.kia_one PySem.W.kitx_tuple I.kIn ⟨o,h1,h2⟩ e (fun z=>nomatch z) h
 | @dK a kvs ea =>
  cases(show u=Value.ref a from rx)
  obtain⟨_,_,vs,_,p⟩:=(show ObjOk X.prog X.w H s.heap a (.dK kvs) from I.hok a _ ea)
  obtain⟨o,es,ep,h1,h2,_⟩:=p
  exact PySem.W.kia_one PySem.W.kitx_dict I.kIn ⟨o,h1,h2.1⟩ e (fun z=>nomatch z) h
 | @dT a kvs ea =>
  cases(show u=Value.ref a from rx)
  obtain⟨_,_,xs,_,o,es,ep,h1,h2,_⟩:=(show ObjOk X.prog X.w H s.heap a (.dT kvs) from I.hok a _ ea)
  exact PySem.W.kia_one PySem.W.kitx_dict I.kIn ⟨o,h1,h2.1⟩ e (fun z=>nomatch z) h
 | @ins a C dx fs ea cl ha hn htk hm =>
  cases(show u=Value.ref a from rx)
  obtain⟨mA,O,_⟩:=ins_get I.hok ea
  obtain⟨od,J,_⟩:=O.look
  exact PySem.W.kia_one (PySem.W.kitx_own (cl.get _) cl.hd ha hn htk hm) I.kIn J e (fun z=>nomatch z) h
end
structure Room (k:Nat) (A:Around):Prop where
 hd:A.handled=none
 dp:A.depth+3*k+5<recursionLimit
 un:A.units+16*k+200<cLine
 gd:A.guards=some []
theorem Room.mono {j k:Nat} {A:Around} (r:Room k A) (h:j<=k):Room j A:=⟨r.hd,by have:=r.dp; omega,by have:=r.un; omega,r.gd⟩
theorem Room.deeper {k:Nat} {A:Around} (r:Room (k+1) A) (env:Env):Room k (A.deeper env) :=
 ⟨r.hd,by have:=r.dp; show A.depth+1+3*k+5<_; omega,by have:=r.un; show A.units+3+16*k+200<_; omega,r.gd⟩
theorem Room.depth {k:Nat} {A:Around} (r:Room k A):A.depth<recursionLimit:=by have:=r.dp; omega
theorem Room.units {k:Nat} {A:Around} (r:Room k A):A.units+64<cLine:=by have:=r.un; omega
def tNil:TA:=fun _ H Q=>Q [] H
def zr (ta:TE) (tr:TA):TA:=fun σ H Q=>ta σ H fun x H1=>tr σ H1 fun xs H2=>Q (x::xs) H2
section
variable {X:Cx} {e:Expr} {es:List Expr} {te:TE} {t:TA} {pos:Pos}
theorem pa_nil:PA X [] tNil:=fun _ _ _ _ H Q I h=>Calls.spliced_nil ⟨[],H,I, .nil,h⟩
theorem pa_cons (ha:PE X e te) (hr:PA X es t) (hs:starEach (e::es) X.env=(false,eval e X.env)::starEach es X.env:=by rfl):PA X (e::es) (zr te t):=by
 intro pos pins s σ H Q I h
 rw[hs]
 show wpAny _ _ (spliced ((false,eval e X.env)::backTo pos (starEach es X.env))) _ _ s
 refine Calls.spliced_cons (thn (ha pins s σ H _ I h) fun u s1 ⟨x,H1,I1,r1,q1⟩=>?_)
 exact thn (hr pos pins s1 σ H1 _ I1 q1) fun us s2 ⟨xs,H2,I2,r2,q2⟩=>⟨x::xs,H2,I2, .cons r1 r2,q2⟩
def tTup (t:TA):TE:=fun σ H Q=>t σ H fun xs H1=>xs.length<=sizeLine/\∀p,H1 p=none->Q (.ref p) (upd H1 p (.tup xs))
def tLst (t:TA):TE:=fun σ H Q=>t σ H fun xs H1=>xs.length<=sizeLine/\∀p,H1 p=none->Q (.ref p) (upd H1 p (.lst xs))
theorem pe_tup {x1} (h:PA X es t):PE X (.Tuple es x1 pos) (tTup t):=by
 intro pins s σ H Q I hq
 refine wpAny_Tuple_spliced (thn (h pos pins s σ H _ I hq) fun us s1 ⟨xs,H1,I1,r,z,q⟩=>⟨by rw[<-r.length]; exact z, ?_⟩)
 have hf:H1 s1.heap.objs.size=none:=I1.hok.fresh (Nat.le_refl _)
 refine⟨.ref s1.heap.objs.size,upd H1 s1.heap.objs.size (.tup xs),I1.laid (t':=s1.toks) (fun b u e=>Heap.get?_push_of_some _ e) (Nat.le_refl _) ?_,rfl,q _ hf⟩
 exact⟨z,us,r,⟨_,Heap.get?_push_size _ rfl,rfl,_,rfl⟩⟩
theorem pe_lst (h:PA X es t):PE X (.List es pos) (tLst t):=by
 intro pins s σ H Q I hq
 refine wpAny_List_spliced (thn (h pos pins s σ H _ I hq) fun us s1 ⟨xs,H1,I1,r,z,q⟩=>⟨by rw[<-r.length]; exact z, ?_⟩)
 have hf:H1 s1.heap.objs.size=none:=I1.hok.fresh (Nat.le_refl _)
 refine⟨.ref s1.heap.objs.size,upd H1 s1.heap.objs.size (.lst xs),I1.laid (t':=s1.toks) (fun b u e=>Heap.get?_push_of_some _ e) (Nat.le_refl _) ?_,rfl,q _ hf⟩
 exact⟨z,us,0,r,Heap.get?_push_size _ rfl⟩
end
abbrev Sp:=List V->Hp->VK->XK->Prop
abbrev CXT:=List Env->Hp->Shared->XK->Value->Shared->Prop
structure Env0 (P:Program) (w:World) (K:PySem.W.Frag) (mg:Str->Option Value) (base:Heap) (A:Around) (outer:List Env) (s:Shared) (H:Hp):Prop where
 frames:A.frames=some outer
 mod:Mod K mg base
 bs:∀b o,base.get? b=some o->s.heap.get? b=some o/\H b=none
 bsz:base.objs.size<=s.heap.objs.size
 funs:s.heap.FunFrames base outer
 frf:∀b∈frs outer,H b=none
 hok:HOk P w H s.heap
 bare:AllBare s.gens
def CE (outer:List Env) (P:Program) (w:World) (H:Hp) (s:Shared) (Q:VK) (u:Value) (s':Shared):Prop :=
 ∃v H',s'.os=s.os/\AllBare s'.gens/\Un (frs outer) [] H H' s.heap s'.heap/\HOk P w H' s'.heap/\RelV v u/\Q v H'
def CR (CX:CXT) (outer:List Env) (P:Program) (w:World) (H:Hp) (s:Shared) (Q:VK) (E:XK) (r:Result) (s':Shared):Prop :=
 match r with
 |.ok (.ret u)=>CE outer P w H s Q u s'
 |.ok _=>False
 |.error e=>CX outer H s E e s'
structure FnOk (P:Program) (w:World) (K:PySem.W.Frag) (mg:Str->Option Value) (base:Heap) (CX:CXT) (k:Nat) (f:Addr) (fd:FuncData) (ps:List Str) (sp:Sp):Prop where
 len:∀vs H Q E,sp vs H Q E->vs.length=ps.length
 run:∀(A:Around) (outer:List Env) (s:Shared) (H:Hp) (args:Args) (us:List Value) (vs:List V) (Q:VK) (E:XK),Room k A->Env0 P w K mg base A outer s H->BindsTo s fd args (ps.zip us)->Vals vs us->sp vs H Q E ->
  codeAny (model P w) A (.call (.ref f) args) (CR CX outer P w H s Q E) s
theorem FnOk.mono {P:Program} {w:World} {K:PySem.W.Frag} {mg:Str->Option Value} {base:Heap} {CX:CXT} {j k:Nat} {f:Addr} {fd:FuncData} {ps:List Str} {sp:Sp} (F:FnOk P w K mg base CX j f fd ps sp) (h:j<=k) :
  FnOk P w K mg base CX k f fd ps sp:=⟨F.len,fun A outer s H args us vs Q E hr=>F.run A outer s H args us vs Q E (hr.mono h)⟩
theorem FnOk.imp {P:Program} {w:World} {K:PySem.W.Frag} {mg:Str->Option Value} {base:Heap} {CX:CXT} {k:Nat} {f:Addr} {fd:FuncData} {ps:List Str} {sp sp':Sp} (F:FnOk P w K mg base CX k f fd ps sp)
  (h:∀vs H Q E,sp' vs H Q E->sp vs H Q E):FnOk P w K mg base CX k f fd ps sp' :=
 ⟨fun vs H Q E q=>F.len vs H Q E (h _ _ _ _ q),fun A outer s H args us vs Q E hr he hb hv hs=>F.run A outer s H args us vs Q E hr he hb hv (h _ _ _ _ hs)⟩
section
variable {X:Cx} {pins:List (Addr×Obj)} {σ:St} {H:Hp} {s s':Shared}
theorem Inv.env0 (I:Inv X pins σ H s):Env0 X.prog X.w X.K X.mg X.base X.A X.stack s H :=
 ⟨I.ok.frames,I.ok.mod,I.bs,Nat.le_trans I.ok.bsz I.sz,I.stack,I.stkFree,I.hok,I.bare⟩
theorem Inv.after {Q:VK} {u:Value} (I:Inv X pins σ H s) (h:CE X.stack X.prog X.w H s Q u s'):EP X pins σ Q u s':=by
 obtain⟨v,H',os,bare,un,hok,r,q⟩:=h
 obtain⟨hh,g,d,t,os'⟩:=s'
 obtain rfl:os'=s.os:=os
 exact⟨v,H',I.call (h':=hh) (g':=g) (d':=d) (t':=t) (ch:=[]) un hok bare (fun b z=>absurd z (by simp)),r,q⟩
end
def xw (sp:Sp) (dvs:List V) (E:XK) (t:TA):TE:=fun σ H Q=>t σ H fun vs H1=>sp (vs++dvs) H1 Q E
def Binds (K:PySem.W.Frag) (fd:FuncData) (ps:List Str) (ds:List Value):Prop :=
 ∀(s:Shared) (us:List Value),K.In s.heap->(us++ds).length=ps.length->BindsTo s fd ⟨us, []⟩ (ps.zip (us++ds))
theorem Binds.all {K:PySem.W.Frag} {fd:FuncData} {ps:List Str} (h:∀us:List Value,us.length=ps.length->bindArgs fd ⟨us, []⟩=pure (ps.zip us)):Binds K fd ps []:=fun s us _ hl=>by
 rw[List.append_nil] at hl ⊢
 exact .of_eq (h us hl)
def Xs (CX:CXT) (X:Cx) (E:XK):Prop:=∀(pins:List (Addr×Obj)) (σ:St) (H:Hp) (s:Shared) (e:Value) (s':Shared),Inv X pins σ H s->CX X.stack H s E e s'->X.xe e s'
section
variable {X:Cx} {CX:CXT} {k:Nat} {f:Addr} {fd:FuncData} {ps:List Str} {sp:Sp} {dvs:List V} {ds:List Value} {E:XK} {x:Str} {p pos:Pos} {e:Expr} {es:List Expr} {t:TA}
theorem run_fn {pins:List (Addr×Obj)} {σ:St} {H:Hp} {s:Shared} {Q:VK} {us:List Value} {vs:List V} (F:FnOk X.prog X.w X.K X.mg X.base CX k f fd ps sp) (hr:Room k X.A) (hb:Binds X.K fd ps ds) (hd:Vals dvs ds) (hx:Xs CX X E)
  (I:Inv X pins σ H s) (r:Vals vs us) (h:sp (vs++dvs) H Q E):wpAny (model X.prog X.w) X.A (call (.ref f) us) (EP X pins σ Q) X.xe s:=by
 have r2:Vals (vs++dvs) (us++ds):=r.append hd
 have hl:(us++ds).length=ps.length:=by rw[<-r2.length]; exact F.len _ _ _ _ h
 refine wpAny_call (codeAny_mono (F.run X.A X.stack s H ⟨us, []⟩ (us++ds) (vs++dvs) Q E hr I.env0 (hb s us I.kIn hl) r2 h) fun r s' hq=>?_)
 cases r with
 |error e=>exact hx pins σ H s e s' I hq
 |ok fl =>
  cases fl with
  |ret u=>exact I.after hq
  |next=>exact False.elim hq
  |brk=>exact False.elim hq
  |cont=>exact False.elim hq
theorem pe_call (F:FnOk X.prog X.w X.K X.mg X.base CX k f fd ps sp) (hr:Room k X.A) (hg:Gl X x) (hm:X.mg x=some (.ref f)) (hk:PySem.W.keepIn X.K (.ref f)=true) (hb:Binds X.K fd ps ds) (hd:Vals dvs ds) (hx:Xs CX X E)
  (ha:PA X (e::es) t) (hdb:(x==("__debug__" : Str))=false:=by decide) (he:starEach (e::es) X.env=(false,eval e X.env)::starEach es X.env:=by rfl) (hpl:(backTo pos (starEach es X.env)).any (·.1)=false:=by rfl) :
  PE X (.Call (.Name x p) (e::es) [] pos) (xw sp dvs E t):=by
 intro pins s σ H Q I h
 refine wpAny_Call_Name_kw (xD I hg hm ?_ hdb)
 refine PySem.W.callWith_K (h₀:=X.base) I.ok.mod.kin hk (thn (ha pos pins s σ H _ I h) fun us s1 ⟨vs,H1,I1,r,q⟩=>⟨I1.kIn, ?_⟩) he hpl
 exact run_fn F hr hb hd hx I1 r q
theorem pe_call0 (F:FnOk X.prog X.w X.K X.mg X.base CX k f fd ps sp) (hr:Room k X.A) (hg:Gl X x) (hm:X.mg x=some (.ref f)) (hk:PySem.W.keepIn X.K (.ref f)=true) (hb:Binds X.K fd ps ds) (hd:Vals dvs ds) (hx:Xs CX X E)
  (hdb:(x==("__debug__" : Str))=false:=by decide):PE X (.Call (.Name x p) [] [] pos) (xw sp dvs E tNil):=by
 intro pins s σ H Q I h
 refine wpAny_Call_Name_kw (xD I hg hm ?_ hdb)
 exact PySem.W.callWith_K0 I.kIn hk (run_fn (us:=[]) F hr hb hd hx I .nil h)
end
structure FnScope (N P:List Str) (sc:Scope):Prop where
 kind:sc.kind=.function
 co:sc.isCoroutine=false
 gen:sc.isGenerator=false
 nd:N.Nodup
 pre:N.take P.length=P
 par:∀x∈P,sc.names.lookup x=some .local\/sc.names.lookup x=some .cell
 nofree:∀y∈sc.names,y.2 ≠ .free
theorem VA {kindOf:Str->Option NameKind} {x:Str}:∀{binds:List (Str×Value)} {m:Str->Option Value},(∀v,(x,v)∉binds)->bindL kindOf binds m x=m x
 | [],_,_=>rfl
 | (n,v)::r,m,h=>by
  unfold bindL
  rw[VA fun w hw=>h w (List.mem_cons_of_mem _ hw)]
  split
  ·have:x≠n:=by rintro rfl; exact h v List.mem_cons_self
   simp[this]
  ·rfl
theorem VC {kindOf:Str->Option NameKind} {x:Str}:∀{binds:List (Str×Value)} {m:Str->Option Value},(∀v,(x,v)∉binds)->bindC kindOf binds m x=m x
 | [],_,_=>rfl
 | (n,v)::r,m,h=>by
  unfold bindC
  rw[VC fun w hw=>h w (List.mem_cons_of_mem _ hw)]
  split
  ·rfl
  ·have:x≠n:=by rintro rfl; exact h v List.mem_cons_self
   simp[this]
theorem VB {kindOf:Str->Option NameKind} {x:Str} {v:Value}:∀{P:List Str} {vs:List Value} {i:Nat} {m:Str->Option Value},P.Nodup->P[i]?=some x->vs[i]?=some v->kindOf x=some .local ->
  bindL kindOf (P.zip vs) m x=some v
 | [],_,_,_,_,h,_,_=>by simp at h
 |_::_, [],_,_,_,_,h,_=>by simp at h
 |p::P,w::vs,0,m,nd,h1,h2,hk=>by
  simp at h1 h2; subst h1; subst h2
  show bindL kindOf ((p,w)::P.zip vs) m p=_
  unfold bindL
  rw[VA fun v hv=>(List.nodup_cons.mp nd).1 (List.of_mem_zip hv).1,if_pos hk]
  simp
 |p::P,w::vs,i+1,m,nd,h1,h2,hk=>by
  show bindL kindOf ((p,w)::P.zip vs) m x=_
  unfold bindL
  exact VB (i:=i) (List.nodup_cons.mp nd).2 (by simpa using h1) (by simpa using h2) hk
theorem VD {kindOf:Str->Option NameKind} {x:Str} {v:Value}:∀{P:List Str} {vs:List Value} {i:Nat} {m:Str->Option Value},P.Nodup->P[i]?=some x->vs[i]?=some v->kindOf x≠some .local ->
  bindC kindOf (P.zip vs) m x=some v
 | [],_,_,_,_,h,_,_=>by simp at h
 |_::_, [],_,_,_,_,h,_=>by simp at h
 |p::P,w::vs,0,m,nd,h1,h2,hk=>by
  simp at h1 h2; subst h1; subst h2
  show bindC kindOf ((p,w)::P.zip vs) m p=_
  unfold bindC
  rw[VC fun v hv=>(List.nodup_cons.mp nd).1 (List.of_mem_zip hv).1,if_neg hk]
  simp
 |p::P,w::vs,i+1,m,nd,h1,h2,hk=>by
  show bindC kindOf ((p,w)::P.zip vs) m x=_
  unfold bindC
  exact VD (i:=i) (List.nodup_cons.mp nd).2 (by simpa using h1) (by simpa using h2) hk
def start (N:List Str) (vs:List V):St:=vs.map some++List.replicate (N.length-vs.length) none
def cxOf (CX:CXT) (P:Program) (w:World) (K:PySem.W.Frag) (mg:Str->Option Value) (base:Heap) (N:List Str) (qual:Str) (scope:Scope) (f:Addr) (cd:Value) (A:Around) (outer:List Env) (s:Shared) (H:Hp) (E:XK):Cx where
 prog:=P
 w:=w
 K:=K
 mg:=mg
 base:=base
 A:=A.deeper (envOfC qual scope s.heap.objs.size f cd)
 N:=N
 s₀:=s
 H₀:=H
 env:=envOfC qual scope s.heap.objs.size f cd
 outer:=outer
 stack:=envOfC qual scope s.heap.objs.size f cd::outer
 ex:=[]
 calm:=true
 fn:=fun _=>true
 pn:=[]
 xe:=fun e s'=>wpAny (model P w) (A.deeper (envOfC qual scope s.heap.objs.size f cd)) (leaving (envOfC qual scope s.heap.objs.size f cd) e) (fun _ s''=>CX outer H s E e s'') (fun e' s''=>CX outer H s E e' s'') s'
theorem Xl {sc:Scope} {n:Nat} {x:Str} (h:sc.names.lookup x=some .cell):∃c,(cellsFrom n sc.names []).lookup x=some c:=by
 have q:=PySem.W.cellsFrom_some sc.names n [] (.inl h)
 exact Option.isSome_iff_exists.mp q
theorem KP {CX:CXT} {P:Program} {w:World} {K:PySem.W.Frag} {mg:Str->Option Value} {base:Heap} {N ps:List Str} {qual:Str} {scope:Scope} {f:Addr} {cd:Value} {A:Around} {outer:List Env} {s s1:Shared} {H:Hp} {E:XK} {us:List Value} {vs:List V}
  (S:FnScope N ps scope) (hd:A.handled=none) (e0:Env0 P w K mg base A outer s H) (hl:vs.length=ps.length) (r:Vals vs us)
  (x:InCallC s s.heap.objs.size (bindL (envOfC qual scope s.heap.objs.size f cd).kindOf (ps.zip us) fun _=>none) (cellsFrom (s.heap.objs.size+1) scope.names []) (bindC (envOfC qual scope s.heap.objs.size f cd).kindOf (ps.zip us) fun _=>none) s1) :
  Inv (cxOf CX P w K mg base N qual scope f cd A outer s H E) [] (start N vs) H s1:=by
 have hpl:ps.length<=N.length:=by have:=congrArg List.length S.pre; rw[List.length_take] at this; omega
 obtain⟨h1,tk,rfl,hk⟩:=x.done
 have noA:∀b:Addr,b∉(cxOf CX P w K mg base N qual scope f cd A outer s H E).ex:=fun b z=>absurd (show b∈([]:List Addr) from z) (by simp)
 refine⟨⟨e0.mod,S.kind,rfl,rfl,Nat.le_refl _,fun y z c h1 h2=>?_,fun y hy=>?_,fun y c _ h=>?_,fun _=>hd,Around.frames_deeper e0.frames, .inr ⟨rfl,rfl⟩,fun b z=>absurd z (noA b),e0.bs,e0.bsz,fun b _ _=>noA b,fun b z=>absurd z (noA b),e0.funs,e0.frf⟩,
  rfl,e0.bare,Un.kept hk,⟨_,x.toInCall.ns,fun i y v h1 h2 h3=>?_⟩,fun y c h=>⟨_,x.cell y c h⟩,e0.hok.fresh (Nat.le_refl _),fun y c h=>?_,fun p hp=>absurd (show p∈([]:List (Addr×Obj)) from hp) (by simp),e0.hok.kept hk, ?_⟩
 ·exact name_of_addr x.apart (PySem.mem_of_lookup h1) (PySem.mem_of_lookup h2)
 ·have hy:scope.names.lookup y=some .cell\/scope.names.lookup y=some .free:=hy
  rcases hy with hy|hy
  ·exact Xl hy
  ·exact absurd rfl (S.nofree _ (PySem.mem_of_lookup hy))
 ·exact Nat.le_of_lt (x.above y c (PySem.mem_of_lookup h))
 ·have hi:i<vs.length:=by
   unfold start at h2
   by_cases hi:i<vs.length
   ·exact hi
   ·rw[List.getElem?_append_right (by simpa using hi)] at h2
    rw[List.getElem?_replicate] at h2
    split at h2<;>cases h2
  have ha:vs[i]?=some v:=by
   unfold start at h2
   rw[List.getElem?_append_left (by simpa using hi),List.getElem?_map] at h2
   cases e:vs[i]? with
   |none=>rw[e] at h2; cases h2
   |some a=>rw[e] at h2; cases h2; rfl
  obtain⟨u,hu,rv⟩:=r.get ha
  have hp:ps[i]?=some y:=by
   rw[<-S.pre,List.getElem?_take_of_lt (by omega)]; exact h1
  have ndP:ps.Nodup:=by rw[<-S.pre]; exact S.nd.sublist (List.take_sublist _ _)
  refine⟨u,rv, ?_⟩
  rcases S.par y (List.mem_of_getElem? hp) with k|k
  ·exact .inl ⟨k,VB ndP hp hu k⟩
  ·obtain⟨c,e⟩:=Xl (n:=s.heap.objs.size+1) k
   refine .inr ⟨.inl k,c,e, ?_⟩
   have q:=x.cell y c e
   rw[VD ndP hp hu (by show scope.names.lookup y≠_; rw[k]; decide)] at q
   exact q
 ·exact e0.hok.fresh (Nat.le_of_lt (x.above y c (PySem.mem_of_lookup h)))
 ·unfold start
  show _=N.length
  rw[List.length_append,List.length_map,List.length_replicate]
  omega
theorem fn_of {CX:CXT} {P:Program} {w:World} {K:PySem.W.Frag} {mg:Str->Option Value} {base:Heap} {k:Nat} {f:Addr} {name qual:Str} {params:Arguments} {body:List Stmt} {scope:Scope} {dV kV doc pm cdv ct oc:Value} {an od:Option Addr}
  {osl:Array (Option Value)} {N ps:List Str} {sp:Sp} (lk:K.lookup f=some ⟨oc,od, .func (PySem.W.fnOf name qual params body scope dV kV doc pm an cdv ct),osl⟩) (hcd:PySem.W.codeIn K cdv qual=true) (S:FnScope N ps scope)
  (len:∀vs H Q E,sp vs H Q E->vs.length=ps.length)
  (hbody:∀(A:Around) (outer:List Env) (s:Shared) (H:Hp) (vs:List V) (Q:VK) (E:XK),Room k (A.deeper (envOfC qual scope s.heap.objs.size f cdv))->sp vs H Q E ->
   ∃t,PSs (cxOf CX P w K mg base N qual scope f cdv A outer s H E) body t/\t { nx:=fun _ H'=>Q .non H',rt:=Q } (start N vs) H) :
  FnOk P w K mg base CX (k+1) f (PySem.W.fnOf name qual params body scope dV kV doc pm an cdv ct) ps sp:=by
 refine⟨len,fun A outer s H args us vs Q E hr e0 hb r hsp=>?_⟩
 have hl:=len _ _ _ _ hsp
 have KX:K.In s.heap:=e0.mod.kin.keeps fun b o e=>(e0.bs b o e).1
 have lim:s.heap.NoLimit:=e0.mod.nolimit.keeps fun b o e=>(e0.bs b o e).1
 have hkind:∀y∈ps.zip us,scope.names.lookup y.1=some .local\/(scope.names.lookup y.1=some .cell/\((cellsFrom (s.heap.objs.size+1) scope.names []).lookup y.1).isSome=true):=fun⟨n,v⟩ hy=>by
  rcases S.par n (List.of_mem_zip hy).1 with q|q
  ·exact .inl q
  ·exact .inr ⟨q,PySem.W.cellsFrom_some _ _ _ (.inl q)⟩
 refine codeAny_call_function hr.depth (KX _ _ lk) rfl S.co S.gen rfl (PySem.W.codeRec_of KX hcd) (hb _ _ _ _ ?_)
 refine wpAny_newFunctionEnv_cells S.kind hkind fun env he s1 x=>?_
 subst he
 refine⟨lim.keeps x.toInCall.keep,codeAny_func ?_⟩
 obtain⟨t,ht,hq⟩:=hbody A outer s H vs Q E (hr.deeper _) hsp
 have I:Inv (cxOf CX P w K mg base N qual scope f cdv A outer s H E) [] (start N vs) H s1:=KP S hr.hd e0 hl r x
 refine wpAny_mono (ht [] s1 (start N vs) H _ I hq) (fun fl s' hs=>?_) fun e s' hs=>hs
 have fin:∀{σ':St} {H':Hp} {v:V} {u:Value},Inv (cxOf CX P w K mg base N qual scope f cdv A outer s H E) [] σ' H' s'->RelV v u->Q v H'->CE outer P w H s Q u s' :=
  fun {σ' H' v u} J rv q=>⟨v,H',J.os,J.bare,J.base,J.hok,rv,q⟩
 cases fl with
 |ret u =>
  obtain⟨v,σ',H',J,rv,q⟩:=hs
  exact fin J rv q
 |next =>
  obtain⟨σ',H',J,q⟩:=hs
  exact fin (v:=V.non) (u:=Value.none) J rfl q
 |brk =>
  obtain⟨_,_,_,q⟩:=hs
  exact False.elim q
 |cont =>
  obtain⟨_,_,_,q⟩:=hs
  exact False.elim q
section
variable {X:Cx} {x:Str} {p pos:Pos} {e:Expr} {es:List Expr} {t:TA} {id T:String} {r:List V->Hp->VK->Prop}
def tCB (r:List V->Hp->VK->Prop) (t:TA):TE:=fun σ H Q=>t σ H fun vs H1=>r vs H1 Q
theorem pe_callB (hc:zd X (.builtin id) r) (hg:Gl X x) (hm:X.mg x=none) (hv:bootBuiltins x=some (.builtin id)) (ha:PA X (e::es) t) (hn:x ≠ "__name__" := by decide) (hdb:(x==("__debug__" : Str))=false:=by decide)
  (he:starEach (e::es) X.env=(false,eval e X.env)::starEach es X.env:=by rfl) (hpl:(backTo pos (starEach es X.env)).any (·.1)=false:=by rfl):PE X (.Call (.Name x p) (e::es) [] pos) (tCB r t):=by
 intro pins s σ H Q I h
 refine wpAny_Call_Name_kw (jY I hg hm hv ?_ hn hdb)
 exact PyProof.Rows.callWith_builtin1 (thn (ha pos pins s σ H _ I h) fun us s1 ⟨vs,H1,I1,r1,q1⟩=>hc pins s1 σ H1 vs us Q I1 r1 q1) he hpl
theorem JX (hc:zd X (.type T) r) (hg:Gl X x) (hm:X.mg x=none) (hv:bootBuiltins x=some (.type T)) (ha:PA X (e::es) t) (hn:x ≠ "__name__" := by decide) (hdb:(x==("__debug__" : Str))=false:=by decide)
  (he:starEach (e::es) X.env=(false,eval e X.env)::starEach es X.env:=by rfl) (hpl:(backTo pos (starEach es X.env)).any (·.1)=false:=by rfl):PE X (.Call (.Name x p) (e::es) [] pos) (tCB r t):=by
 intro pins s σ H Q I h
 refine wpAny_Call_Name_kw (jY I hg hm hv ?_ hn hdb)
 exact PyProof.Rows.callWith_type1 (thn (ha pos pins s σ H _ I h) fun us s1 ⟨vs,H1,I1,r1,q1⟩=>hc pins s1 σ H1 vs us Q I1 r1 q1) he hpl
end
end L2
namespace HT
open PySem PyProof.Rows
section
variable {prog:Program} {w:World} {A:Around} {E:Value->Shared->Prop} {s:Shared}
theorem cat_tup {t b:Addr} {vs ws:List Value} {Q:Value->Shared->Prop} (ht:IsTup s.heap t vs.toArray) (hb:IsTup s.heap b ws.toArray) (hv:vs≠[])
  (h1:ws=[]->Q (.ref t) s) (h2:ws≠[]->Q (.ref s.heap.objs.size) { s with heap:=s.heap.push { cls:=.type "tuple", data:=.seq (vs++ws).toArray } })
  (hsz:vs.length+ws.length<=sizeLine):wpAny (model prog w) A (binaryOp .Add (.ref t) (.ref b)) Q E s:=by
 obtain⟨⟨cls,dd,data,sl⟩,ho,hc,n,hd⟩:=id ht
 obtain⟨⟨cls2,dd2,data2,sl2⟩,ho2,hc2,n2,hd2⟩:=id hb
 simp only at hc hd hc2 hd2
 subst hc hd hc2 hd2
 have e:vs.toArray++ws.toArray=(vs++ws).toArray:=by simp
 by_cases hw:ws=[]
 ·exact concat_meets ⟨_,ho,rfl⟩ ⟨_,ho2,rfl⟩ noFill_tuple_add seq_tuple_add PySem.F.slot_tuple_add PySem.F.entry_tuple_add (PySem.F.args_tuple_add_2 _ _)
   (tuple_addW1 t b vs.toArray ws.toArray n n2 dd dd2 sl sl2 (by simpa using hv) (by simp[hw])) ⟨ho,ho2,h1 hw⟩
 ·refine concat_meets ⟨_,ho,rfl⟩ ⟨_,ho2,rfl⟩ noFill_tuple_add seq_tuple_add PySem.F.slot_tuple_add PySem.F.entry_tuple_add (PySem.F.args_tuple_add_2 _ _)
   (tuple_addW2 t b vs.toArray ws.toArray n n2 dd dd2 sl sl2 (by simpa using hv) (by simpa using hw) (by rw[List.size_toArray,List.size_toArray]; exact hsz)) ⟨ho,ho2, ?_⟩
  rw[e]
  exact h2 hw
def sIx (n d:Nat):Option Int->Nat
 |none=>d
 |some v=>if v<0 then(v+(n:Int)).toNat else min v.toNat n
theorem sIx_none (n d:Nat):sIx n d none=d:=rfl
theorem sIx_nat (n d k:Nat):sIx n d (some (k:Int))=min k n:=by
 show(if(k:Int)<0 then((k:Int)+(n:Int)).toNat else min (k:Int).toNat n)=min k n
 rw[if_neg (by omega),Int.toNat_natCast]
end
end HT
namespace L2
open PySem PySem.Spec PyProof.Rows
abbrev TO:=St->Hp->(Option Int->Hp->Prop)->Prop
def PO (X:Cx) (e:Option Expr) (t:TO):Prop :=
 ∀(pins:List (Addr×Obj)) (s:Shared) (σ:St) (H:Hp) (Q:Option Int->Hp->Prop),Inv X pins σ H s->t σ H Q ->
  wpAny (model X.prog X.w) X.A (evalPart e X.env) (fun u s'=>∃o H',Inv X pins σ H' s'/\IsPart u o/\Q o H') X.xe s
def zB:TO:=fun _ H Q=>Q none H
def QQ (t:TE):TO:=fun σ H Q=>t σ H fun x H1=>∃i,x=.int i/\Q (some i) H1
section
variable {X:Cx} {e:Expr} {te:TE} {lo hi:Option Expr} {tl th:TO} {pos p2:Pos}
theorem po_none:PO X none zB:=by
 intro pins s σ H Q I h
 rw[evalPart_none]
 exact wpAny_pure ⟨none,H,I, .none,h⟩
theorem po_some (h:PE X e te):PO X (some e) (QQ te):=by
 intro pins s σ H Q I hw
 rw[evalPart_some]
 refine thn (h pins s σ H _ I hw) fun u s1 ⟨x,H1,I1,r1,q1⟩=>?_
 obtain⟨i,rfl,q⟩:=q1
 obtain⟨t,rfl⟩:=r1
 exact⟨some i,H1,I1, .int i t,q⟩
def SlR (X:Cx) (r:V->Option Int->Option Int->Hp->VK->Prop):Prop :=
 ∀(pins:List (Addr×Obj)) (s:Shared) (σ:St) (H:Hp) (x:V) (v vl vu:Value) (lo hi:Option Int) (sl:Addr) (Q:VK),Inv X pins σ H s->RelV x v->s.heap.IsSliceOf sl vl vu .none->IsPart vl lo->IsPart vu hi->r x lo hi H Q ->
  ∃T id,typeLookup (.type T) "__getitem__" = pure (some (.builtin id))/\s.TypeIs v T/\wpAny (model X.prog X.w) X.A (getItem v (.ref sl)) (EP X pins σ Q) X.xe s
def tSl (r:V->Option Int->Option Int->Hp->VK->Prop) (te:TE) (tl th:TO):TE:=fun σ H Q=>te σ H fun x H1=>tl σ H1 fun l H2=>th σ H2 fun u H3=>r x l u H3 Q
theorem pe_slice {r:V->Option Int->Option Int->Hp->VK->Prop} (hr:SlR X r) (he:PE X e te) (hl:PO X lo tl) (hu:PO X hi th):PE X (.Subscript e (.Slice lo hi none p2) pos) (tSl r te tl th):=by
 intro pins s σ H Q I h
 refine Subscript_ (thn (he pins s σ H _ I h) fun v s1 ⟨x,H1,I1,r1,q1⟩=>?_)
 refine wpAny_Slice (thn (hl pins s1 σ H1 _ I1 q1) fun vl s2 ⟨l,H2,I2,pl,q2⟩=>thn (hu pins s2 σ H2 _ I2 q2) fun vu s3 ⟨u,H3,I3,pu,q3⟩=>?_)
 rw[evalPart_none]
 refine wpAny_pure ?_
 have I4:Inv X pins σ H3 { s3 with heap:=s3.heap.push { cls:=.type "slice", data:=.fields #[vl,vu, .none] } }:=I3.kept (t':=s3.toks) fun b ob q=>Heap.get?_push_of_some _ q
 obtain⟨T,id,hT,ht,hg⟩:=hr pins { s3 with heap:=s3.heap.push { cls:=.type "slice", data:=.fields #[vl,vu, .none] } } σ H3 x v vl vu l u s3.heap.objs.size Q I4 r1 (Heap.IsSliceOf.new ..) pl pu q3
 show wpAny (model X.prog X.w) X.A (subscriptTail e (.Slice lo hi none p2) v (.ref s3.heap.objs.size)) (EP X pins σ Q) X.xe { s3 with heap:=s3.heap.push { cls:=.type "slice", data:=.fields #[vl,vu, .none] } }
 exact tail_any (ops:=[.ref s3.heap.objs.size,v]) ht hT hg (by with_unfolding_all rfl)
def cutV (xs:List V) (lo hi:Option Int):List V:=(xs.drop (HT.sIx xs.length 0 lo)).take (HT.sIx xs.length xs.length hi-HT.sIx xs.length 0 lo)
theorem Zg (xs:List V) (lo hi:Option Int):(cutV xs lo hi).length<=xs.length:=by
 unfold cutV
 rw[List.length_take,List.length_drop]
 omega
def rCatT (K:PySem.W.Frag):R2:=fun x y H Q=>∃a b xs ys,x=.ref a/\y=.ref b/\SqT K H a xs/\SqT K H b ys/\xs≠[]/\xs.length+ys.length<=sizeLine /\
 (ys=[]->Q (.ref a) H)/\(ys≠[]->∀p,H p=none->Q (.ref p) (upd H p (.tup (xs++ys))))
theorem Vals.nil_iff {xs:List V} {us:List Value} (r:Vals xs us):us=[]↔xs=[]:=by
 cases r with
 |nil=>simp
 |cons _ _=>simp
theorem op_catT:OpR X (binaryOp .Add) (rCatT X.K):=by
 intro pins s σ H x y v u Q I rx ry h
 obtain⟨a,b,xs,ys,rfl,rfl,ha,hb,hx,hz,q1,q2⟩:=h
 cases rx
 cases ry
 obtain⟨its,r1,p1,_⟩:=I.tuple ha
 obtain⟨its2,r2,p2,_⟩:=I.tuple hb
 refine HT.cat_tup p1 p2 (fun z=>hx (r1.nil_iff.mp z)) (fun z=>⟨.ref a,H,I,rfl,q1 (r2.nil_iff.mp z)⟩) (fun z=>?_) (by rw[<-r1.length, <-r2.length]; exact hz)
 refine⟨.ref s.heap.objs.size,_,I.laid (t':=s.toks) (o:=.tup (xs++ys)) (fun b ob q=>Heap.get?_push_of_some _ q) (Nat.le_refl _) ?_,rfl,q2 (fun w=>z (r2.nil_iff.mpr w)) _ (I.hok.fresh (Nat.le_refl _))⟩
 exact⟨by rw[List.length_append]; exact hz,_,r1.append r2,IsTup.new _ _⟩
end
def ixN (n:Nat) (i:Int):Option Nat:=if 0<=i then(if i<n then some i.toNat else none) else if -(n:Int)<=i then some (i+n).toNat else none
def atI {α:Type} (xs:List α) (i:Int):Option α:=(ixN xs.length i).bind fun j=>xs[j]?
theorem KL {n:Nat} {i:Int} {j:Nat} (h:ixN n i=some j):seqIndex? i n=some j/\j<n /\ -(n:Int)<=i/\i<n:=by
 unfold ixN at h
 by_cases h0:0<=i
 ·rw[if_pos h0] at h
  by_cases h1:i<n
  ·rw[if_pos h1] at h
   have e:i.toNat=j:=Option.some.inj h
   exact⟨by rw[seqIndex_of h0 h1,e],by omega,by omega,h1⟩
  ·rw[if_neg h1] at h; cases h
 ·rw[if_neg h0] at h
  by_cases h1 : -(n:Int)<=i
  ·rw[if_pos h1] at h
   have e:(i+n).toNat=j:=Option.some.inj h
   exact⟨by rw[seqIndex_neg (by omega) h1,e],by omega,h1,by omega⟩
  ·rw[if_neg h1] at h; cases h
theorem Zo {α:Type} {xs:List α} {i:Int} {v:α} (h:atI xs i=some v):∃j,seqIndex? i xs.length=some j/\xs[j]?=some v/\j<xs.length /\ -(xs.length:Int)<=i/\i<xs.length:=by
 unfold atI at h
 cases e:ixN xs.length i with
 |none=>rw[e] at h; cases h
 |some j =>
  rw[e] at h
  obtain⟨h1,h2,h3,h4⟩:=KL e
  exact⟨j,h1,h,h2,h3,h4⟩
theorem zT {α:Type} {xs:List α} {j:Nat} {v:α} (h:xs[j]?=some v):atI xs (j:Int)=some v:=by
 have hj:j<xs.length:=(List.getElem?_eq_some_iff.mp h).1
 have e:ixN xs.length (j:Int)=some j:=by
  unfold ixN
  rw[if_pos (by omega),if_pos (by omega)]; simp
 unfold atI; rw[e]; exact h
def Yw (b:Expr):Prop:=∀o i,subscripted b false o i=operate [o,i] (getItem o i)
def IxR (X:Cx) (r:R2):Prop :=
 ∀(value slice:Expr) (pins:List (Addr×Obj)) (s:Shared) (σ:St) (H:Hp) (x y:V) (v u:Value) (Q:VK),Inv X pins σ H s->RelV x v->RelV y u->r x y H Q ->
  subscripted slice false v u=operate [v,u] (getItem v u)->wpAny (model X.prog X.w) X.A (subscriptTail value slice v u) (EP X pins σ Q) X.xe s
def MtR (X:Cx) (id:String) (r:V->List V->Hp->VK->Prop):Prop :=
 ∀(pins:List (Addr×Obj)) (s:Shared) (σ:St) (H:Hp) (x:V) (xs:List V) (v:Value) (us:List Value) (Q:VK),Inv X pins σ H s->RelV x v->Vals xs us->r x xs H Q ->
  wpAny (model X.prog X.w) X.A (call (.builtin id) (v::us)) (EP X pins σ Q) X.xe s
section
variable {X:Cx} {a b:Expr} {ta tb:TE} {pos:Pos}
theorem IxR.or {r r':R2} (h:IxR X r) (h':IxR X r'):IxR X (fun x y H Q=>r x y H Q\/r' x y H Q):=by
 intro value slice pins s σ H x y v u Q I rx ry q hs
 rcases q with q|q
 ·exact h value slice pins s σ H x y v u Q I rx ry q hs
 ·exact h' value slice pins s σ H x y v u Q I rx ry q hs
theorem pe_ix {r:R2} (hr:IxR X r) (ha:PE X a ta) (hb:PE X b tb) (hs:Yw b):PE X (.Subscript a b pos) (tOp r ta tb):=by
 intro pins s σ H Q I h
 exact Subscript_ (binT ha hb I h fun v u s2 x y H2 I2 rx ry q=>hr a b pins s2 σ H2 x y v u Q I2 rx ry q (hs _ _))
def rIxL (K:PySem.W.Frag):R2:=fun x y H Q=>∃p xs i v,x=.ref p/\y=.int i/\SqL K H p xs/\atI xs i=some v/\Q v H
def rIxT (K:PySem.W.Frag):R2:=fun x y H Q=>∃p xs i v,x=.ref p/\y=.int i/\SqT K H p xs/\atI xs i=some v/\Q v H
def rIxS:R2:=fun x y H Q=>∃z i c,x=.str z/\y=.int i/\z.length<=sizeLine/\atI z.cps.toList i=some c/\Q (.str ⟨#[c]⟩) H
theorem ix_list:IxR X (rIxL X.K):=by
 intro value slice pins s σ H x y v u Q I rx ry h hs
 obtain⟨p,xs,i,z,rfl,rfl,hq,he,q⟩:=h
 cases rx
 obtain⟨t,rfl⟩:=ry
 obtain⟨its,r,pl,hz⟩:=I.list hq
 obtain⟨j,h1,h2,h3,h4,h5⟩:=Zo he
 obtain⟨w,ew,rw'⟩:=r.get h2
 have hl:=r.length
 have hn:=kA
 have fin:EP X pins σ Q w s:=⟨z,H,I,rw',q⟩
 by_cases h0:0<=i
 ·have hj:i.toNat=j:=by
   rw[seqIndex_of h0 h5] at h1
   exact Option.some.inj h1
  exact item_listR pl.isList h0 (by omega) (by rw[hj]; simpa using ew) fin hs
 ·have hj:(i+(its.toArray.size:Int)).toNat=j:=by
   rw[seqIndex_neg (by omega) h4] at h1
   rw[List.size_toArray, <-hl]
   exact Option.some.inj h1
  exact subscriptTail_builtinR (x:=w) pl.isList.typeIs slot_list_getitem.lookup
   (wpAny_getItem_list_neg (Q:=fun r s'=>r=w/\EP X pins σ Q r s') pl.isList (by omega) (by rw[List.size_toArray]<;>omega) (by omega) (by rw[hj]; simpa using ew) ⟨rfl,fin⟩) hs
theorem ix_tup:IxR X (rIxT X.K):=by
 intro value slice pins s σ H x y v u Q I rx ry h hs
 obtain⟨p,xs,i,z,rfl,rfl,hq,he,q⟩:=h
 cases rx
 obtain⟨t,rfl⟩:=ry
 obtain⟨its,r,pl,hz⟩:=I.tuple hq
 obtain⟨j,h1,h2,h3,h4,h5⟩:=Zo he
 obtain⟨w,ew,rw'⟩:=r.get h2
 have hl:=r.length
 have hn:=kA
 have fin:EP X pins σ Q w s:=⟨z,H,I,rw',q⟩
 exact subscriptTail_builtinR (x:=w) pl.typeIs slot_tuple_getitem.lookup
  (getItem_tuple (j:=j) (Q:=fun r s'=>r=w/\EP X pins σ Q r s') pl (by omega) (by omega) (by rw[List.size_toArray, <-hl]; exact h1) (by simpa using ew) ⟨rfl,fin⟩) hs
theorem KJ:IxR X rIxS:=by
 intro value slice pins s σ H x y v u Q I rx ry h hs
 obtain⟨z,i,c,rfl,rfl,hz,he,q⟩:=h
 obtain⟨t,rfl⟩:=rx
 obtain⟨t',rfl⟩:=ry
 obtain⟨j,h1,h2,h3,h4,h5⟩:=Zo he
 have hl:z.cps.toList.length=z.length:=by simp[Str.length]
 rw[hl] at h1 h4 h5
 have hn:=kA
 exact tail_any (typeIs_str s z t) slot_str_getitem.lookup (getItem_str (c:=c) (by
  have e1:decide (i < -(2^63:Int))=false:=decide_eq_false (by omega)
  have e2:decide (i≥2^63)=false:=decide_eq_false (by omega)
  rw[e1,e2,Bool.or_false]) (by rw[h1]; simpa using h2) ⟨.str ⟨#[c]⟩,H,I.tok _,⟨_,rfl⟩,q⟩) hs
theorem XX (its:List Value) (n j:Nat) (u:Value):Obj.mapSeq (·.setIfInBounds j u) { cls:=.type "list", data:=.seq its.toArray n }={ cls:=.type "list", data:=.seq (its.set j u).toArray n }:=by
 simp[Obj.mapSeq]
theorem Inv.lst {pins:List (Addr×Obj)} {σ:St} {H:Hp} {s:Shared} {p:Addr} {xs:List V} (I:Inv X pins σ H s) (h:H p=some (.lst xs)) :
  ∃(its:List Value) (n:Nat),Vals xs its/\s.heap.get? p=some { cls:=.type "list", data:=.seq its.toArray n }/\xs.length<=sizeLine:=by
 obtain⟨z,its,n,r,e⟩:=I.hok p _ h
 exact⟨its,n,r,e,z⟩
theorem Inv.lstUpd {pins:List (Addr×Obj)} {σ:St} {H:Hp} {s:Shared} {p:Addr} {xs ys:List V} {its its':List Value} {n n':Nat} {f:Obj->Obj} (I:Inv X pins σ H s) (h:H p=some (.lst xs))
  (ho:s.heap.get? p=some { cls:=.type "list", data:=.seq its.toArray n }) (hf:f { cls:=.type "list", data:=.seq its.toArray n }={ cls:=.type "list", data:=.seq its'.toArray n' }) (r:Vals ys its') (hz:ys.length<=sizeLine) (t:Nat) :
  Inv X pins σ (upd H p (.lst ys)) { s with heap:=s.heap.update p f,toks:=t }:=by
 have e:(s.heap.update p f).get? p=some { cls:=.type "list", data:=.seq its'.toArray n' }:=by
  rw[Heap.get?_update_self f ho (by rw[hf]<;>rfl),hf]
 refine I.write (x:=p) (e:=p) (by rw[h]; trivial) (.inl rfl) (fun b u hb q=>(Heap.get?_update_other _ _ (Ne.symm hb)).trans q) ⟨_,e⟩ ?_
 exact⟨hz,its',n',r,e⟩
def rSetL:V->V->V->Hp->(Hp->Prop)->Prop:=fun o i v H Q=>∃p xs k j,o=.ref p/\i=.int k/\H p=some (.lst xs)/\ixN xs.length k=some j/\Q (upd H p (.lst (xs.set j v)))
theorem z0:PSet X rSetL:=by
 intro pins s σ H o i v ov iv u Q I ro ri rv h
 obtain⟨p,xs,k,j,rfl,rfl,hp,hj,q⟩:=h
 cases ro
 obtain⟨t,rfl⟩:=ri
 obtain⟨its,n,r,ho,hz⟩:=I.lst hp
 obtain⟨h1,h2,h3,h4⟩:=KL hj
 have hl:=r.length
 have hn:=kA
 have I':Inv X pins σ (upd H p (.lst (xs.set j v))) { s with heap:=s.heap.update p (Obj.mapSeq (·.setIfInBounds j u)) } :=
  I.lstUpd hp ho (XX its n j u) (r.set rv j) (by rw[List.length_set]; exact hz) s.toks
 by_cases h0:0<=k
 ·have hk:k.toNat=j:=by
   rw[seqIndex_of h0 h4] at h1
   exact Option.some.inj h1
  exact PySem.W.ki_setAt ho h0 (by omega) (by rw[List.size_toArray, <-hl]; exact h4) (by rw[hk]; exact⟨_,I',q⟩)
 ·have hk:(k+(its.toArray.size:Int)).toNat=j:=by
   rw[seqIndex_neg (by omega) h3] at h1
   rw[List.size_toArray, <-hl]
   exact Option.some.inj h1
  exact PySem.W.ki_setBack ho (by omega) (by rw[List.size_toArray, <-hl]; exact h3) (by omega) (by rw[hk]; exact⟨_,I',q⟩)
theorem QZ (lo hi:Option Int) (n:Nat):(sliceBounds lo hi none n).1=((HT.sIx n 0 lo:Nat):Int)/\(sliceBounds lo hi none n).2.1=((HT.sIx n n hi:Nat):Int)/\(sliceBounds lo hi none n).2.2=1:=by
 refine⟨?_, ?_,rfl⟩
 ·cases lo with
  |none=>simp[sliceBounds,HT.sIx]
  |some i =>
   simp only[sliceBounds,HT.sIx,Option.getD_none,show(1:Int)>0 by decide,if_true]
   by_cases h:i<0
   ·simp only[h,if_true]<;>omega
   ·simp only[h,if_false]<;>omega
 ·cases hi with
  |none=>simp[sliceBounds,HT.sIx]
  |some i =>
   simp only[sliceBounds,HT.sIx,Option.getD_none,show(1:Int)>0 by decide,if_true]
   by_cases h:i<0
   ·simp only[h,if_true]<;>omega
   ·simp only[h,if_false]<;>omega
theorem kO (its:List Value) (lo hi:Option Int):slicePick its.toArray lo hi none=((its.drop (HT.sIx its.length 0 lo)).take (HT.sIx its.length its.length hi-HT.sIx its.length 0 lo)).toArray:=by
 obtain⟨h1,h2,h3⟩:=QZ lo hi its.toArray.size
 unfold slicePick
 rw[h1,h2,h3]
 simp only[sliceRange_one,pick_run,List.size_toArray]<;>rfl
def rSlL (K:PySem.W.Frag):V->Option Int->Option Int->Hp->VK->Prop:=fun x lo hi H Q=>∃a xs,x=.ref a/\SqL K H a xs/\∀p,H p=none->Q (.ref p) (upd H p (.lst (cutV xs lo hi)))
theorem sl_list:SlR X (rSlL X.K):=by
 intro pins s σ H x v vl vu lo hi sl Q I rx hs pl pu h
 obtain⟨a,xs,rfl,hx,q⟩:=h
 cases rx
 obtain⟨its,r,ht,hz⟩:=I.list hx
 have hlen:=r.length
 refine⟨"list", _,slot_list_getitem.lookup,ht.isList.typeIs, ?_⟩
 refine wpAny_getItem_list_slice ht.isList hs pl pu .none (by simp) ?_ (by rw[List.size_toArray]<;>omega)
 rw[kO, <-hlen]
 refine⟨.ref s.heap.objs.size,_,I.laid (t':=s.toks) (o:=.lst (cutV xs lo hi)) (fun b ob q=>Heap.get?_push_of_some _ q) (Nat.le_refl _) ?_,rfl,q _ (I.hok.fresh (Nat.le_refl _))⟩
 exact⟨Nat.le_trans (Zg xs lo hi) hz,_,0,(r.drop (HT.sIx xs.length 0 lo)).take (HT.sIx xs.length xs.length hi-HT.sIx xs.length 0 lo),Heap.get?_push_size _ rfl⟩
def jb:V->Bool
 |.non=>true
 |.bl _=>true
 |.int _=>true
 |.str _=>true
 |_=>false
def eqV:V->V->Bool
 |.non, .non=>true
 |.bl a, .bl b=>a==b
 |.bl a, .int b=>(if a then 1 else 0)==b
 |.int a, .bl b=>a==(if b then 1 else 0)
 |.int a, .int b=>a==b
 |.str a, .str b=>a==b
 |_,_=>false
theorem eqAt_V {A:Around} {s:Shared} {y x:V} {u v:Value} (ry:RelV y u) (rx:RelV x v) (fy:jb y=true) (fx:jb x=true):SeqAt.EqAt A s u v (eqV y x):=by
 cases y with
 |non =>
  cases ry
  cases x with
  |non=>cases rx; exact SeqAt.EqAt.same _
  |bl b=>cases rx; exact SeqAt.EqAt.none_bool b
  |int b=>obtain⟨t,rfl⟩:=rx; exact SeqAt.EqAt.none_int b t
  |str b=>obtain⟨t,rfl⟩:=rx; exact SeqAt.EqAt.none_str b t
  |_=>exact absurd (show false=true from fx) Bool.false_ne_true
 |bl a =>
  cases ry
  cases x with
  |non=>cases rx; exact SeqAt.EqAt.bool_none a
  |bl b=>cases rx; exact SeqAt.EqAt.bool_bool a b
  |int b=>obtain⟨t,rfl⟩:=rx; exact SeqAt.EqAt.bool_int a b t
  |str b=>obtain⟨t,rfl⟩:=rx; exact SeqAt.EqAt.bool_str a b t
  |_=>exact absurd (show false=true from fx) Bool.false_ne_true
 |int a =>
  obtain⟨t',rfl⟩:=ry
  cases x with
  |non=>cases rx; exact SeqAt.EqAt.int_none a t'
  |bl b=>cases rx; exact SeqAt.EqAt.int_bool a t' b
  |int b=>obtain⟨t,rfl⟩:=rx; exact SeqAt.EqAt.int_int a t' b t
  |str b=>obtain⟨t,rfl⟩:=rx; exact SeqAt.EqAt.int_str a t' b t
  |_=>exact absurd (show false=true from fx) Bool.false_ne_true
 |str a =>
  obtain⟨t',rfl⟩:=ry
  cases x with
  |non=>cases rx; exact SeqAt.EqAt.str_none a t'
  |bl b=>cases rx; exact SeqAt.EqAt.str_bool a t' b
  |int b=>obtain⟨t,rfl⟩:=rx; exact SeqAt.EqAt.str_int a t' b t
  |str b=>obtain⟨t,rfl⟩:=rx; exact SeqAt.EqAt.str_str a t' b t
  |_=>exact absurd (show false=true from fx) Bool.false_ne_true
 |_=>exact absurd (show false=true from fy) Bool.false_ne_true
def eqU (x:V) (u:Value):Bool:=match u with
 |.none=>eqV .non x
 |.bool b=>eqV (.bl b) x
 |.int i _=>eqV (.int i) x
 |.str z _=>eqV (.str z) x
 |_=>false
theorem eqU_of {x y:V} {u:Value} (r:RelV y u) (f:jb y=true):eqU x u=eqV y x:=by
 cases y with
 |non=>cases r; rfl
 |bl b=>cases r; rfl
 |int i=>obtain⟨t,rfl⟩:=r; rfl
 |str z=>obtain⟨t,rfl⟩:=r; rfl
 |_=>exact absurd (show false=true from f) Bool.false_ne_true
theorem Zp {x:V}:∀{xs:List V} {us:List Value},Vals xs us->xs.all jb=true->us.any (eqU x)=xs.any fun y=>eqV y x
 |_,_, .nil,_=>rfl
 |y::xs,u::us, .cons r t,f=>by
  rw[List.all_cons,Bool.and_eq_true] at f
  rw[List.any_cons,List.any_cons,eqU_of r f.1,Zp t f.2]
theorem Qf {A:Around} {s:Shared} {x:V} {v:Value} (rx:RelV x v) (fx:jb x=true):∀{xs:List V} {us:List Value},Vals xs us->xs.all jb=true->∀u∈us,SeqAt.EqAt A s u v (eqU x u)
 |_,_, .nil,_=>fun u hu=>by cases hu
 |y::xs,u::us, .cons r t,f=>fun u' hu=>by
  rw[List.all_cons,Bool.and_eq_true] at f
  rcases List.mem_cons.mp hu with rfl|hu
  ·rw[eqU_of r f.1]; exact eqAt_V r rx f.1 fx
  ·exact Qf rx fx t f.2 u' hu
def inV (x:V) (xs:List V):Bool:=xs.any fun y=>eqV y x
def rIn (K:PySem.W.Frag) (neg:Bool):R2:=fun x y H Q=>∃p xs,y=.ref p/\(SqL K H p xs\/SqT K H p xs)/\jb x=true/\xs.all jb=true/\Q (.bl (if neg then !inV x xs else inV x xs)) H
theorem J7:OpR X (compareOp .In) (rIn X.K false):=by
 intro pins s σ H x y v u Q I rx ry h
 obtain⟨p,xs,rfl,hq,fx,fs,q⟩:=h
 cases ry
 rcases hq with hq|hq
 ·obtain⟨its,r,pl,hz⟩:=I.list hq
  refine SeqAt.in_listAt (eqU x) pl.isList (fun w hw=>Qf rx fx r fs w (by simpa using hw)) ⟨.bl _,H,I,rfl, ?_⟩
  rw[show its.toArray.any (eqU x)=its.any (eqU x) by simp,Zp r fs]
  exact q
 ·obtain⟨its,r,pl,hz⟩:=I.tuple hq
  refine SeqAt.in_tupleAt (eqU x) pl (fun w hw=>Qf rx fx r fs w (by simpa using hw)) ⟨.bl _,H,I,rfl, ?_⟩
  rw[show its.toArray.any (eqU x)=its.any (eqU x) by simp,Zp r fs]
  exact q
theorem jm:zd X (.builtin "len") (fun xs H Q=>∃p ys,xs=[.ref p]/\(SqL X.K H p ys\/SqT X.K H p ys)/\Q (.int ys.length) H):=by
 intro pins s σ H xs us Q I r h
 obtain⟨p,ys,rfl,hq,q⟩:=h
 obtain⟨u,rfl,rx⟩:=xA r
 cases rx
 have hn:=kA
 rcases hq with hq|hq
 ·obtain⟨its,r',pl,hz⟩:=I.list hq
  have hlen:=r'.length
  exact Calls.call_len_list pl.isList (by simp only[List.size_toArray]<;>omega) ⟨.int ys.length,H,I.tok _,⟨s.toks+1,by rw[List.size_toArray,hlen]⟩,q⟩
 ·obtain⟨its,r',pl,hz⟩:=I.tuple hq
  have hlen:=r'.length
  exact len_tuple pl (by simp only[List.size_toArray]<;>omega) ⟨.int ys.length,H,I.tok _,⟨s.toks+1,by rw[List.size_toArray,hlen]⟩,q⟩
theorem Vw:zd X (.builtin "len") (fun xs H Q=>∃z,xs=[.str z]/\z.length<=sizeLine/\Q (.int z.length) H):=by
 intro pins s σ H xs us Q I r h
 obtain⟨z,rfl,hz,q⟩:=h
 obtain⟨u,rfl,t,rfl⟩:=xA r
 have hn:=kA
 exact len_str (by omega) ⟨.int z.length,H,I.tok _,⟨_,rfl⟩,q⟩
theorem xU:zd X (.type "tuple") (fun xs H Q=>∃p ys,xs=[.ref p]/\((SqL X.K H p ys/\∀l,H l=none->Q (.ref l) (upd H l (.tup ys)))\/(SqT X.K H p ys/\Q (.ref p) H))):=by
 intro pins s σ H xs us Q I r h
 obtain⟨p,ys,rfl,h⟩:=h
 obtain⟨u,rfl,rx⟩:=xA r
 cases rx
 rcases h with⟨hq,q⟩|⟨hq,q⟩
 ·obtain⟨its,r',pl,hz⟩:=I.list hq
  have hlen:=r'.length
  refine call_tuple_list pl.isList (fun h' kp=>?_) (by simp only[List.size_toArray]<;>omega)
  have I1:Inv X pins σ H { s with heap:=h' }:=I.kept (t':=s.toks) kp
  have I2:Inv X pins σ (upd H h'.objs.size (.tup ys)) { s with heap:=h'.push { cls:=.type "tuple", data:=.seq its.toArray } } :=
   I1.laid (t':=s.toks) (fun b o e=>Heap.get?_push_of_some _ e) (Nat.le_refl _) (show ObjOk X.prog X.w _ _ _ (.tup ys) from⟨hz,its,r',IsTup.new _ _⟩)
  exact⟨.ref h'.objs.size,_,I2,rfl,q _ (I1.hok.fresh (Nat.le_refl _))⟩
 ·obtain⟨its,r',pl,hz⟩:=I.tuple hq
  exact call_tuple_same pl ⟨.ref p,H,I,rfl,q⟩
def tyV (K:PySem.W.Frag) (T:String) (x:V) (H:Hp):Prop:=match x with
 |.str _=>T = "str"
 |.int _=>T = "int"
 |.ref p=>(T = "list" /\ ∃xs,SqL K H p xs)\/(T = "tuple" /\ ∃o,K.lookup p=some o/\o.cls=.type "tuple" /\ o.dict=none) \/
   (T = "dict" /\ ((∃kvs,H p=some (.dK kvs))\/∃kvs,H p=some (.dT kvs)))\/(T = "set" /\ ∃S n,H p=some (.set S n))
 |_=>False
theorem Jm {pins:List (Addr×Obj)} {σ:St} {H:Hp} {s:Shared} {T:String} {x:V} {v:Value} (I:Inv X pins σ H s) (r:RelV x v) (ty:tyV X.K T x H) :
  s.TypeIs v T/\∀a,v=.ref a->∃ob,s.heap.get? a=some ob/\ob.dict=none:=by
 cases x with
 |str z =>
  obtain⟨t,rfl⟩:=r
  cases(show T = "str" from ty)
  exact⟨typeIs_str s z t,fun _ e=>nomatch e⟩
 |int i =>
  obtain⟨t,rfl⟩:=r
  cases(show T = "int" from ty)
  exact⟨typeIs_int s i t,fun _ e=>nomatch e⟩
 |ref p =>
  cases r
  rcases ty with⟨rfl,xs,hq⟩|⟨rfl,o,hk,hc,hd⟩|⟨rfl,hk⟩|⟨rfl,S,n,hk⟩
  ·obtain⟨its,_,pl,_⟩:=I.list hq
   refine⟨pl.isList.typeIs,fun a e=>?_⟩
   cases e
   obtain⟨o,n,e,c,hd,_⟩:=pl
   exact⟨o,e,hd⟩
  ·refine⟨⟨o,I.kIn p o hk,hc⟩,fun a e=>?_⟩
   cases e
   exact⟨o,I.kIn _ o hk,hd⟩
  ·have z:∃o,s.heap.get? p=some o/\o.ExactDict:=by
    rcases hk with⟨kvs,hk⟩|⟨kvs,hk⟩
    ·obtain⟨_,_,_,_,o,_,_,e,ex,_⟩:=I.hok p _ hk
     exact⟨o,e,ex⟩
    ·obtain⟨_,_,_,_,o,_,_,e,ex,_⟩:=I.hok p _ hk
     exact⟨o,e,ex⟩
   obtain⟨o,e,ex⟩:=z
   refine⟨⟨o,e,ex.1⟩,fun a e2=>?_⟩
   cases e2
   exact⟨o,e,ex.2.1⟩
  ·obtain⟨o,_,_,_,e,ex,_⟩:=I.hok p _ hk
   refine⟨⟨o,e,ex.1⟩,fun a e2=>?_⟩
   cases e2
   exact⟨o,e,ex.2.1⟩
 |_=>exact False.elim ty
def tBM0 (K:PySem.W.Frag) (T:String) (r:V->List V->Hp->VK->Prop) (to:TE):TE:=fun σ H Q=>to σ H fun x H1=>tyV K T x H1/\r x [] H1 Q
def tBM (K:PySem.W.Frag) (T:String) (r:V->List V->Hp->VK->Prop) (to:TE) (t:TA):TE:=fun σ H Q=>to σ H fun x H1=>tyV K T x H1/\t σ H1 fun xs H2=>r x xs H2 Q
variable {o e:Expr} {es:List Expr} {to:TE} {t:TA} {name:Str} {apos cpos:Pos} {T id:String} {r:V->List V->Hp->VK->Prop}
theorem pe_bm0 (pa:PlainAttrs T) (slot:Slot T name id) (hty:typeOf (.builtin id)=pure (.type "method_descriptor")) (hm:MtR X id r) (ho:PE X o to)
  (hbase:attributeBase o name X.env (eval o X.env)=eval o X.env:=by rfl) (hline:(apos.endLine==cpos.line)=true:=by rfl):PE X (.Call (.Attribute o name apos) [] [] cpos) (tBM0 X.K T r to):=by
 intro pins s σ H Q I h
 refine wpAny_Call_method0_late hbase hline (thn (ho pins s σ H _ I h) fun v s1 ⟨x,H1,I1,r1,ty,q1⟩=>?_)
 obtain⟨h1,h2⟩:=Jm I1 r1 ty
 exact⟨T,id,pa,slot,hty,h1,h2,Calls.callWith_builtin rfl (PySem.evalArgs_none (hm pins s1 σ H1 x [] v [] Q I1 r1 .nil q1))⟩
theorem pe_bm (pa:PlainAttrs T) (slot:Slot T name id) (hty:typeOf (.builtin id)=pure (.type "method_descriptor")) (hm:MtR X id r) (ho:PE X o to) (ha:PA X (e::es) t)
  (hbase:attributeBase o name X.env (eval o X.env)=eval o X.env:=by rfl)
  (hfew:((backTo cpos (starEach (e::es) X.env)).all (fun x => !x.1)&&(backToKw cpos (keywordEach [] X.env)).all (fun x=>x.1.isSome)
   && decide ((e::es).length+([]:List Keyword).length+(if([]:List Keyword).isEmpty then 0 else 1)<30))=true:=by rfl)
  (hline:(apos.endLine==cpos.line)=true:=by rfl) (hs:starEach (e::es) X.env=(false,eval e X.env)::starEach es X.env:=by rfl) (hplain:(backTo cpos (starEach es X.env)).any (·.1)=false:=by rfl) :
  PE X (.Call (.Attribute o name apos) (e::es) [] cpos) (tBM X.K T r to t):=by
 intro pins s σ H Q I h
 refine wpAny_Call_method_late hbase hfew hline rfl (thn (ho pins s σ H _ I h) fun v s1 ⟨x,H1,I1,r1,ty,q1⟩=>?_)
 obtain⟨h1,h2⟩:=Jm I1 r1 ty
 refine⟨T,id,pa,slot,hty,h1,h2, ?_⟩
 have hA:=ha cpos pins s1 σ H1 _ I1 q1
 rw[hs] at hA ⊢
 refine Calls.callWith_builtin (by show(false||(backTo cpos (starEach es X.env)).any (·.1))=false; rw[hplain]<;>rfl) (Calls.evalArgs_plain ?_)
 exact thn hA fun us s2 ⟨vs,H2,I2,r2,q2⟩=>hm pins s2 σ H2 x vs v us Q I2 r1 r2 q2
end
def MtM (X:Cx) (id:String) (r:V->List V->Hp->VK->Prop):Prop :=
 ∀(pins:List (Addr×Obj)) (s:Shared) (σ:St) (H:Hp) (x:V) (xs:List V) (v:Value) (us:List Value) (Q:VK),Inv X pins σ H s->RelV x v->Vals xs us->r x xs H Q ->
  wpAny (model X.prog X.w) X.A (call (.builtin id) (v::us)) (EP X pins σ Q) X.xe s
theorem Vals.one:∀{x:V} {us:List Value},Vals [x] us->∃u,us=[u]/\RelV x u
 |_,_, .cons r .nil=>⟨_,rfl,r⟩
theorem Vals.rep {xs:List V} {us:List Value} (h:Vals xs us):∀k:Nat,Vals (List.replicate k xs).flatten (List.replicate k us).flatten
 |0=>.nil
 |k+1=>by
  rw[List.replicate_succ,List.replicate_succ,List.flatten_cons,List.flatten_cons]
  exact Vals.append h (Vals.rep h k)
theorem Vn (its:List Value):∀(k:Nat) (acc:List Value),
  List.foldl (fun x1 x2=>x1++x2) acc.toArray (List.replicate k its.toArray)=(acc++(List.replicate k its).flatten).toArray
 |0,acc=>by simp
 |k+1,acc=>by
  have e:acc.toArray++its.toArray=(acc++its).toArray:=by simp
  have e2:(acc++its)++(List.replicate k its).flatten=acc++(List.replicate (k+1) its).flatten:=by
   rw[List.replicate_succ,List.flatten_cons,List.append_assoc]
  rw[<-e2, <-Vn its k (acc++its), <-e,List.replicate_succ,List.foldl_cons]
section
variable {X:Cx} {pins:List (Addr×Obj)} {σ:St} {H:Hp} {s:Shared} {l:Addr} {xs ys:List V}
theorem Inv.lset {its its':List Value} {n:Nat} {f:Array Value->Array Value} {t':Nat} (I:Inv X pins σ H s) (hH:H l=some (.lst xs))
  (e:s.heap.get? l=some { cls:=.type "list", data:=.seq its.toArray n }) (hf:f its.toArray=its'.toArray) (hv:Vals ys its') (hz:ys.length<=sizeLine) :
  Inv X pins σ (upd H l (.lst ys)) { s with heap:=s.heap.update l (Obj.mapSeq f),toks:=t' }:=by
 have q:=PySem.IsL.update e f
 rw[hf] at q
 refine I.write (x:=l) (e:=l) (by rw[hH]; exact trivial) (.inl rfl) (fun b' u hb hu=>(Heap.get?_update_other s.heap (Obj.mapSeq f) (Ne.symm hb)).trans hu) ⟨_,q⟩ ?_
 exact⟨hz,its',_,hv,q⟩
theorem Inv.lnew {its:List Value} {t':Nat} (I:Inv X pins σ H s) (hv:Vals ys its) (hz:ys.length<=sizeLine) :
  Inv X pins σ (upd H s.heap.objs.size (.lst ys)) { s with heap:=s.heap.push { cls:=.type "list", data:=.seq its.toArray },toks:=t' } :=
 I.laid (fun _ _ q=>Heap.get?_push_of_some _ q) (Nat.le_refl _) ⟨hz,its,0,hv,Heap.get?_push_size _ rfl⟩
theorem Inv.fresh (I:Inv X pins σ H s):H s.heap.objs.size=none:=I.hok.fresh (Nat.le_refl _)
theorem Inv.lstM (I:Inv X pins σ H s) (hH:H l=some (.lst xs)):xs.length<=sizeLine/\∃(its:List Value) (n:Nat),Vals xs its/\xs.length=its.length/\s.heap.get? l=some { cls:=.type "list", data:=.seq its.toArray n }:=by
 obtain⟨z,its,n,r,e⟩:=I.hok l _ hH
 exact⟨z,its,n,r,r.length,e⟩
theorem Z0 {n:Nat} (h:n<=sizeLine):Builtin.List.listTooLong n=false:=by
 unfold Builtin.List.listTooLong
 exact decide_eq_false (by omega)
end
section
variable {X:Cx}
def JN:V->List V->Hp->VK->Prop:=fun x vs H Q=>∃l xs y,x=.ref l/\vs=[y]/\H l=some (.lst xs)/\xs.length<sizeLine/\Q .non (upd H l (.lst (xs++[y])))
theorem jU:MtM X "list.append" JN:=by
 intro pins s σ H x vs v us Q I rx rv h
 obtain⟨l,xs,y,rfl,rfl,hH,hz,q⟩:=h
 cases rx
 obtain⟨u,rfl,ru⟩:=rv.one
 obtain⟨z,its,n,r,hl,e⟩:=I.lstM hH
 refine call_meets F.slot_list_append ⟨_,e,rfl⟩ F.entry_list_append (F.args_list_append_2 _ _) (PySem.list_append l its.toArray n u (by rw[List.size_toArray]; omega)) ⟨e, ?_⟩
 refine⟨.non,_,I.lset (its':=its++[u]) hH e (by simp) (r.append (.cons ru .nil)) ?_,rfl,q⟩
 rw[List.length_append,List.length_singleton]
 omega
def rExtend:V->List V->Hp->VK->Prop:=fun x vs H Q=>∃l b xs zs,x=.ref l/\vs=[.ref b]/\H l=some (.lst xs)/\H b=some (.lst zs)/\xs.length+zs.length<=sizeLine/\Q .non (upd H l (.lst (xs++zs)))
theorem mt_extend:MtM X "list.extend" rExtend:=by
 intro pins s σ H x vs v us Q I rx rv h
 obtain⟨l,b,xs,zs,rfl,rfl,hH,hB,hz,q⟩:=h
 cases rx
 obtain⟨u,rfl,ru⟩:=rv.one
 cases ru
 obtain⟨z,its,n,r,hl,e⟩:=I.lstM hH
 obtain⟨z2,its2,n2,r2,hl2,e2⟩:=I.lstM hB
 have hsz:its.toArray.size+its2.toArray.size<=sizeLine:=by rw[List.size_toArray,List.size_toArray]; omega
 have hlong:¬(!its.toArray.isEmpty&&Builtin.List.listTooLong (its.toArray.size+its2.toArray.size))=true:=by
  rw[Z0 hsz,Bool.and_false]
  exact Bool.false_ne_true
 refine call_meets F.slot_list_extend ⟨_,e,rfl⟩ F.entry_list_extend (F.args_list_extend_2 _ _)
  (AutoSeq1.list_extend_list_list_0 l its.toArray n b its2.toArray n2 hlong (by rw[List.size_toArray]; omega) (by omega)) ⟨e,e2, ?_⟩
 refine⟨.non,_,I.lset (its':=its++its2) hH e (by simp) (r.append r2) ?_,rfl,q⟩
 rw[List.length_append]
 omega
def rCat:R2:=fun x y H Q=>∃l b xs zs,x=.ref l/\y=.ref b/\H l=some (.lst xs)/\H b=some (.lst zs)/\xs.length+zs.length<=sizeLine/\∀p,H p=none->Q (.ref p) (upd H p (.lst (xs++zs)))
theorem zM:OpR X (binaryOp .Add) rCat:=by
 intro pins s σ H x y v u Q I rx ry h
 obtain⟨l,b,xs,zs,rfl,rfl,hH,hB,hz,q⟩:=h
 cases rx
 cases ry
 obtain⟨z,its,n,r,hl,e⟩:=I.lstM hH
 obtain⟨z2,its2,n2,r2,hl2,e2⟩:=I.lstM hB
 refine PySem.P.add_list e e2 ?_ (by rw[List.size_toArray,List.size_toArray]; omega)
 have ea:its.toArray++its2.toArray=(its++its2).toArray:=by simp
 rw[ea]
 exact⟨.ref _,_,I.lnew (t':=s.toks) (r.append r2) (by rw[List.length_append]; omega),rfl,q _ I.fresh⟩
def rRep:R2:=fun x y H Q=>∃l k xs,x=.ref l/\y=.int k/\H l=some (.lst xs) /\ -(2^63)<=k/\k<2^63/\xs.length*k.toNat<=sizeLine /\
 ∀p,H p=none->Q (.ref p) (upd H p (.lst (List.replicate k.toNat xs).flatten))
theorem len_rep {α:Type} (xs:List α) (k:Nat):(List.replicate k xs).flatten.length=k*xs.length:=by
 induction k with
 |zero=>simp
 |succ k ih=>rw[List.replicate_succ,List.flatten_cons,List.length_append,ih,Nat.succ_mul,Nat.add_comm]
theorem op_rep:OpR X (binaryOp .Mult) rRep:=by
 intro pins s σ H x y v u Q I rx ry h
 obtain⟨l,k,xs,rfl,rfl,hH,h1,h2,hz,q⟩:=h
 cases rx
 obtain⟨t,rfl⟩:=ry
 obtain⟨z,its,n,r,hl,e⟩:=I.lstM hH
 have hlen:its.toArray.size*k.toNat<=sizeLine:=by rw[List.size_toArray, <-hl]; exact hz
 have hcap:¬its.toArray.size*k.toNat>(2^63-1) / 8:=by
  have:(sizeLine:Nat)<=(2^63-1) / 8:=by decide
  omega
 have hfit:¬(!Builtin.List.listFitsIndex k)=true:=by
  rw[fitsIndex_both h1 h2]
  exact Bool.false_ne_true
 have hlong:¬Builtin.List.listTooLong (its.toArray.size*k.toNat)=true:=by
  rw[Z0 hlen]
  exact Bool.false_ne_true
 have hnew:List.foldl (fun x1 x2=>x1++x2) #[] (List.replicate (if its.toArray.isEmpty=true then 0 else k.toNat) its.toArray)=(List.replicate k.toNat its).flatten.toArray:=by
  have f0:∀m:Nat,List.foldl (fun x1 x2=>x1++x2) #[] (List.replicate m its.toArray)=(List.replicate m its).flatten.toArray:=fun m=>by
   have:=Vn its m []
   rw[List.nil_append] at this
   exact this
  rw[f0]
  cases its with
  |nil=>simp
  |cons a r'=>rw[if_neg (by simp)]
 refine wpAny_binaryOp_repeat_ref (T := "list") (U := "int") (by decide) ⟨_,e,rfl⟩ (fun s'=>typeIs_int s' k t) noFill_list_mul F.fills_int_mul F.slot_int_rmul repeat_list F.slot_int_index.lookup
  (call_meets F.slot_int_rmul (typeIs_int s k t) F.entry_int_rmul (F.args_int_rmul_2 _ _) (int___rmul___int_list k t l its.toArray n)
   ⟨e,rfl,⟨_,e,rfl⟩,call_meets F.slot_list_mul ⟨_,e,rfl⟩ F.entry_list_mul (F.args_list_mul_2 _ _) (AutoListH.list___mul___list_int_3 l its.toArray n k t hfit hcap hlong) ⟨e, ?_⟩⟩)
 rw[hnew]
 exact⟨.ref _,_,I.lnew (t':=s.toks) (r.rep k.toNat) (by rw[len_rep,Nat.mul_comm]; exact hz),rfl,q _ I.fresh⟩
end
end L2
namespace Att
open PySem PySem.W PySem.Calls PyProof.Rows
theorem jZ {P:Params} {h:Heap}:∀(ns:List Int) (vs:List Value),WellAll P h vs (ns.map WData.int)->IntsAre vs ns:=by
 intro ns
 induction ns with
 |nil =>
  intro vs w
  rw[List.map_nil] at w
  cases w
  exact .nil
 |cons n ns ih =>
  intro vs w
  rw[List.map_cons] at w
  cases w with
  |cons a b =>
   cases a
   exact .cons _ _ (ih _ b)
theorem Jz {l:OpenLaw} {n:Nat} (hn:l.most=some n) {P:Params} {h:Heap} {args:List WData} {vals:List Value}
  (hpre:l.row.toRowW.claim.pre args=true) (hwl:WellAll P h vals args) :
  ∃a vs ns,vals=[Value.ref a]/\args=[WData.list (ns.map WData.int)]/\h.get? a=some { cls:=.type "list", data:=.seq vs.toArray }/\IntsAre vs ns/\ns.length<=n:=by
 have hsh:WShape.hasAll [] args [.list .int]=true:=(pre_splitW hpre).1
 have hc:l.pre.holds [] { args:=args }=true:=(pre_splitW hpre).2
 obtain⟨d,r,rfl,h1,h2⟩:=hasAllW_cons hsh
 obtain rfl:=hasAllW_nil h2
 obtain⟨xs,rfl,h3⟩:=hasW_list h1
 obtain⟨ns,rfl⟩:=items_int h3
 have hlen:ns.length<=n:=by
  unfold OpenLaw.pre at hc
  have h4:(WTm.not (.lt (.lit (.int (n:Int))) (.len (.arg 0)))).holds [] { args:=[.list (ns.map .int)] }=true:=by
   have h4:=(holds_andW hc).1
   rw[hn] at h4
   exact h4
  have h5:=condW_of h4 (w_not (w_lt w_lit (w_len_list (w_arg rfl))))
  rw[List.length_map] at h5
  refine Nat.le_of_not_lt fun q=>?_
  have q':(n:Int)<((ns.length:Nat):Int):=by omega
  first
   | (rw[decide_eq_true q'] at h5; exact absurd h5 (by decide))
   | (simp at h5; omega)
 cases hwl with
 |cons w1 w2 =>
  cases w2
  cases w1 with
  |list ho hall=>exact⟨_,_,ns,rfl,rfl,ho,jZ ns _ hall,hlen⟩
theorem JV (l:OpenLaw) (args:List WData):l.row.toRowW.claim.post args (.bool true) args=true :=
 postW_of (r:=l.row.toRowW) (X:=(true==true))
  (show WShape.has [] (.bool true) .bool=true by first|rfl|decide|simp[WShape.has,WShape.arms,WShape.armsAll])
  (show(WTm.eq .res (.lit (.bool true))).value [] { args:=args,res:=some (.bool true),after:=args }=some (.bool (true==true)) from w_eq_bool (w_res rfl) w_lit) rfl
theorem attach_call {l:OpenLaw} {n:Nat} {q:Program} {loose:List Str} {XP:(Str->Option Value)->Heap->Prop} {YP:World->Heap->Prop} {d:DefRec}
  (hn:l.most=some n) (hdf:d.params.defaults=[])
  (call:∀(w:World) (s₀ s₁:Shared) (mg mb:Str->Option Value) (fa:Addr) (o:Obj) (pm cd doc:Value) (a:Addr) (vs:List Value) (ns:List Int),
   Ground q loose [] XP w s₀ mg mb s₁.heap->YP w s₁.heap ->
   s₁.heap.get? fa=some o->o.data=.func (docDef d.name d.params d.body d.scope pm cd doc)->s₁.heap.CodeRec cd d.name->mg d.name=some (.ref fa) ->
   s₁.heap.get? a=some { cls:=.type "list", data:=.seq vs.toArray }->IntsAre vs ns->ns.length<=n->s₁.gens=#[] ->
   codeAny (model l.prog w) callerA (.call (.ref fa) ⟨[.ref a], []⟩) (fun r s'=>r=.ok (.ret (.bool true))/\OldK s₁.heap s'.heap/\s'.os=s₁.os/\AllBare s'.gens) s₁) :
  WalkO q loose XP YP l.row.toRowW d [] (fun f vs=>PySem.call f vs):=by
 intro w s₀ s₁ mg mb G Y fa o pm cd doc dV kV ho hd hcd hD hmg hg args vals as hpre hlay hrd hwl hlo
 obtain rfl:dV=.none:=Dflts.none hD hdf
 obtain rfl:kV=.none:=Dflts.noKw hD
 obtain⟨a,vs,ns,rfl,rfl,hobj,hints,hlen⟩:=Jz hn hpre hwl
 refine enter_call (codeAny_mono (call w s₀ s₁ mg mb fa o pm cd doc a vs ns G Y ho (fd_plain hd) hcd hmg hobj hints hlen hg) fun r s' hq=>?_)
 obtain⟨rfl,h2,h3,h4⟩:=hq
 exact⟨.inl ⟨.bool true, .bool true, [],rfl,fun _=>rfl, .bool true,JV l _,fun _=>⟨List.Pairwise.nil,fun _ hm=>(nomatch hm)⟩⟩,h2,h3,h4⟩
end Att
namespace L2
open PySem PySem.Spec PyProof.Rows
theorem QF:∀{vs:List Value} {ns:List Int},IntsAre vs ns->Vals (ns.map V.int) vs
 |_,_, .nil=>.nil
 |_,_, .cons n t h=>.cons ⟨t,rfl⟩ (QF h)
def Only (H:Hp):Prop:=∀b,H b=none\/∃o xs,H b=some (.frz o (.lst xs))
theorem law_call {P:Program} {w:World} {K:PySem.W.Frag} {mg mb:Str->Option Value} {CX:CXT} {k:Nat} {fa a:Addr} {fd:FuncData} {x:Str} {sp:Sp} {s₁:Shared} {vs:List Value} {ns:List Int}
  (KX:K.In s₁.heap) (hns:s₁.heap.Ns mainGlobals mg) (hb:s₁.heap.Ns builtinsNs mb) (hbb:∀x:Str,x ≠ "__name__" -> mb x=bootBuiltins x) (hlim:s₁.heap.NoLimit) (hg:s₁.gens=#[])
  (ha:s₁.heap.get? a=some { cls:=.type "list", data:=.seq vs.toArray }) (hi:IntsAre vs ns) (hl:ns.length<=sizeLine) (hr:Room k callerA)
  (F:∀base:Heap,K.In base->base.Ns mainGlobals mg->FnOk P w K mg base CX k fa fd [x] sp) (hbind:∀(s:Shared) (u:Value),BindsTo s fd ⟨[u], []⟩ [(x,u)])
  (hsp:∀H:Hp,Only H->SqL K H a (ns.map V.int)->sp [.ref a] H (fun v _=>v=.bl true) fun _ _ _=>False)
  (hCX:∀H e s',CX [] H s₁ (fun _ _ _=>False) e s'->False) :
  codeAny (model P w) callerA (.call (.ref fa) ⟨[.ref a], []⟩) (fun r s'=>r=.ok (.ret (.bool true))/\OldK s₁.heap s'.heap/\s'.os=s₁.os/\AllBare s'.gens) s₁:=by
 have rv:=QF hi
 have lenV:=hi.length
 -- from an abstract heap in which nothing but the script may be tracked
 have core:∀H:Hp,Only H->SqL K H a (ns.map V.int)->HOk P w H s₁.heap->(∀b,H b≠none->b=a)->(H a≠none->K.lookup a=none) ->
   codeAny (model P w) callerA (.call (.ref fa) ⟨[.ref a], []⟩) (fun r s'=>r=.ok (.ret (.bool true))/\OldK s₁.heap s'.heap/\s'.os=s₁.os/\AllBare s'.gens) s₁:=by
  intro H hO hS hok hA hK
  have base_of:∀{b:Addr} {o:Obj},s₁.heap.get? b=some o->H b=none->(hidT s₁.heap H).get? b=some o:=fun e n=>hidT_get e n
  have noA:∀{b:Addr} {o:Obj} {es:Array DictEntry} {ep:Nat},s₁.heap.get? b=some o->o.data=.dict es ep->H b=none:=fun {b o es ep} e d=>by
   cases q:H b with
   |none=>rfl
   |some u =>
    have e':b=a:=hA b (by rw[q]; simp)
    subst e'
    rw[ha] at e; cases e
    have d':Data.seq vs.toArray _=Data.dict es ep:=d
    cases d'
  have nsK:∀{b:Addr} {m:Str->Option Value},s₁.heap.Ns b m->(hidT s₁.heap H).Ns b m:=fun {b m} ⟨o,es,ep,e,d,r⟩=>⟨o,es,ep,base_of e (noA e d),d,r⟩
  have hKb:K.In (hidT s₁.heap H):=fun b o e=>base_of (KX b o e) (by
   cases q:H b with
   |none=>rfl
   |some u =>
    have e':b=a:=hA b (by rw[q]; simp)
    subst e'
    rw[hK (by rw[q]; simp)] at e; cases e)
  have hM:Mod K mg (hidT s₁.heap H):=⟨hKb,nsK hns,⟨mb,nsK hb,hbb⟩,let⟨mc,h1,h2⟩:=hlim; ⟨mc,nsK h1,h2⟩⟩
  have e0:Env0 P w K mg (hidT s₁.heap H) callerA [] s₁ H:=⟨rfl,hM,fun b o e=>of_hidT e,Nat.le_of_eq (KS _ _),trivial,fun b hb=>absurd (show b∈([]:List Addr) from hb) (by simp),hok, .of_eq hg⟩
  refine codeAny_mono ((F _ hKb (nsK hns)).run callerA [] s₁ H ⟨[.ref a], []⟩ [.ref a] [.ref a] _ _ hr e0 (hbind s₁ (.ref a)) (.cons rfl .nil) (hsp H hO hS)) fun r s' h=>?_
  cases r with
  |error e=>exact(hCX H e s' h).elim
  |ok fl =>
   cases fl with
   |next=>exact False.elim h
   |brk=>exact False.elim h
   |cont=>exact False.elim h
   |ret u =>
    obtain⟨v,H',os,bare,un,hok',r',q⟩:=h
    have q':v=.bl true:=q
    subst q'
    obtain rfl:u=Value.bool true:=r'
    refine⟨rfl,OldK.of_keep fun b o e=>?_,os,bare⟩
    cases q:H b with
    |none=>exact un.keep b o e q (by intro z; exact absurd (show b∈([]:List Addr) from z) (by simp)) (by simp)
    |some u =>
     rcases hO b with z|⟨ob,xs,z⟩
     ·rw[q] at z; cases z
     ·have z2:=un.frzs b ob _ z
      obtain⟨e1,_⟩:=hok b _ z
      obtain⟨e2,_⟩:=hok' b _ z2
      rw[e] at e1; cases e1
      exact e2
 cases hk:K.lookup a with
 |some o =>
  -- the script is one of the module's own objects
  have e:=KX a o hk
  rw[ha] at e
  cases e
  refine core (fun _=>none) (fun _=>.inl rfl) (.inr ⟨_,vs.toArray,_,hk,rfl,rfl,rfl,by rw[List.size_toArray,lenV]; exact hl,by simpa using rv⟩) (fun b u z=>by have z':(none:Option HO)=some u:=z; cases z') (fun b z=>absurd rfl z) fun z=>absurd rfl z
 |none =>
  refine core (fun b=>if b=a then some (.frz { cls:=.type "list", data:=.seq vs.toArray } (.lst (ns.map V.int))) else none) (fun b=>?_) (.inl (.inr ⟨{ cls:=.type "list", data:=.seq vs.toArray },if_pos rfl⟩)) (fun b u z=>?_) (fun b z=>?_) fun _=>hk
  ·by_cases hb:b=a
   ·exact .inr ⟨_,_,if_pos hb⟩
   ·exact .inl (if_neg hb)
  ·by_cases hb:b=a
   ·have z':=(if_pos hb).symm.trans z
    cases z'
    subst hb
    exact⟨ha,by rw[List.length_map]; exact hl,vs,_,rv,ha⟩
   ·have z':=(if_neg hb).symm.trans z
    cases z'
  ·by_cases hb:b=a
   ·exact hb
   ·exact absurd (if_neg hb) z
theorem walk_of {l:PySem.W.OpenLaw} {n k:Nat} {q:Program} {loose:List Str} {XP:(Str->Option Value)->Heap->Prop} {YP:World->Heap->Prop} {d:DefRec} {K:Params->PySem.W.Frag} {CX:World->CXT} {sp:World->Sp} {x:Str}
  (hn:l.most=some n) (hn2:n<=sizeLine) (hdf:d.params.defaults=[]) (hr:Room k callerA)
  (hY:∀(w:World) (h:Heap),YP w h->(K w.params).In h)
  (F:∀(w:World) (mg:Str->Option Value) (fa:Addr) (h:Heap),(K w.params).In h->h.Ns mainGlobals mg->mg d.name=some (.ref fa) ->
   ∃fd:FuncData,(∀(s:Shared) (u:Value),BindsTo s fd ⟨[u], []⟩ [(x,u)]) /\
    ∀base:Heap,(K w.params).In base->base.Ns mainGlobals mg->FnOk l.prog w (K w.params) mg base (CX w) k fa fd [x] (sp w))
  (hsp:∀(w:World) (H:Hp) (a:Addr) (ns:List Int),ns.length<=n->Only H->SqL (K w.params) H a (ns.map V.int)->sp w [.ref a] H (fun v _=>v=.bl true) fun _ _ _=>False)
  (hCX:∀(w:World) (H:Hp) (s:Shared) (e:Value) (s':Shared),CX w [] H s (fun _ _ _=>False) e s'->False) :
  PySem.W.WalkO q loose XP YP l.row.toRowW d [] (fun f vs=>PySem.call f vs):=by
 refine Att.attach_call hn hdf fun w s₀ s₁ mg mb fa o pm cd doc a vs ns G Y ho hd hcd hmg hobj hints hlen hg=>?_
 have KX:=hY w _ Y
 obtain⟨fd,hb,hF⟩:=F w mg fa _ KX G.T.g hmg
 exact law_call KX G.T.g G.T.b G.T.builtins G.T.nolimit hg hobj hints (Nat.le_trans hlen hn2) hr hF hb (fun H hO hS=>hsp w H a ns hlen hO hS) fun H e s'=>hCX w H s₁ e s'
def x9 (s:Stmt) (j:Nat):Stmt:=match s with
 |.ClassDef _ _ _ body _ _ _ _ _ _ _=>body.getD j (.Pass ⟨0,0,0,0⟩)
 |_=>.Pass ⟨0,0,0,0⟩
def qi (s:Stmt):Arguments:=match s with
 |.FunctionDef _ a _ _ _ _ _ _ _ _=>a
 |_=>{ posonlyargs:=[],args:=[],vararg:=none,kwonlyargs:=[],kw_defaults:=[],kwarg:=none,defaults:=[] }
def qh (s:Stmt):List Stmt:=match s with
 |.FunctionDef _ _ b _ _ _ _ _ _ _=>b
 |_=>[]
def qc (s:Stmt):Scope:=match s with
 |.FunctionDef _ _ _ _ _ _ sc _ _ _=>sc
 |_=>{ kind:=.function,names:=[],isGenerator:=false,isCoroutine:=false }
abbrev CX0:CXT:=fun _ _ _ _ _ _=>False
abbrev E0:XK:=fun _ _ _=>False
theorem pass0 {X:Cx}:Xs CX0 X E0:=fun _ _ _ _ _ _ _ h=>h.elim
structure Fun (K:PySem.W.Frag) (x qual:Str) (st:Stmt) (f:Addr) (fd:FuncData):Prop where
 ex:∃(oc:Value) (od:Option Addr) (kV doc pm:Value) (an:Option Addr) (cdv ct:Value) (osl:Array (Option Value)),
  fd=PySem.W.fnOf x qual (qi st) (qh st) (qc st) .none kV doc pm an cdv ct/\K.lookup f=some ⟨oc,od, .func fd,osl⟩/\PySem.W.codeIn K cdv qual=true
 kp:PySem.W.keepIn K (.ref f)=true
section
variable {P:Program} {w:World} {K:PySem.W.Frag} {mg:Str->Option Value} {base:Heap}
theorem Fun.ok {x qual:Str} {st:Stmt} {f:Addr} {fd:FuncData} {N ps:List Str} {k:Nat} {sp:Sp} (F:Fun K x qual st f fd) (S:FnScope N ps (qc st)) (len:∀vs H Q E,sp vs H Q E->vs.length=ps.length)
  (hbody:∀(cdv:Value) (A:Around) (outer:List Env) (s:Shared) (H:Hp) (vs:List V) (Q:VK) (E:XK),Room k (A.deeper (envOfC qual (qc st) s.heap.objs.size f cdv))->sp vs H Q E ->
   ∃t,PSs (cxOf CX0 P w K mg base N qual (qc st) f cdv A outer s H E).nox (qh st) t/\t { nx:=fun _ H'=>Q .non H',rt:=Q } (start N vs) H):FnOk P w K mg base CX0 (k+1) f fd ps sp:=by
 obtain⟨oc,od,kV,doc,pm,an,cdv,ct,osl,rfl,lk,hcd⟩:=F.ex
 refine fn_of lk hcd S len fun A outer s H vs Q E hr hsp=>?_
 obtain⟨t,h,q⟩:=hbody cdv A outer s H vs Q E hr hsp
 exact⟨t,h.nox,q⟩
theorem Fun.binds {x qual:Str} {st:Stmt} {f:Addr} {fd:FuncData} {ps:List Str} (F:Fun K x qual st f fd)
  (h:∀(kV doc pm:Value) (an:Option Addr) (cdv ct:Value) (us:List Value),us.length=ps.length->bindArgs (PySem.W.fnOf x qual (qi st) (qh st) (qc st) .none kV doc pm an cdv ct) ⟨us, []⟩=pure (ps.zip us)):Binds K fd ps []:=by
 obtain⟨oc,od,kV,doc,pm,an,cdv,ct,osl,rfl,lk,hcd⟩:=F.ex
 exact .all (h kV doc pm an cdv ct)
theorem vc {x qual:Str} {st:Stmt} {f:Addr} {oc:Value} {od an:Option Addr} {osl:Array (Option Value)} {kV doc pm cdv ct:Value} (l:K.lookup f=some ⟨oc,od, .func (PySem.W.fnOf x qual (qi st) (qh st) (qc st) .none kV doc pm an cdv ct),osl⟩)
  (c:PySem.W.codeIn K cdv qual=true) (k:PySem.W.keepIn K (.ref f)=true):Fun K x qual st f (PySem.W.fnOf x qual (qi st) (qh st) (qc st) .none kV doc pm an cdv ct):=⟨⟨oc,od,kV,doc,pm,an,cdv,ct,osl,rfl,l,c⟩,k⟩
end
theorem hu_of {A:Around} {k:Nat} (hr:Room k A):A.units+1<cLine:=Nat.lt_of_le_of_lt (Nat.add_le_add_left (by decide:1<=64) _) hr.units
theorem qC {n:Nat} (h:n<=1000):n<sizeLine:=Nat.lt_of_le_of_lt h (by decide)
section
variable {X:Cx}
theorem pv (i:Nat) {x:Str} {pos:Pos} (hN:X.N[i]?=some x:=by rfl) (hv:Vis X.env.scope x:=by first|exact Or.inl rfl|exact Or.inr (Or.inl rfl)|exact Or.inr (Or.inr rfl)) (hd:(x==("__debug__" : Str))=false:=by decide)
  (hcd:(x==("__classdict__" : Str))=false:=by decide):PE X (.Name x pos) (tVar i):=pe_var hN hv hd hcd
end
theorem ite2 {c A B:Prop} [Decidable c] (h1:c->A) (h2:¬c->B):if c then A else B:=by
 by_cases h:c
 ·rw[if_pos h]
  exact h1 h
 ·rw[if_neg h]
  exact h2 h
def Same (H H':Hp):Prop:=∀b o,H b=some o->H' b=some o
theorem Same.refl (H:Hp):Same H H:=fun _ _ h=>h
theorem Same.trans {H H1 H2:Hp} (a:Same H H1) (b:Same H1 H2):Same H H2:=fun c o h=>b c o (a c o h)
theorem Same.free {H H':Hp} (e:Same H H') {l:Addr} (h:H' l=Option.none):H l=Option.none:=by
 cases q:H l with
 |none=>rfl
 |some o =>
  rw[e l o q] at h
  cases h
theorem Same.seq {K:PySem.W.Frag} {H H':Hp} {a:Addr} {xs:List V} (e:Same H H') (h:SqL K H a xs):SqL K H' a xs:=by
 rcases h with(h|⟨o,h⟩)|h
 ·exact .inl (.inl (e _ _ h))
 ·exact .inl (.inr ⟨o,e _ _ h⟩)
 ·exact .inr h
section
variable {κ:Type} [DecidableEq κ]
def valV (kvs:List (κ×V)) (k:κ):Option V:=(kvs.find? fun kv=>decide (kv.1=k)).map (·.2)
def putK (kvs:List (κ×V)) (k:κ) (v:V):List (κ×V) :=
 if(kvs.any fun kv=>decide (kv.1=k))=true then kvs.map (fun kv=>if kv.1=k then(kv.1,v) else kv) else kvs++[(k,v)]
def dropK (kvs:List (κ×V)) (k:κ):List (κ×V):=kvs.filter fun kv=>decide (kv.1≠k)
theorem Zr {p:κ×V} {r:List (κ×V)} {k:κ} (e:p.1=k):valV (p::r) k=some p.2:=by simp[valV,List.find?_cons,e]
theorem Zs {p:κ×V} {r:List (κ×V)} {k:κ} (e:¬p.1=k):valV (p::r) k=valV r k:=by simp[valV,List.find?_cons,e]
theorem V5 (kvs:List (κ×V)) (k:κ) (v:V):(putK kvs k v).length<=kvs.length+1:=by
 unfold putK
 split
 ·rw[List.length_map]; omega
 ·rw[List.length_append,List.length_cons,List.length_nil]; omega
theorem RelO.getD {o:Option V} {u:Option Value} {d:V} {d':Value} (r:RelO o u) (rd:RelV d d'):RelV (o.getD d) (u.getD d'):=by
 cases o with
 |none=>cases u with
  |none=>exact rd
  |some _=>exact(show False from r).elim
 |some _=>cases u with
  |none=>exact(show False from r).elim
  |some _=>exact r
theorem KV.val {kvs:List (κ×V)} {vs:List (κ×Value)} (r:KV kvs vs) (k:κ):RelO (valV kvs k) (valueAt vs k):=by
 unfold KV at r
 induction r with
 |nil=>exact True.intro
 | @cons p q ps qs h t ih =>
  obtain⟨h1,h2⟩:=h
  by_cases e:p.1=k
  ·have e':q.1=k:=h1.symm.trans e
   have b:valueAt (q::qs) k=some q.2:=by simp[valueAt,List.find?_cons,e']
   rw[Zr e,b]; exact h2
  ·have e':¬q.1=k:=fun z=>e (h1.trans z)
   have b:valueAt (q::qs) k=valueAt qs k:=by simp[valueAt,List.find?_cons,e']
   rw[Zs e,b]; exact ih
theorem KV.any {kvs:List (κ×V)} {vs:List (κ×Value)} (r:KV kvs vs) (k:κ):(kvs.any fun kv=>decide (kv.1=k))=vs.any fun kv=>decide (kv.1=k):=by
 unfold KV at r
 induction r with
 |nil=>rfl
 |cons h t ih=>rw[List.any_cons,List.any_cons,ih,h.1]
theorem KV.repl {kvs:List (κ×V)} {vs:List (κ×Value)} (r:KV kvs vs) (k:κ) {y:V} {u:Value} (ry:RelV y u) :
  KV (kvs.map fun kv=>if kv.1=k then(kv.1,y) else kv) (vs.map fun kv=>if kv.1=k then(kv.1,u) else kv):=by
 unfold KV at r ⊢
 induction r with
 |nil=>exact .nil
 | @cons p q ps qs h t ih =>
  rw[List.map_cons,List.map_cons]
  refine .cons ?_ ih
  obtain⟨h1,h2⟩:=h
  by_cases e:p.1=k
  ·rw[if_pos e,if_pos (h1.symm.trans e)]; exact⟨h1,ry⟩
  ·rw[if_neg e,if_neg (fun z=>e (h1.trans z))]; exact⟨h1,h2⟩
theorem KV.put {kvs:List (κ×V)} {vs:List (κ×Value)} (r:KV kvs vs) (k:κ) {y:V} {u:Value} (ry:RelV y u):KV (putK kvs k y) (stored vs k u):=by
 unfold putK stored
 rw[r.any k]
 by_cases e:(vs.any fun kv=>decide (kv.1=k))=true
 ·rw[if_pos e,if_pos e]; exact r.repl k ry
 ·rw[if_neg e,if_neg e]; exact Paired.snoc r ⟨rfl,ry⟩
theorem KV.drop {kvs:List (κ×V)} {vs:List (κ×Value)} (r:KV kvs vs) (k:κ):KV (dropK kvs k) (without vs k):=by
 unfold KV at r ⊢
 unfold dropK without
 induction r with
 |nil=>exact .nil
 | @cons p q ps qs h t ih =>
  obtain⟨h1,h2⟩:=h
  rw[List.filter_cons,List.filter_cons]
  by_cases e:p.1=k
  ·have a:¬decide (p.1≠k)=true:=by simp[e]
   have b:¬decide (q.1≠k)=true:=by simp[h1.symm.trans e]
   rw[if_neg a,if_neg b]; exact ih
  ·have e':¬q.1=k:=fun z=>e (h1.trans z)
   have a:decide (p.1≠k)=true:=by simp[e]
   have b:decide (q.1≠k)=true:=by simp[e']
   rw[if_pos a,if_pos b]; exact .cons ⟨h1,h2⟩ ih
theorem KV.keys {kvs:List (κ×V)} {vs:List (κ×Value)} (r:KV kvs vs):kvs.map (·.1)=vs.map (·.1):=by
 unfold KV at r
 induction r with
 |nil=>rfl
 |cons h t ih=>rw[List.map_cons,List.map_cons,ih,h.1]
theorem KV.length {kvs:List (κ×V)} {vs:List (κ×Value)} (r:KV kvs vs):kvs.length=vs.length:=Paired.length r
end
theorem XZ {P:Program} {w:World} {k:Key} {u:Value} (r:RelV (kV k) u):(qF P w).is k u=true:=by
 cases k with
 |inl i=>obtain⟨t,e⟩:=(show ∃t,u=Value.int i t from r); subst e; exact V1 P w i t
 |inr x=>obtain⟨t,e⟩:=(show ∃t,u=Value.str x t from r); subst e; exact v6 P w x t
theorem Vj {P:Program} {w:World}:∀{ks:List Key} {us:List Value},Vals (ks.map kV) us->ItemsAre (qF P w) ks us
 | [],_,r=>by rw[List.map_nil] at r; cases r; exact .nil
 |k::ks,_,r=>by
  rw[List.map_cons] at r
  cases r with
  |cons h t=>exact .cons (XZ h) (Vj t)
abbrev KT (H:Hp):List (List Key×V)->List (List Key×Addr×Value)->Prop:=Paired fun p q=>p.1=q.1/\H q.2.1=some (.tup (p.1.map kV))/\RelV p.2 q.2.2
theorem KT.val {H:Hp} {kvs:List (List Key×V)} {xs:List (List Key×Addr×Value)} (r:KT H kvs xs) (k:List Key):RelO (valV kvs k) ((atKey xs k).map (·.2)):=by
 induction r with
 |nil=>exact True.intro
 | @cons p q ps qs h t ih =>
  obtain⟨h1,_,h2⟩:=h
  by_cases e:p.1=k
  ·have e':q.1=k:=h1.symm.trans e
   have b:atKey (q::qs) k=some q.2:=by simp[atKey,List.find?_cons,e']
   rw[Zr e,b]; exact h2
  ·have e':¬q.1=k:=fun z=>e (h1.trans z)
   have b:atKey (q::qs) k=atKey qs k:=by simp[atKey,List.find?_cons,e']
   rw[Zs e,b]; exact ih
section
variable {P:Program} {w:World} {H:Hp} {h:Heap} {a:Addr}
theorem rd_of {u:HO} (ok:HOk P w H h) (e:Rd H a u):ObjOk P w H h a u:=e.ok ok
theorem X1 {kvs:List (Key×V)} (ok:HOk P w H h) (e:Rd H a (.dK kvs)):kvs.length<=sizeLine/\(a==sysModules)=false/\∃vs,KV kvs vs/\h.DictOf (qF P w) a vs :=
 show ObjOk P w H h a (.dK kvs) from rd_of ok e
theorem dk_of {kvs:List (Key×V)} (ok:HOk P w H h) (e:H a=some (.dK kvs)):kvs.length<=sizeLine/\(a==sysModules)=false/\∃vs,KV kvs vs/\h.DictOf (qF P w) a vs:=X1 ok (.inl e)
theorem KF {ks:List Key} (ok:HOk P w H h) (e:H a=some (.tup (ks.map kV))):(tupleKind (qF P w)).is h ks a:=by
 obtain⟨_,its,r,o,h1,h2,n,h3⟩:=(show ObjOk P w H h a (.tup (ks.map kV)) from ok a _ e)
 exact⟨o,its.toArray,n,h1,h2,h3,by simpa using Vj r⟩
theorem dt_rd {kvs:List (List Key×V)} (ok:HOk P w H h) (e:Rd H a (.dT kvs)):kvs.length<=sizeLine/\(a==sysModules)=false /\
  ∃xs,KT H kvs xs/\h.DictOfH (tupleKind (qF P w)) a xs:=by
 obtain⟨z,y,xs,r,o,es,ep,h1,h2,h3,h4,h5⟩:=(show ObjOk P w H h a (.dT kvs) from rd_of ok e)
 refine⟨z,y,xs,r,o,es,ep,h1,h2,h3,h4,fun x hx=>?_,h5⟩
 have all:∀{l:List (List Key×V)} {m:List (List Key×Addr×Value)},KT H l m->∀x∈m,(tupleKind (qF P w)).is h x.1 x.2.1:=by
  intro l m q
  induction q with
  |nil=>intro x hx; exact nomatch hx
  | @cons p q ps qs hq t ih =>
   intro x hx
   rcases List.mem_cons.mp hx with e|hx
   ·subst e
    exact KF ok (by rw[<-hq.1]; exact hq.2.1)
   ·exact ih x hx
 exact all r x hx
end
def DGet (H:Hp) (a:Addr) (y:V) (r:Option V):Prop :=
 (∃kvs k,Rd H a (.dK kvs)/\y=kV k/\r=valV kvs k)\/∃kvs k b,Rd H a (.dT kvs)/\y=.ref b/\H b=some (.tup (k.map kV))/\r=valV kvs k
def DPut (H:Hp) (a:Addr) (y v:V) (H':Hp):Prop :=
 (∃kvs k,H a=some (.dK kvs)/\y=kV k/\kvs.length<sizeLine/\H'=upd H a (.dK (putK kvs k v))) \/
 ∃kvs k b,H a=some (.dT kvs)/\y=.ref b/\H b=some (.tup (k.map kV))/\kvs.length<sizeLine/\H'=upd H a (.dT (putK kvs k v))
theorem DGet.k {H:Hp} {a:Addr} {kvs:List (Key×V)} {k:Key} (e:H a=some (.dK kvs)):DGet H a (kV k) (valV kvs k):=.inl ⟨kvs,k, .inl e,rfl,rfl⟩
theorem DGet.t {H:Hp} {a b:Addr} {kvs:List (List Key×V)} {k:List Key} (e:H a=some (.dT kvs)) (eb:H b=some (.tup (k.map kV))):DGet H a (.ref b) (valV kvs k):=.inr ⟨kvs,k,b, .inl e,rfl,eb,rfl⟩
theorem DPut.k {H:Hp} {a:Addr} {kvs:List (Key×V)} {k:Key} {v:V} (e:H a=some (.dK kvs)) (hl:kvs.length<sizeLine):DPut H a (kV k) v (upd H a (.dK (putK kvs k v))):=.inl ⟨kvs,k,e,rfl,hl,rfl⟩
theorem DPut.t {H:Hp} {a b:Addr} {kvs:List (List Key×V)} {k:List Key} {v:V} (e:H a=some (.dT kvs)) (eb:H b=some (.tup (k.map kV))) (hl:kvs.length<sizeLine) :
  DPut H a (.ref b) v (upd H a (.dT (putK kvs k v))):=.inr ⟨kvs,k,b,e,rfl,eb,hl,rfl⟩
section
variable {X:Cx} {pins:List (Addr×Obj)} {σ:St} {H:Hp} {s:Shared} {a:Addr} {y v:V} {u:Value} {o:Option V} {A:Around} {E:Value->Shared->Prop}
theorem Inv.big (I:Inv X pins σ H s):sysModules<s.heap.objs.size:=by
 have h:mainGlobals<s.heap.objs.size:=(I.mod.glob.keeps I.bk).lt
 exact Nat.lt_trans (by decide) h
theorem Yb {Q:Value->Shared->Prop} (hu:A.units+1<cLine) (I:Inv X pins σ H s) (g:DGet H a y (some v)) (ry:RelV y u) (h:∀w' s',Inv X pins σ H s'->RelV v w'->Q w' s') :
  wpAny (model X.prog X.w) A (getItem (.ref a) u) Q E s:=by
 rcases g with⟨kvs,k,e,ey,l⟩|⟨kvs,k,b,e,ey,eb,l⟩
 ·subst ey
  obtain⟨z,hd,vs,rel,dd⟩:=X1 I.hok e
  obtain⟨w',hw,rw'⟩:=RelO.some_of (v:=v) (o:=valueAt vs k) (by rw[l]; exact rel.val k)
  exact wpAny_getItem_of (XZ ry) dd.mapOf hw (h w' _ (I.tok _) rw')
 ·subst ey
  cases(show u=Value.ref b from ry)
  obtain⟨z,hd,xs,rel,dd⟩:=dt_rd I.hok e
  obtain⟨w',hw,rw'⟩:=RelO.some_of (v:=v) (o:=(atKey xs k).map (·.2)) (by rw[l]; exact rel.val k)
  obtain⟨p,hp,hp2⟩:=Option.map_eq_some_iff.mp hw
  refine wpAny_getItem_heap (tupleKind_room_in1 hu) (KF I.hok eb) dd hp ?_
  rw[hp2]
  exact h w' _ (I.tok _) rw'
theorem d_write {h':Heap} {t':Nat} {ob:HO} (I:Inv X pins σ H s) (mu:Mut (H a)) (hs:Heap.SameBut a s.heap h') (he:∃q,h'.get? a=some q) (new:ObjOk X.prog X.w (upd H a ob) h' a ob) :
  Inv X pins σ (upd H a ob) { s with heap:=h',toks:=t' } :=
 I.write (x:=a) (e:=a) mu (.inl rfl) (fun b q hb z=>(hs.2 b hb).trans z) he new
theorem dk_new {P:Program} {w:World} {H':Hp} {h':Heap} {kvs:List (Key×V)} {vs:List (Key×Value)} (z:kvs.length<=sizeLine) (hd:(a==sysModules)=false) (rel:KV kvs vs) (dd:h'.DictOf (qF P w) a vs) :
  ObjOk P w H' h' a (.dK kvs):=⟨z,hd,vs,rel,dd⟩
end
def NoSl (i:Expr):Prop:=∀ov iv,subscripted i false ov iv=operate [ov,iv] (getItem ov iv)
theorem Jt {prog:Program} {w:World} {A:Around} {E:Value->Shared->Prop} {s:Shared} {env:Env} {value slice:Expr} {pos:Pos} {T id:String} {Q:Value->Shared->Prop}
  (hl:typeLookup (.type T) "__getitem__" = pure (some (.builtin id))) (hs:NoSl slice)
  (h:wpAny (model prog w) A (eval value env) (fun o s₁=>wpAny (model prog w) A (eval slice env) (fun i s₂=>s₂.TypeIs o T/\wpAny (model prog w) A (getItem o i) Q E s₂) E s₁) E s) :
  wpAny (model prog w) A (eval (.Subscript value slice pos) env) Q E s:=by
 refine Subscript_ (wpAny_mono h (fun o s₁ h₁=>wpAny_mono h₁ (fun i s₂ h₂=>?_) fun _ _ x=>x) fun _ _ x=>x)
 obtain⟨hT,h₂⟩:=h₂
 unfold subscriptTail
 refine wpAny_bind ?_
 rw[getitemInPython_of_ne hT.not_modules]
 refine wpAny_bind (wpAny_specialOf hT hl ?_)
 have fin:wpAny (model prog w) A (subscripted slice false o i) (fun r s₃=>wpAny (model prog w) A (letTemporaryGo value o r >>= fun _=>pure r) Q E s₃) E s₂:=by
  rw[hs o i]
  exact wpAny_operating (wpAny_mono h₂ (fun r s₃ h₃=>wpAny_bind (wpAny_letTemporaryGo (wpAny_pure h₃))) fun _ _ x=>x)
 first
  |exact wpAny_pure (wpAny_bind fin)
  |exact wpAny_bind (wpAny_pure (wpAny_bind fin))
  |exact wpAny_bind fin
theorem Zf {X:Cx} {pins:List (Addr×Obj)} {σ:St} {H:Hp} {s:Shared} {a:Addr} {y:V} {o:Option V} (I:Inv X pins σ H s) (g:DGet H a y o):s.TypeIs (.ref a) "dict" := by
 rcases g with⟨kvs,k,e,_,_⟩|⟨kvs,k,b,e,_,_,_⟩
 ·obtain⟨_,_,vs,_,dd⟩:=X1 I.hok e
  exact dd.typeIs
 ·obtain⟨_,_,xs,_,dd⟩:=dt_rd I.hok e
  exact dd.typeIs
def tDGet (td ty:TE):TE:=fun σ H Q=>td σ H fun x H1=>ty σ H1 fun y H2=>∃a v,x=.ref a/\DGet H2 a y (some v)/\Q v H2
section
variable {X:Cx} {o i:Expr} {pos:Pos} {td ty:TE}
theorem pe_dget (hu:X.A.units+1<cLine) (ho:PE X o td) (hi:PE X i ty) (hs:NoSl i):PE X (.Subscript o i pos) (tDGet td ty):=by
 intro pins s σ H Q I h
 refine Jt PySem.F.slot_dict_getitem.lookup hs (thn (ho pins s σ H _ I h) fun u s1 ⟨x,H1,I1,rx,q1⟩=>thn (hi pins s1 σ H1 _ I1 q1) fun iv s2 ⟨y,H2,I2,ry,a,v,ex,g,q2⟩=>?_)
 subst ex
 obtain rfl:u=Value.ref a:=rx
 exact⟨Zf I2 g,Yb hu I2 g ry fun w' s3 I3 rw'=>⟨v,H2,I3,rw',q2⟩⟩
end
theorem dk_empty {P:Program} {w:World} {H:Hp} (h:Heap) (hb:sysModules<h.objs.size):ObjOk P w H (h.push { cls:=.type "dict", data:=.dict #[] }) h.objs.size (.dK []) :=
 ⟨Nat.zero_le _,beq_eq_false_iff_ne.mpr (Ne.symm (Nat.ne_of_lt hb)), [], .nil,Heap.DictOf.new h⟩
def ZC:List (TE×TE)->St->Hp->(List (V×V)->Hp->Prop)->Prop
 | [],_,H,Q=>Q [] H
 | (tk,tv)::r,σ,H,Q=>tk σ H fun x H1=>tv σ H1 fun y H2=>ZC r σ H2 fun ps H3=>Q ((x,y)::ps) H3
abbrev VV:List (V×V)->List (Value×Value)->Prop:=Paired fun p q=>RelV p.1 q.1/\RelV p.2 q.2
def PPs (X:Cx) (pos:Pos) (keys:List (Option Expr)) (values:List Expr) (trs:List (TE×TE)):Prop :=
 ∀(pins:List (Addr×Obj)) (s:Shared) (σ:St) (H:Hp) (Q:List (V×V)->Hp->Prop),Inv X pins σ H s->ZC trs σ H Q ->
  wpAny (model X.prog X.w) X.A (evalPairs (pairTrees keys values X.env pos)) (fun vs s'=>∃ps H',Inv X pins σ H' s'/\VV ps vs/\Q ps H') X.xe s
theorem pps_nil {X:Cx} {pos:Pos}:PPs X pos [] [] []:=fun pins s σ H Q I h=>pairTrees_nil_walk ⟨[],H,I, .nil,h⟩
theorem pps_cons {X:Cx} {pos:Pos} {k v:Expr} {ks:List (Option Expr)} {vs:List Expr} {tk tv:TE} {trs:List (TE×TE)} (hk:PE X k tk) (hv:PE X v tv) (hr:PPs X pos ks vs trs) :
  PPs X pos (some k::ks) (v::vs) ((tk,tv)::trs):=fun pins s σ H Q I h =>
 pairTrees_cons_walk (thn (hk pins s σ H _ I h) fun u s1 ⟨x,H1,I1,rx,q1⟩=>thn (hv pins s1 σ H1 _ I1 q1) fun w2 s2 ⟨y,H2,I2,ry,q2⟩ =>
  thn (hr pins s2 σ H2 _ I2 q2) fun ws s3 ⟨ps,H3,I3,rel,q3⟩=>⟨(x,y)::ps,H3,I3, .cons ⟨rx,ry⟩ rel,q3⟩)
def jV (kvs more:List (Key×V)):List (Key×V):=more.foldl (fun acc kv=>putK acc kv.1 kv.2) kvs
theorem KV.merge:∀{more:List (Key×V)} {rs:List (Key×Value)} {kvs:List (Key×V)} {vs:List (Key×Value)},KV more rs->KV kvs vs->KV (jV kvs more) (merged vs rs):=by
 intro more rs kvs vs r
 unfold KV at r
 induction r generalizing kvs vs with
 |nil=>intro q; exact q
 | @cons p q ps qs h t ih =>
  intro r0
  have e:KV (putK kvs p.1 p.2) (stored vs q.1 q.2):=by
   have:=r0.put p.1 h.2
   rw[<-h.1]; exact this
  exact ih e
theorem xO:∀(more kvs:List (Key×V)),(jV kvs more).length<=kvs.length+more.length
 | [],kvs=>by show kvs.length<=kvs.length+0; omega
 |p::r,kvs=>by
  have h1:=xO r (putK kvs p.1 p.2)
  have h2:=V5 kvs p.1 p.2
  show(jV (putK kvs p.1 p.2) r).length<=_
  rw[List.length_cons]; omega
theorem kD {P:Program} {w:World}:∀{kvs:List (Key×V)} {ws:List (Value×Value)},VV (kvs.map fun kv=>(kV kv.1,kv.2)) ws->∃rs,Carries (qF P w) ws rs/\KV kvs rs
 | [],_,r=>by rw[List.map_nil] at r; cases r; exact⟨[],True.intro, .nil⟩
 |p::kvs,_,r=>by
  rw[List.map_cons] at r
  cases r with
  | @cons a b as bs h t =>
   obtain⟨rs,c,q⟩:=kD (P:=P) (w:=w) t
   obtain⟨b1,b2⟩:=b
   exact⟨(p.1,b2)::rs,⟨XZ h.1,rfl,c⟩, .cons ⟨rfl,h.2⟩ q⟩
def tDisp (trs:List (TE×TE)):TE:=fun σ H Q=>∀p,H p=none->ZC trs σ (upd H p (.dK [])) fun ps H2=>H2 p=some (.dK [])/\∃kvs:List (Key×V),ps=kvs.map (fun kv=>(kV kv.1,kv.2))/\kvs.length<=15/\Q (.ref p) (upd H2 p (.dK (jV [] kvs)))
theorem pe_disp {X:Cx} {pos:Pos} {keys:List (Option Expr)} {values:List Expr} {trs:List (TE×TE)} (h:PPs X pos keys values trs) (hall:keys.all (·.isSome)=true) (hl:keys.length=values.length) (h0:keys≠[])
  (h15:keys.length<=15):PE X (.Dict keys values pos) (tDisp trs):=by
 intro pins s σ H Q I q
 have hn:=I.hok.fresh (Nat.le_refl s.heap.objs.size)
 have I1:=I.laid (a:=s.heap.objs.size) (o:=.dK []) (h':=s.heap.push { cls:=.type "dict", data:=.dict #[] }) (t':=s.toks) (fun _ _ q=>Heap.get?_push_of_some _ q) (Nat.le_refl _) (dk_empty s.heap I.big)
 refine wpAny_Dict_walk (knd:=qF X.prog X.w) hall hl h0 h15 (thn (h pins _ σ _ _ I1 (q _ hn)) fun ws s2 ⟨ps,H2,I2,rel,e,kvs,ep,lk,q2⟩=>?_)
 subst ep
 obtain⟨rs,c,rk⟩:=kD (P:=X.prog) (w:=X.w) rel
 obtain⟨z,hd,vs0,r0,dd⟩:=dk_of I2.hok e
 cases r0
 refine⟨rs,c,dd,fun h' dd' hs=>⟨.ref s.heap.objs.size,_, ?_,rfl,q2⟩⟩
 have hz:(jV [] kvs).length<=sizeLine:=by
  have h1:=xO kvs []
  rw[List.length_nil] at h1
  rw[sizeLine_eq]; omega
 have he:∃q,h'.get? s.heap.objs.size=some q:=let⟨q,_,_,hq,_⟩:=dd'; ⟨q,hq⟩
 exact d_write I2 (by rw[e]; exact True.intro) hs he (dk_new hz hd (rk.merge .nil) dd')
structure M1 (X:Cx) (o:Expr) (m:Str) (apos:Pos) (e:Expr) (cpos:Pos):Prop where
 base:attributeBase o m X.env (eval o X.env)=eval o X.env
 few:((backTo cpos (starEach [e] X.env)).all (fun x => !x.1)&&(backToKw cpos (keywordEach [] X.env)).all (fun x=>x.1.isSome)
  && decide (([e]:List Expr).length+([]:List Keyword).length+(if([]:List Keyword).isEmpty then 0 else 1)<30))=true
 line:(apos.endLine==cpos.line)=true
 trees:backTo cpos (starEach [e] X.env)=[(false,eval e X.env)]
structure M2 (X:Cx) (o:Expr) (m:Str) (apos:Pos) (e f:Expr) (cpos:Pos):Prop where
 base:attributeBase o m X.env (eval o X.env)=eval o X.env
 few:((backTo cpos (starEach [e,f] X.env)).all (fun x => !x.1)&&(backToKw cpos (keywordEach [] X.env)).all (fun x=>x.1.isSome)
  && decide (([e,f]:List Expr).length+([]:List Keyword).length+(if([]:List Keyword).isEmpty then 0 else 1)<30))=true
 line:(apos.endLine==cpos.line)=true
 trees:backTo cpos (starEach [e,f] X.env)=[(false,eval e X.env),(false,eval f X.env)]
def IsD (H:Hp) (a:Addr):Prop:=(∃kvs,Rd H a (.dK kvs))\/∃kvs,Rd H a (.dT kvs)
theorem isD_at {X:Cx} {pins:List (Addr×Obj)} {σ:St} {H:Hp} {s:Shared} {a:Addr} (I:Inv X pins σ H s) (d:IsD H a) :
  s.TypeIs (.ref a) "dict" /\ (∀b,Value.ref a=.ref b->∃ob,s.heap.get? b=some ob/\ob.dict=none)/\(a==sysModules)=false:=by
 rcases d with⟨kvs,e⟩|⟨kvs,e⟩
 ·obtain⟨_,hd,vs,_,dd⟩:=X1 I.hok e
  refine⟨dd.typeIs,fun b q=>?_,hd⟩
  cases q
  obtain⟨ob,_,_,h1,h2,_⟩:=dd
  exact⟨ob,h1,h2.2.1⟩
 ·obtain⟨_,hd,xs,_,dd⟩:=dt_rd I.hok e
  refine⟨dd.typeIs,fun b q=>?_,hd⟩
  cases q
  obtain⟨ob,_,_,h1,h2,_⟩:=dd
  exact⟨ob,h1,h2.2.1⟩
section
variable {X:Cx} {pins:List (Addr×Obj)} {σ:St} {H:Hp} {s:Shared} {a:Addr} {y:V} {u:Value} {o:Option V} {A:Around} {E:Value->Shared->Prop}
theorem d_get1 {Q:Value->Shared->Prop} (hu:A.units+1<cLine) (I:Inv X pins σ H s) (g:DGet H a y o) (ry:RelV y u) (h:∀w' s',Inv X pins σ H s'->RelV (o.getD .non) w'->Q w' s') :
  wpAny (model X.prog X.w) A (call (.builtin "dict.get") [.ref a,u]) Q E s:=by
 rcases g with⟨kvs,k,e,ey,l⟩|⟨kvs,k,b,e,ey,eb,l⟩
 ·subst ey
  obtain⟨z,hd,vs,rel,dd⟩:=X1 I.hok e
  refine call_meetsIn PySem.F.slot_dict_get dd.typeIs PySem.F.entry_dict_get (PySem.F.args_dict_get_2 _ _) (meets_dict_get (qF X.prog X.w) a (XZ ry) hd) ⟨_,dd.mapOf,h _ _ (I.tok _) ?_⟩
  rw[l]
  exact(rel.val k).getD rfl
 ·subst ey
  cases(show u=Value.ref b from ry)
  obtain⟨z,hd,xs,rel,dd⟩:=dt_rd I.hok e
  refine call_meetsIn PySem.F.slot_dict_get dd.typeIs PySem.F.entry_dict_get (PySem.F.args_dict_get_2 _ _) (meetsH_dict_get (tupleKind (qF X.prog X.w)) a b hd) ⟨tupleKind_room_in1 hu,k,xs,KF I.hok eb,dd,h _ _ (I.tok _) ?_⟩
  rw[l]
  exact(rel.val k).getD rfl
end
def Jq (td ty:TE):TE:=fun σ H Q=>td σ H fun x H1=>∃a,x=.ref a/\IsD H1 a/\ty σ H1 fun y H2=>∃o,DGet H2 a y o/\Q (o.getD .non) H2
section
variable {X:Cx} {o e:Expr} {apos cpos:Pos} {td ty:TE}
theorem pe_dget1 (hu:X.A.units+1<cLine) (ho:PE X o td) (he:PE X e ty) (m:M1 X o "get" apos e cpos):PE X (.Call (.Attribute o "get" apos) [e] [] cpos) (Jq td ty):=by
 intro pins s σ H Q I h
 refine wpAny_Call_method m.base m.few m.line PySem.F.plainAttrs_dict PySem.F.slot_dict_get PySem.F.type_dict_get (thn (ho pins s σ H _ I h) fun u s1 ⟨x,H1,I1,rx,a,ex,d,q1⟩=>?_)
 subst ex
 obtain rfl:u=Value.ref a:=rx
 obtain⟨t1,t2,_⟩:=isD_at I1 d
 refine⟨t1,t2, ?_⟩
 rw[m.trees]
 refine Calls.callWith_builtin rfl (Calls.evalArgs_plain (Calls.spliced_cons (thn (he pins s1 σ H1 _ I1 q1) fun iv s2 ⟨y,H2,I2,ry,ov,g,q2⟩=>Calls.spliced_nil ?_)))
 exact d_get1 hu I2 g ry fun w' s3 I3 rw'=>⟨_,H2,I3,rw',q2⟩
end
def cxC (X:Cx) (scope:Scope) (cl:List (Str×Addr)) (M:List Str) (fp:List Addr) (s:Shared) (H:Hp):Cx :=
 { X with N:=M,s₀:=s,H₀:=H,env:=compEnvC scope cl s.heap.objs.size X.env,outer:=X.stack,stack:=X.stack,ex:=fp,fn:=fun _=>false,pn:=[],xe:=fun _ _=>False }
def vD (bs:List Bool) (n:Nat) (σ:St):St:=(bs.zip σ).map (fun p=>if p.1 then p.2 else none)++List.replicate n none
def ExtS (σ τ:St):Prop:=∀(i:Nat) v,σ[i]?=some (some v)->τ[i]?=some (some v)
theorem ExtS.refl (σ:St):ExtS σ σ:=fun _ _ h=>h
theorem ExtS.trans {a b c:St} (h:ExtS a b) (k:ExtS b c):ExtS a c:=fun i v e=>k i v (h i v e)
theorem ExtS.put {σ τ:St} {i:Nat} {v:V} (h:ExtS σ τ) (e:σ[i]?=some none):ExtS σ (τ.set i (some v)):=fun j w q=>by
 by_cases hj:i=j
 ·subst hj; rw[e] at q; cases q
 ·rw[List.getElem?_set_ne hj]; exact h j w q
def X6 (J:It) (acc:Addr) (g:TG) (tt:TT) (te:TE) (σ0:St) (H1:Hp) (Q:VK):Prop:=∃W:Nat->Nat->Hp->Prop,(∃m,W 0 m (upd H1 acc (.lst []))) /\
 ∀i m H2,W i m H2->(J.stop i H2/\Q (.ref acc) H2)\/(J.go i H2/\∃N:Hp->Prop,(∀H',N H'->∃m',m'<m/\W (i+1) m' H')/\∀x H3,J.yld i H2 x H3->g x σ0 H3 fun σ4 H4=>(ExtS σ0 σ4/\σ4.length=σ0.length)/\tt σ4 H4 fun b H5 =>
  if b=true then te σ4 H5 fun v H6=>∃ys,H6 acc=some (.lst ys)/\ys.length<sizeLine/\N (upd H6 acc (.lst (ys++[v]))) else N H5)
def xu (wi:TI) (bs:List Bool) (n:Nat) (g:TG) (tt:TT) (te:TE):TE:=fun σ H Q=>wi σ H fun J H1=>∀acc,H1 acc=none->X6 J acc g tt te (vD bs n σ) H1 Q
def PTs (X:Cx) (ifs:List Expr) (t:TT):Prop :=
 ∀(pins:List (Addr×Obj)) (s:Shared) (σ:St) (H:Hp) (Q:Bool->Hp->Prop),Inv X pins σ H s->t σ H Q ->
  wpAny (model X.prog X.w) X.A (forIn ifs true fun c r=>if r=true then do let ok <-isTrue c X.env (eval c X.env); pure (ForInStep.yield ok) else pure (ForInStep.yield r)) (TP X pins σ Q) X.xe s
def tYes:TT:=fun _ H Q=>Q true H
theorem pts_nil {X:Cx}:PTs X [] tYes:=fun _ _ _ H _ I h=>wpAny_tests_nil ⟨H,I,h⟩
theorem pts_one {X:Cx} {c:Expr} {t:TT} (h:PT X c t):PTs X [c] t:=fun pins s σ H Q I q=>wpAny_tests_one (h pins s σ H Q I q)
structure CompS (X:Cx) (scope:Scope) (cl:List (Str×Addr)) (bs:List Bool) (ext:List Str):Prop where
 clos:closureFor scope X.env=pure cl
 cell:∀y∈scope.names,y.2 ≠ .cell
 kind:scope.kind=.function
 names:∀y∈scope.names,y.2=.local->scope.names.lookup y.1=some .local
 sub:∀x c,cl.lookup x=some c->X.env.cells.lookup x=some c
 has:∀x,((relabel scope X.env).names.lookup x=some .cell\/(relabel scope X.env).names.lookup x=some .free)->∃c,cl.lookup x=some c
 len:bs.length=X.N.length
 vis:∀(i:Nat) x,X.N[i]?=some x->bs[i]?=some true->Vis (relabel scope X.env) x->(relabel scope X.env).names.lookup x≠some .local/\(X.env.kindOf x=some .cell\/X.env.kindOf x=some .free)/\Vis X.env.scope x
theorem Kr {bs:List Bool} {n:Nat} {σ:St} (h:bs.length=σ.length):(vD bs n σ).length=σ.length+n:=by
 unfold vD; simp[h]
theorem Ks {bs:List Bool} {n:Nat} {σ:St} (h:bs.length=σ.length) {i:Nat} {v:V} (e:(vD bs n σ)[i]?=some (some v)):i<σ.length/\bs[i]?=some true/\σ[i]?=some (some v):=by
 unfold vD at e
 by_cases hi:i<σ.length
 ·rw[List.getElem?_append_left (by simp[h]; exact hi),List.getElem?_map] at e
  have hb:i<bs.length:=by omega
  rw[List.getElem?_eq_getElem (by simp[h]; exact hi)] at e
  simp only[List.getElem_zip,Option.map_some] at e
  split at e
  ·rename_i hb2
   refine⟨hi, ?_, ?_⟩
   ·rw[List.getElem?_eq_getElem hb]; rw[hb2]
   ·rw[List.getElem?_eq_getElem hi]; exact e
  ·cases e
 ·rw[List.getElem?_append_right (by simp[h]; omega),List.getElem?_replicate] at e
  split at e<;>cases e
section
variable {X:Cx} {pins:List (Addr×Obj)} {σ:St} {H:Hp} {s:Shared}
theorem cxC_ok {scope:Scope} {cl:List (Str×Addr)} {bs:List Bool} {ext:List Str} {fp:List Addr} (S:CompS X scope cl bs ext) (I:Inv X pins σ H s) (hf:∀b∈fp,FpOk X pins H b) (hfs:∀b∈fp,b<s.heap.objs.size) :
  (cxC X scope cl (X.N++ext) fp s H).Ok where
 mod:=I.ok.mod
 kind:=S.kind
 glob:=I.ok.glob
 blt:=I.ok.blt
 above:=Nat.le_refl _
 inj:=fun x y c a b=>I.ok.inj x y c (S.sub x c a) (S.sub y c b)
 has:=S.has
 cab:=fun x c h=>nomatch h
 hd:=I.ok.hd
 frames:=I.ok.frames
 stk:=.inl rfl
 exf:=fun b hb=>⟨Nat.ne_of_lt (hfs b hb),fun x c e=>(hf b hb).2.2.2.2.1 x c (S.sub x c e)⟩
 bs:=I.bs
 bsz:=Nat.le_trans I.ok.bsz I.sz
 noex:=fun b o e hb=>by
  rcases(hf b hb).2.2.2.1 with z|z
  ·exact I.ok.noex b o e z
  ·exact absurd (Nat.lt_of_lt_of_le (Nat.lt_of_lt_of_le (Heap.lt_size e) I.ok.bsz) z) (Nat.lt_irrefl _)
 exfs:=fun b hb z=>by
  rcases List.mem_cons.mp (I.stkSub b z) with q|q
  ·exact(hf b hb).2.1 q
  ·exact(hf b hb).2.2.1 q
 funs:=I.stack
 frf:=I.stkFree
theorem Vs {scope:Scope} {cl:List (Str×Addr)} {bs:List Bool} {ext:List Str} {fp:List Addr} {h1:Heap} {t':Nat} (S:CompS X scope cl bs ext) (I:Inv X pins σ H s) (hf:∀b∈fp,FpOk X pins H b) (hfs:∀b∈fp,b<s.heap.objs.size)
  (hn:h1.Ns s.heap.objs.size (fun _=>none)) (k:∀b o,s.heap.get? b=some o->h1.get? b=some o) :
  Inv (cxC X scope cl (X.N++ext) fp s H) [] (vD bs ext.length σ) H { s with heap:=h1,toks:=t' }:=by
 have hl:bs.length=σ.length:=S.len.trans I.len.symm
 have cellk:∀c v,s.heap.IsCell c v->h1.IsCell c v:=fun c v ⟨o,ho,hd⟩=>⟨o,k c o ho,hd⟩
 refine⟨cxC_ok S I hf hfs,rfl,I.bare,Un.kept k,⟨_,hn,fun i x v e1 e2 e3=>?_⟩,fun x c e=>?_,I.hok.fresh (Nat.le_refl _),fun x c e=>I.freeC x c (S.sub x c e),fun p hp=>absurd hp (by simp[cxC]),I.hok.kept k, ?_⟩
 ·obtain⟨hi,hb,hs⟩:=Ks hl e2
  have e1':X.N[i]?=some x:=by
   have e1'':(X.N++ext)[i]?=some x:=e1
   rwa [List.getElem?_append_left (by have:=I.len; omega)] at e1''
  obtain⟨nl,kk,vv⟩:=S.vis i x e1' hb e3
  obtain⟨m,_,hloc⟩:=I.loc
  obtain⟨u,r,l⟩:=hloc i x v e1' hs vv
  refine⟨u,r, .inr ⟨?_, ?_⟩⟩
  ·rcases e3 with z|z|z
   ·exact absurd z nl
   ·exact .inl z
   ·exact .inr z
  ·have hc:=S.has x (by
    rcases e3 with z|z|z
    ·exact absurd z nl
    ·exact .inl z
    ·exact .inr z)
   obtain⟨c,hc⟩:=hc
   rcases l with⟨kl,_⟩|⟨_,c',hc',hcell⟩
   ·rcases kk with z|z<;>(rw[kl] at z; cases z)
   ·rw[S.sub x c hc] at hc'
    cases hc'
    exact⟨c,hc,cellk c _ hcell⟩
 ·obtain⟨v,z⟩:=I.cell x c (S.sub x c e)
  exact⟨v,cellk c v z⟩
 ·rw[Kr hl,I.len]; show _=(X.N++ext).length; simp
theorem Qr {scope:Scope} {cl:List (Str×Addr)} {ext:List Str} {fp:List Addr} {σ':St} {H':Hp} {s':Shared} {h':Heap} {pins':List (Addr×Obj)} (I:Inv X pins σ H s) (hf:∀b∈fp,FpOk X pins H b)
  (J:Inv (cxC X scope cl (X.N++ext) fp s H) pins' σ' H' s') (sb:Heap.SameBut s.heap.objs.size s'.heap h'):Inv X pins σ H' { s' with heap:=h' }:=by
 have B:Un (frs X.stack) fp H H' s.heap s'.heap:=J.base
 have nC:∀b o,s.heap.get? b=some o->b≠s.heap.objs.size:=fun b o e=>Nat.ne_of_lt (Heap.lt_size e)
 refine I.call' (ch:=fp) (s':={ s' with heap:=h' }) J.os ⟨fun b o e n hb hx=>?_,fun b o e n hb hx=>?_,fun b o e n hx=>B.free b o e n hx,fun b o e hx=>?_,B.tups,B.frzs,B.tbls⟩ ?_ J.bare fun b hb=>⟨(hf b hb).2.2.2.1,(hf b hb).2.1,(hf b hb).2.2.2.2.1,(hf b hb).2.2.2.2.2⟩
 ·exact sb.extBut b o (nC b o e) (B.keep b o e n hb hx)
 ·obtain⟨sl,q⟩:=B.slot b o e n hb hx
  exact⟨sl,sb.extBut b _ (nC b o e) q⟩
 ·obtain⟨o',q⟩:=B.there b o e hx
  exact⟨o',sb.extBut b o' (nC b o e) q⟩
 ·intro a o e
  have fr:H' s.heap.objs.size=none:=J.free
  refine(J.hok a o e).stay (fun b u hb q=>sb.extBut b u ?_ q) (fun _ q=>q) fun _ _ q=>q
  rcases hb with z|z
  ·subst z; intro z; rw[z,fr] at e; cases e
  ·intro z2; rw[z2,fr] at z; cases z
end
section
variable {X:Cx} {elt tg iter:Expr} {ifs:List Expr} {scope:Scope} {cl:List (Str×Addr)} {bs:List Bool} {ext:List Str} {pos:Pos} {wi:TI} {g:TG} {tt:TT} {te:TE}
theorem Xg {use:Option (Value->Sem Unit)} {pins:List (Addr×Obj)} {s:Shared} {σ:St} {H:Hp} {Q:VK} {RR:Value->Shared->Prop} (S:CompS X scope cl bs ext) (hc:X.calm=true) (hi:PI X tg iter wi)
  (hg:∀fp s H,PG (cxC X scope cl (X.N++ext) fp s H) tg g) (ht:∀fp s H,PTs (cxC X scope cl (X.N++ext) fp s H) ifs tt) (he:∀fp s H,PE (cxC X scope cl (X.N++ext) fp s H) elt te)
  (hs:∀x,foldedSetIterable iter X.env x=pure x) (I:Inv X pins σ H s) (h:xu wi bs ext.length g tt te σ H Q) (ep:Pos)
  (hend:∀(acc:Addr) (s2:Shared) (H2:Hp) (fp:List Addr) (σ':St) (H':Hp) (s':Shared),Inv X pins σ H2 s2->(∀b∈fp,FpOk X pins H2 b)->Inv (cxC X scope cl (X.N++ext) fp s2 H2) [] σ' H' s'->Q (.ref acc) H' ->
   compPost (model X.prog X.w) X.A X.xe use RR (.ref acc) s2.heap.objs.size (.ok .next) s') :
  wpAny (model X.prog X.w) X.A (comprehension (.ListComp elt [⟨tg,iter,ifs,0⟩] scope pos) scope X.env ep (newList []) false (eval iter X.env) use) RR X.xe s:=by
 refine wpAny_comprehension_free (use:=use) rfl hs S.clos S.kind S.names (thn (hi pins s σ H _ I h) fun v s1 h1=>thn h1 fun itv s2 h2=>?_)
 obtain⟨it,fp,tn,J,H2,e,I2,T,st2,f2,hW⟩:=h2
 subst e
 refine wpAny_newList ?_ (by decide)
 have hn2:H2 s2.heap.objs.size=none:=I2.hok.fresh (Nat.le_refl _)
 obtain⟨W,⟨m0,w0⟩,turn⟩:=hW s2.heap.objs.size hn2
 have I3:=I2.lnew (its:=[]) (ys:=[]) (t':=s2.toks) .nil (Nat.zero_le _)
 generalize hs3:({ s2 with heap:=s2.heap.push { cls:=.type "list", data:=.seq ([]:List Value).toArray },toks:=s2.toks }:Shared)=s3 at I3
 have hsz3:s3.heap.objs.size=s2.heap.objs.size+1:=by rw[<-hs3]; exact Heap.size_push ..
 have k3:∀b o,s2.heap.get? b=some o->s3.heap.get? b=some o:=fun b o e=>by rw[<-hs3]; exact Heap.get?_push_of_some _ e
 have fpo:∀b∈fp,b<s2.heap.objs.size:=fun b hb=>by obtain⟨o,e,_⟩:=T.obj _ _ st2 b hb; exact Heap.lt_size e
 have f3:∀b∈fp,FpOk X pins (upd H2 s2.heap.objs.size (.lst [])) b:=fun b hb=>⟨by rw[upd_ne (Nat.ne_of_lt (fpo b hb))]; exact(f2 b hb).1,(f2 b hb).2⟩
 have fps:∀b∈fp,b<s3.heap.objs.size:=fun b hb=>by rw[hsz3]; exact Nat.lt_succ_of_lt (fpo b hb)
 have st3:tn 0 s3.heap:=T.keep _ _ _ st2 fun b hb o e=>k3 b o e
 refine wpAny_newFunctionEnv S.cell (by intro y hy; simp at hy) (fun h4 hns4 hsb4=>?_) S.kind
 have k4:∀b o,s3.heap.get? b=some o->h4.get? b=some o:=fun b o e=>hsb4.extBut b o (Nat.ne_of_lt (Heap.lt_size e)) (Heap.get?_push_of_some _ e)
 have I4:=Vs (ext:=ext) (t':=s3.toks+([]:List (Str×Value)).length) S I3 f3 fps (h1:=h4) hns4 k4
 have st4:tn 0 h4:=T.keep _ _ _ st3 fun b hb o e=>k4 b o e
 generalize hs4:({ s3 with heap:=h4,toks:=s3.toks+([]:List (Str×Value)).length }:Shared)=s4 at I4 ⊢
 have st4':tn 0 s4.heap:=by rw[<-hs4]; exact st4
 -- the block
 generalize hY:cxC X scope cl (X.N++ext) fp s3 (upd H2 s2.heap.objs.size (.lst []))=Y at I4
 have hYs:∀{H':Hp},(∀b∈fp,H' b=none)->∀b∈fp,FpOk Y [] H' b:=fun hn b hb=>by
  subst hY
  refine⟨hn b hb,Nat.ne_of_lt (fps b hb),fun z=>?_, .inl hb,fun x c e=>(f3 b hb).2.2.2.2.1 x c (S.sub x c e),fun p hp=>absurd hp (by simp[cxC])⟩
  rcases List.mem_cons.mp (I3.stkSub b z) with q|q
  ·exact(f3 b hb).2.1 q
  ·exact(f3 b hb).2.2.1 q
 have hgY:PG Y tg g:=by subst hY; exact hg _ _ _
 have htY:PTs Y ifs tt:=by subst hY; exact ht _ _ _
 have heY:PE Y elt te:=by subst hY; exact he _ _ _
 have hYc:Y.calm=true:=by subst hY; exact hc
 have hYm:Y.prog=X.prog/\Y.w=X.w/\Y.K=X.K/\Y.A=X.A/\Y.env=compEnvC scope cl s3.heap.objs.size X.env/\Y.xe=fun _ _=>False:=by subst hY; exact⟨rfl,rfl,rfl,rfl,rfl,rfl⟩
 obtain⟨e1,e2,e3,e4,e5,e6⟩:=hYm
 have never:∀{α:Type} {t:Sem α} {Q:α->Shared->Prop} {s:Shared} {E:Value->Shared->Prop},wpAny (model Y.prog Y.w) Y.A t Q Y.xe s->wpAny (model X.prog X.w) X.A t Q E s:=fun {α t Q s E} q=>by
  rw[e1,e2,e4,e6] at q
  exact wpAny_mono q (fun _ _ z=>z) fun _ _ z=>z.elim
 have loop:codeAny (model X.prog X.w) X.A (.compLoop (.ListComp elt [⟨tg,iter,ifs,0⟩] scope pos) 0 (.ref it) (.ref s2.heap.objs.size) (compEnvC scope cl s3.heap.objs.size X.env))
   (compPost (model X.prog X.w) X.A X.xe use RR (.ref s2.heap.objs.size) s3.heap.objs.size) s4:=by
  refine codeAny_loop rfl (fun n s'=>∃i H',Inv Y [] (vD bs ext.length σ) H' s'/\tn i s'.heap/\(∀b∈fp,H' b=none)/\W i n H') (fun n s5 hI=>?_) m0 ⟨0,_,I4,st4',fun b hb=>(f3 b hb).1,w0⟩
  obtain⟨i,H5,I5,st5,fr5,w5⟩:=hI
  show wpAny _ X.A ((compTurn (.ListComp elt [⟨tg,iter,ifs,0⟩] scope pos) 0 (.ref it) (.ref s2.heap.objs.size) (compEnvC scope cl s3.heap.objs.size X.env)).onRaise (fun x=>do noteFrame x (compEnvC scope cl s3.heap.objs.size X.env); theTreesLotGoes x)) _ _ s5
  refine wpAny_noted ?_
  rw[compTurn_list]
  rcases turn i n H5 w5 with⟨stop,qn⟩|⟨go,N,hN,step⟩
  ·refine wpAny_bind (wpAny_standAt (wpAny_bind ?_))
   have hd:=T.done Y e1 e2 e3 hYc i [] s5 _ H5 (fun _ _=>False) I5 (hYs fr5) st5 stop
   rw[e4] at hd
   refine wpAny_mono hd (fun r s6 ⟨hr,I6⟩=>?_) fun _ _ z=>z.elim
   subst hr
   subst hY
   exact wpAny_pure (hend s2.heap.objs.size s3 _ fp _ H5 s6 I3 f3 I6 qn)
  ·refine wpAny_bind (wpAny_standAt (wpAny_bind ?_))
   have hd:=T.item Y e1 e2 e3 hYc i [] s5 _ H5 (fun _ _=>False) I5 (hYs fr5) st5 go
   rw[e4] at hd
   refine wpAny_mono hd (fun r s6 ⟨u,hr,h6⟩=>?_) fun _ _ z=>z.elim
   subst hr
   refine wpAny_bind (wpAny_mono h6 (fun _ s7 ⟨x,H7,I7,r7,y7,st7,fr7⟩=>?_) fun _ _ z=>z.elim)
   have I7':=I7.pinned (hYs fr7) (T.obj _ _ st7)
   rw[<-e5]
   refine wpAny_bind (never (thn (hgY _ s7 _ H7 x u _ I7' r7 (step x H7 y7)) fun _ s8 ⟨σ8,H8,I8,⟨hx8,hl8⟩,q8⟩=>?_))
   refine wpAny_bind (never (thn (htY _ s8 σ8 H8 _ I8 q8) fun b s9 ⟨H9,I9,q9⟩=>?_))
   have again:∀{H10:Hp} {s10:Shared} {m':Nat},Inv Y ([]++kr fp s7.heap) σ8 H10 s10->m'<n->W (i+1) m' H10->∃m,m<n/\∃i H',Inv Y [] (vD bs ext.length σ) H' s10/\tn i s10.heap/\(∀b∈fp,H' b=none)/\W i m H':=fun {H10 s10 m'} I10 hm w10=>by
    refine⟨m',hm,i+1,H10,(I10.unpinned).weak hl8.symm hx8,T.keep _ _ _ st7 fun b hb o e=>(I10.pin (b,o) (List.mem_append_right _ (List.mem_append_right _ (vS hb e)))).1,fun b hb=>?_,w10⟩
    obtain⟨o,e,d⟩:=T.obj _ _ st7 b hb
    exact(I10.pin (b,o) (List.mem_append_right _ (List.mem_append_right _ (vS hb e)))).2.1
   cases b with
   |false =>
    rw[if_neg Bool.false_ne_true] at q9
    obtain⟨m',hm,w9⟩:=hN _ q9
    exact wpAny_pure ⟨by rw[e5],again I9 hm w9⟩
   |true =>
    rw[if_pos rfl] at q9
    refine wpAny_bind (wpAny_bind (never (thn (heY _ s9 σ8 H9 _ I9 q9) fun xv s10 ⟨y,H10,I10,r10,ys,hys,hz,n10⟩=>?_)))
    obtain⟨m',hm,w10⟩:=hN _ n10
    refine wpAny_bind (never (thn (jU (X:=Y) _ s10 σ8 H10 (.ref s2.heap.objs.size) [y] (.ref s2.heap.objs.size) [xv] (fun _ H=>∃m',m'<n/\W (i+1) m' H) I10 rfl (.cons r10 .nil) ⟨_,ys,y,rfl,rfl,hys,hz,m',hm,w10⟩) fun _ s11 ⟨_,H11,I11,_,m2,hm2,w11⟩=>?_))
    exact wpAny_pure (wpAny_pure ⟨by rw[e5],again I11 hm2 w11⟩)
 exact codeAny_compStart_list loop (T.self X.A 0 s4 _ _ st4' loop)
theorem pe_comp (S:CompS X scope cl bs ext) (hc:X.calm=true) (hi:PI X tg iter wi)
  (hg:∀fp s H,PG (cxC X scope cl (X.N++ext) fp s H) tg g) (ht:∀fp s H,PTs (cxC X scope cl (X.N++ext) fp s H) ifs tt) (he:∀fp s H,PE (cxC X scope cl (X.N++ext) fp s H) elt te)
  (hs:∀x,foldedSetIterable iter X.env x=pure x:=by intro _; rfl):PE X (.ListComp elt [⟨tg,iter,ifs,0⟩] scope pos) (xu wi bs ext.length g tt te):=by
 intro pins s σ H Q I h
 rw[eval_ListComp]
 refine Xg (use:=none) S hc hi hg ht he hs I h _ fun acc s2 H2 fp σ' H' s' I2 f2 J q=>?_
 obtain⟨m,hn,_⟩:=J.loc
 exact⟨m,hn,fun h' sb=>⟨.ref acc,H',Qr I2 f2 J sb,rfl,q⟩⟩
theorem ps_comp {i:Nat} {x:Str} {pos' spos:Pos} (S:CompS X scope cl bs ext) (hc:X.calm=true) (hN:X.N.Nodup) (hix:X.N[i]?=some x) (hx:X.env.scope.names.lookup x=some .local) (hi:PI X tg iter wi)
  (hg:∀fp s H,PG (cxC X scope cl (X.N++ext) fp s H) tg g) (ht:∀fp s H,PTs (cxC X scope cl (X.N++ext) fp s H) ifs tt) (he:∀fp s H,PE (cxC X scope cl (X.N++ext) fp s H) elt te)
  (hsw:swapsWith (.ListComp elt [⟨tg,iter,ifs,0⟩] scope pos) (some (.Name x pos')) spos.line X.env=pure true)
  (hs:∀x,foldedSetIterable iter X.env x=pure x:=by intro _; rfl):PS X (.Assign [.Name x pos'] (.ListComp elt [⟨tg,iter,ifs,0⟩] scope pos) spos) (tAsg (xu wi bs ext.length g tt te) (qZ i)):=by
 intro pins s σ H D I h
 rw[exec_Assign_Name_used _ _ _ _ hsw]
 refine wpAny_bind (wpAny_standAt (wpAny_bind ?_))
 show wpAny _ X.A (do let _ <-comprehension (.ListComp elt [⟨tg,iter,ifs,0⟩] scope pos) scope X.env _ (newList []) false (eval iter X.env) (some (assign (.Name x pos') X.env))) _ _ s
 refine wpAny_bind (wpAny_mono (Xg (use:=some (assign (.Name x pos') X.env)) (RR:=fun _ s'=>SP X pins D .next s') S hc hi hg ht he hs I h _ fun acc s2 H2 fp σ' H' s' I2 f2 J q=>?_) (fun _ s' hq=>wpAny_pure (wpAny_pure hq)) fun _ _ e=>e)
 have I5:Inv X pins σ H' s':=by
  have:=Qr (h':=s'.heap) I2 f2 J (.refl ..)
  exact this
 show wpAny _ X.A (assign (.Name x pos') X.env (.ref acc)) _ _ s'
 obtain⟨m,hn,_⟩:=J.loc
 have hCL:s2.heap.objs.size≠X.env.locals:=Nat.ne_of_gt I2.lt
 have nC:∀b o,s2.heap.get? b=some o->b≠s2.heap.objs.size:=fun b o e=>Nat.ne_of_lt (Heap.lt_size e)
 have cC:∀y c,X.env.cells.lookup y=some c->c≠s2.heap.objs.size:=fun y c e=>by
  obtain⟨v,o,ho,_⟩:=I2.cell y c e
  exact nC c o ho
 refine wpAny_assign_Name (QY I5 hN hix (.inl hx) (v:=.ref acc) rfl (fun s6 I6 k6=>?_) (.inr hx))
 obtain⟨a,sb6,ha⟩:=k6
 have haC:a≠s2.heap.objs.size:=by
  rcases ha with z|z
  ·rw[z]; exact hCL.symm
  ·exact cC x a z
 refine⟨m,hn.sameBut sb6 haC.symm,fun h' sb=>?_⟩
 refine⟨_,H',I6.turned (t':=s6.toks) (it:=s2.heap.objs.size) (fun b o hb e=>sb.extBut b o hb e) ?_ hCL (.inr (Nat.le_trans I2.ok.above (Nat.le_of_lt I2.lt))) cC fun p hp=>?_,q⟩
 ·have fr:H' s2.heap.objs.size=none:=J.free
  exact fr
 ·exact nC p.1 p.2 (I2.pin p hp).1
end
theorem Yh {K:PySem.W.Frag} {a acc:Addr} {xs:List V} {g:TG} {tt:TT} {te:TE} {σ0:St} {H1:Hp} {Q:VK} (Pv:Nat->Hp->Prop) (h0:Pv 0 (upd H1 acc (.lst []))) (hl:∀i H,i<=xs.length->Pv i H->SqL K H a xs)
  (hs:∀i x H,xs[i]?=some x->Pv i H->g x σ0 H fun σ4 H4=>(ExtS σ0 σ4/\σ4.length=σ0.length)/\tt σ4 H4 fun b H5 =>
   if b=true then te σ4 H5 fun v H6=>∃ys,H6 acc=some (.lst ys)/\ys.length<sizeLine/\Pv (i+1) (upd H6 acc (.lst (ys++[v]))) else Pv (i+1) H5)
  (hd:∀H,Pv xs.length H->Q (.ref acc) H):X6 (Itl K a) acc g tt te σ0 H1 Q:=by
 refine⟨fun i m H=>m=xs.length-i/\i<=xs.length/\Pv i H,⟨xs.length,by simp,Nat.zero_le _,h0⟩, ?_⟩
 rintro i m H ⟨rfl,hi,p⟩
 have q:=hl i H hi p
 by_cases hlt:i<xs.length
 ·refine .inr ⟨⟨xs,xs[i],q,by simp[hlt]⟩,Pv (i+1),fun H' p'=>⟨xs.length-(i+1),by omega,rfl,hlt,p'⟩,fun x H' y=>?_⟩
  obtain⟨e,y⟩:=y
  subst e
  exact hs i x _ (y xs q) p
 ·have e:i=xs.length:=by omega
  subst e
  exact .inl ⟨⟨xs,q,Nat.le_refl _⟩,hd H p⟩
theorem X5 {acc:Addr} {lo:Int} {n:Nat} {g:TG} {tt:TT} {te:TE} {σ0:St} {H1:Hp} {Q:VK} (Pv:Nat->Hp->Prop) (h0:Pv 0 (upd H1 acc (.lst [])))
  (hs:∀(i:Nat) H,i<n->Pv i H->g (.int (lo+i)) σ0 H fun σ4 H4=>(ExtS σ0 σ4/\σ4.length=σ0.length)/\tt σ4 H4 fun b H5 =>
   if b=true then te σ4 H5 fun v H6=>∃ys,H6 acc=some (.lst ys)/\ys.length<sizeLine/\Pv (i+1) (upd H6 acc (.lst (ys++[v]))) else Pv (i+1) H5)
  (hd:∀H,Pv n H->Q (.ref acc) H):X6 (Itr lo n) acc g tt te σ0 H1 Q:=by
 refine⟨fun i m H=>m=n-i/\i<=n/\Pv i H,⟨n,by simp,Nat.zero_le _,h0⟩, ?_⟩
 rintro i m H ⟨rfl,hi,p⟩
 by_cases hlt:i<n
 ·refine .inr ⟨hlt,Pv (i+1),fun H' p'=>⟨n-(i+1),by omega,rfl,hlt,p'⟩,fun x H' y=>?_⟩
  obtain⟨e,y⟩:=y
  subst e y
  exact hs i _ hlt p
 ·have e:i=n:=by omega
  subst e
  exact .inl ⟨Nat.le_refl _,hd H p⟩
def clOf (env:Env):List (Str×NameKind)->List (Str×Addr)->List (Str×Addr)
 | [],cs=>cs
 | (n,k)::r,cs=>clOf env r (if(k==NameKind.free)=true then(n,(env.cells.lookup n).getD 0)::cs else cs)
theorem clos_eq {env:Env} (scope:Scope) (h:∀p∈scope.names,p.2=.free->∃c,env.cells.lookup p.1=some c):closureFor scope env=pure (clOf env scope.names []):=by
 unfold closureFor
 generalize([]:List (Str×Addr))=cs0
 generalize scope.names=ns at h
 have key:∀(ns:List (Str×NameKind)) (cs:List (Str×Addr)),(∀p∈ns,p.2=.free->∃c,env.cells.lookup p.1=some c) ->
   (forIn ns cs fun(x:Str×NameKind) (r:List (Str×Addr))=>(match x with|(name,kind)=>if(kind==NameKind.free)=true then do let c <-cellOf env name; pure (ForInStep.yield ((name,c)::r)) else pure (ForInStep.yield r):Sem (ForInStep (List (Str×Addr)))))=pure (clOf env ns cs):=by
  intro ns
  induction ns with
  |nil=>intro cs _; rfl
  |cons p r ih =>
   intro cs hp
   obtain⟨n,k⟩:=p
   rw[List.forIn_cons]
   by_cases hk:(k==NameKind.free)=true
   ·obtain⟨c,hc⟩:=hp (n,k) List.mem_cons_self (by simpa using hk)
    have hcell:cellOf env n=pure c:=by unfold cellOf; rw[hc]
    simp only[hk,if_true,hcell,pure_bind]
    rw[ih _ fun q hq=>hp q (List.mem_cons_of_mem _ hq)]
    have hc':List.lookup n env.cells=some c:=hc
    simp[clOf,hk,hc']
   ·simp only[hk,Bool.false_eq_true,if_false,pure_bind]
    rw[ih _ fun q hq=>hp q (List.mem_cons_of_mem _ hq)]
    simp[clOf,hk]
 have:=key ns cs0 h
 rw[show(do
   let mut cs:=cs0
   for (name,kind) in ns do
    if kind == .free then cs:=(name, <-cellOf env name)::cs
   return cs:Sem (List (Str×Addr)))=(forIn ns cs0 fun(x:Str×NameKind) (r:List (Str×Addr))=>(match x with|(name,kind)=>if(kind==NameKind.free)=true then do let c <-cellOf env name; pure (ForInStep.yield ((name,c)::r)) else pure (ForInStep.yield r):Sem (ForInStep (List (Str×Addr))))) >>= pure from rfl]
 rw[this,pure_bind]
theorem Xi {env:Env}:∀(ns:List (Str×NameKind)) (cs:List (Str×Addr)),(∀p∈ns,p.2=.free->∃c,env.cells.lookup p.1=some c)->(∀x c,cs.lookup x=some c->env.cells.lookup x=some c)->∀x c,(clOf env ns cs).lookup x=some c->env.cells.lookup x=some c
 | [],cs,_,h,x,c,e=>h x c e
 | (n,k)::r,cs,hp,h,x,c,e=>by
  refine Xi r _ (fun q hq=>hp q (List.mem_cons_of_mem _ hq)) (fun y d e'=>?_) x c e
  split at e'
  ·rename_i hk
   obtain⟨c',hc⟩:=hp (n,k) List.mem_cons_self (by simpa using hk)
   rw[List.lookup_cons] at e'
   have hc':List.lookup n env.cells=some c':=hc
   rw[hc'] at e'
   split at e'
   ·rename_i hy
    have hy':y=n:=by simpa using hy
    subst hy'
    rw[<-e']; exact hc'
   ·exact h y d e'
  ·exact h y d e'
theorem Xj {env:Env}:∀(ns:List (Str×NameKind)) (cs:List (Str×Addr)) (x:Str),((x,NameKind.free)∈ns\/∃c,cs.lookup x=some c)->∃c,(clOf env ns cs).lookup x=some c
 | [],cs,x,h=>by
  rcases h with h|h
  ·cases h
  ·exact h
 | (n,k)::r,cs,x,h=>by
  refine Xj r _ x ?_
  rcases h with h|⟨c,h⟩
  ·rcases List.mem_cons.mp h with h|h
   ·injection h with h1 h2
    subst h1 h2
    right
    exact⟨_,by simp[List.lookup_cons]; rfl⟩
   ·exact .inl h
  ·right
   split
   ·rw[List.lookup_cons]
    split
    ·exact⟨_,rfl⟩
    ·exact⟨c,h⟩
   ·exact⟨c,h⟩
def zS (scope:Scope) (env:Env) (N:List Str) (bs:List Bool):Bool :=
 scope.names.all (fun p=>p.2 != .cell)&&(scope.kind == .function)&&scope.names.all (fun p=>p.2 != .local||scope.names.lookup p.1==some .local)&&(bs.length==N.length)
  && scope.names.all (fun p=>p.2 != .free||(env.kindOf p.1==some .cell||env.kindOf p.1==some .free))&&(N.zip bs).all (fun p => !p.2||scope.names.lookup p.1==some .free)
theorem mem_of_lookup {β:Type} {x:Str} {b:β}:∀{l:List (Str×β)},l.lookup x=some b->(x,b)∈l
 | [],h=>by simp at h
 | (y,c)::r,h=>by
  rw[List.lookup_cons] at h
  split at h
  ·rename_i hy
   have:x=y:=by simpa using hy
   subst this; cases h; exact List.mem_cons_self
  ·exact List.mem_cons_of_mem _ (mem_of_lookup h)
theorem vo {env:Env}:∀{names:List (Str×NameKind)} {x:Str} {k:NameKind},
  (names.map fun(n,k)=>if(k==NameKind.free&&env.scope.kind == .function&&env.kindOf n==some .cell) then(n,NameKind.cell) else(n,k)).lookup x=some k->names.lookup x=some k\/(k=.cell/\names.lookup x=some .free)
 | [],_,_,h=>by simp at h
 | (n,k')::r,x,k,h=>by
  have ih:=@vo env r x k
  have h':List.lookup x ((if(k'==NameKind.free&&env.scope.kind == .function&&env.kindOf n==some .cell)=true then(n,NameKind.cell) else(n,k'))::(r.map fun(n,k)=>if(k==NameKind.free&&env.scope.kind == .function&&env.kindOf n==some .cell) then(n,NameKind.cell) else(n,k)))=some k:=h
  by_cases hc:(k'==NameKind.free&&env.scope.kind == .function&&env.kindOf n==some .cell)=true
  ·rw[if_pos hc,List.lookup_cons] at h'
   rw[List.lookup_cons]
   have hf:k'=.free:=by
    cases k'<;>first|rfl|(exfalso; revert hc; simp)
   split at h'
   ·right
    injection h' with h'
    rw[hf]
    exact⟨h'.symm,rfl⟩
   ·exact ih h'
  ·rw[if_neg hc,List.lookup_cons] at h'
   rw[List.lookup_cons]
   split at h'
   ·exact .inl h'
   ·exact ih h'
theorem CompS.of {X:Cx} {scope:Scope} {bs:List Bool} {ext:List Str} {pins:List (Addr×Obj)} {σ:St} {H:Hp} {s:Shared} (I:Inv X pins σ H s) (h:zS scope X.env X.N bs=true):CompS X scope (clOf X.env scope.names []) bs ext:=by
 unfold zS at h
 simp only[Bool.and_eq_true,List.all_eq_true] at h
 obtain⟨⟨⟨⟨⟨h1,h2⟩,h3⟩,h4⟩,h5⟩,h6⟩:=h
 have hc:∀p∈scope.names,p.2=.free->∃c,X.env.cells.lookup p.1=some c:=fun p hp hf=>by
  have:=h5 p hp
  rw[hf] at this
  refine I.ok.has p.1 ?_
  simpa using this
 have nocell:∀{x:Str},scope.names.lookup x≠some .cell:=fun {x} e=>by
  have:=h1 _ (mem_of_lookup e)
  simp at this
 refine⟨clos_eq scope hc,fun y hy=>by simpa using h1 y hy,by simpa using h2,fun y hy hl=>?_,fun x c e=>Xi scope.names [] hc (fun _ _ z=>by simp at z) x c e,fun x hx=>?_,by simpa using h4,fun i x hN hb hv=>?_⟩
 ·have:=h3 y hy
  rw[hl] at this
  simpa using this
 ·refine Xj scope.names [] x (.inl ?_)
  rcases hx with hx|hx
  ·rcases vo hx with z|⟨_,z⟩
   ·exact absurd z nocell
   ·exact mem_of_lookup z
  ·rcases vo hx with z|⟨z,_⟩
   ·exact mem_of_lookup z
   ·cases z
 ·have hz:(x,true)∈X.N.zip bs:=by
   have:(X.N.zip bs)[i]?=some (x,true):=by
    rw[List.getElem?_zip_eq_some]; exact⟨hN,hb⟩
   exact List.mem_of_getElem? this
  have hf:=h6 _ hz
  have hf:scope.names.lookup x=some .free:=by simpa using hf
  have hk:=h5 _ (mem_of_lookup hf)
  have hk:X.env.kindOf x=some .cell\/X.env.kindOf x=some .free:=by simpa using hk
  refine⟨fun z=>?_,hk, ?_⟩
  ·rcases vo z with q|⟨q,_⟩
   ·rw[hf] at q; cases q
   ·cases q
  ·rcases hk with q|q
   ·exact .inr (.inl q)
   ·exact .inr (.inr q)
section
variable {X:Cx} {elt tg iter:Expr} {ifs:List Expr} {scope:Scope} {bs:List Bool} {ext:List Str} {pos:Pos} {wi:TI} {g:TG} {tt:TT} {te:TE}
abbrev cxB (X:Cx) (scope:Scope) (ext:List Str) (fp:List Addr) (s:Shared) (H:Hp):Cx:=cxC X scope (clOf X.env scope.names []) (X.N++ext) fp s H
theorem pe_lc (bs:List Bool) (ext:List Str) (hi:PI X tg iter wi) (hg:∀fp s H,PG (cxB X scope ext fp s H) tg g) (ht:∀fp s H,PTs (cxB X scope ext fp s H) ifs tt) (he:∀fp s H,PE (cxB X scope ext fp s H) elt te)
  (hk:zS scope X.env X.N bs=true:=by rfl) (hc:X.calm=true:=by rfl) (hs:∀x,foldedSetIterable iter X.env x=pure x:=by intro _; rfl) :
  PE X (.ListComp elt [⟨tg,iter,ifs,0⟩] scope pos) (xu wi bs ext.length g tt te):=fun pins s σ H Q I h=>pe_comp (CompS.of I hk) hc hi hg ht he hs pins s σ H Q I h
theorem ps_lc {i:Nat} {x:Str} {pos' spos:Pos} (bs:List Bool) (ext:List Str) (hN:X.N.Nodup) (hix:X.N[i]?=some x) (hx:X.env.scope.names.lookup x=some .local) (hi:PI X tg iter wi) (hg:∀fp s H,PG (cxB X scope ext fp s H) tg g) (ht:∀fp s H,PTs (cxB X scope ext fp s H) ifs tt) (he:∀fp s H,PE (cxB X scope ext fp s H) elt te)
  (hk:zS scope X.env X.N bs=true:=by rfl) (hc:X.calm=true:=by rfl)
  (hsw:swapsWith (.ListComp elt [⟨tg,iter,ifs,0⟩] scope pos) (some (.Name x pos')) spos.line X.env=pure true:=by rfl) (hs:∀x,foldedSetIterable iter X.env x=pure x:=by intro _; rfl) :
  PS X (.Assign [.Name x pos'] (.ListComp elt [⟨tg,iter,ifs,0⟩] scope pos) spos) (tAsg (xu wi bs ext.length g tt te) (qZ i)):=fun pins s σ H D I h=>ps_comp (CompS.of I hk) hc hN hix hx hi hg ht he hsw hs pins s σ H D I h
end
def CDivB (i j:Int):Prop:=0<j/\j.natAbs.log2<9000
theorem noPyl {i j:Int} (h:CDivB i j):Builtin.divisionGoesByPylong i j=false:=PyProof.noPylong_of_log2 h.2
theorem ZZ {X:Cx}:OpR X (binaryOp .FloorDiv) (rI CDivB fun i j=>.int (i / j)):=opI fun i j _ _ _ _ _ hc q=>by
 refine floordiv_int (by have:=hc.1; omega) ?_ (.inl (noPyl hc))
 rw[Int.fdiv_eq_ediv_of_nonneg _ (by have:=hc.1; omega)]
 exact q
section
variable {σ:St} {H:Hp} {Q:VK}
theorem rd_I {C:Int->Int->Prop} {g:Int->Int->V} {i j:Int}:rI C g (.int i) (.int j) H Q=(C i j/\Q (g i j) H) :=
 propext ⟨fun⟨_,_,e1,e2,h⟩=>by cases e1; cases e2; exact h,fun h=>⟨i,j,rfl,rfl,h⟩⟩
theorem rd_I0 {g:Int->Int->V} {i j:Int}:rI0 g (.int i) (.int j) H Q=Q (g i j) H :=
 propext ⟨fun⟨_,_,e1,e2,h⟩=>by cases e1; cases e2; exact h,fun h=>⟨i,j,rfl,rfl,h⟩⟩
theorem rd_U {g:Int->V} {i:Int}:rU g (.int i) H Q=Q (g i) H :=
 propext ⟨fun⟨_,e1,h⟩=>by cases e1; exact h,fun h=>⟨i,rfl,h⟩⟩
theorem kR {t:TE} {R:Bool->Hp->Prop}:jn t σ H R=t σ H fun x H'=>∃k,x=.bl k/\R k H':=rfl
theorem rd_bl {k:Bool} {R:Bool->Prop}:(∃k',V.bl k=.bl k'/\R k')=R k:=propext ⟨fun⟨_,e,h⟩=>by cases e; exact h,fun h=>⟨k,rfl,h⟩⟩
theorem rd_l1 {i:Int} {R:Int->Prop}:(∃j,([V.int i]:List V)=[V.int j]/\R j)=R i:=propext ⟨fun⟨_,e,h⟩=>by cases e; exact h,fun h=>⟨i,rfl,h⟩⟩
theorem rd_l2 {a b:Int} {R:Int->Int->Prop}:(∃i j,([V.int a,V.int b]:List V)=[V.int i,V.int j]/\R i j)=R a b:=propext ⟨fun⟨_,_,e,h⟩=>by cases e; exact h,fun h=>⟨a,b,rfl,h⟩⟩
theorem rd_lr {a:Addr} {R:Addr->List V->Prop}:(∃p ys,([V.ref a]:List V)=[V.ref p]/\R p ys)=∃ys,R a ys:=propext ⟨fun⟨_,ys,e,h⟩=>by cases e; exact⟨ys,h⟩,fun⟨ys,h⟩=>⟨a,ys,rfl,h⟩⟩
theorem qX {p x:Addr} {o o':HO} (hp:H p=none) (h:H x=some o):upd H p o' x=some o:=by rw[upd_ne (qL h hp)]; exact h
theorem ju {p x:Addr} {o o':HO} (hn:x≠p) (h:H x=some o):upd H p o' x=some o:=by rw[upd_ne hn]; exact h
theorem Qp {p x:Addr} {o':HO} (h:upd H p o' x=none):H x=none/\x≠p:=by
 have hx:x≠p:=fun e=>by subst e; rw[upd_same] at h; cases h
 rw[upd_ne hx] at h
 exact⟨h,hx⟩
theorem Same.upd {H1:Hp} {p:Addr} {o:HO} (s:Same H H1) (h:H p=none):Same H (upd H1 p o):=fun b o' e=>by
 rw[upd_ne (qL e h)]; exact s b o' e
theorem ExtS.nl:ExtS [] []:=fun _ _ h=>h
theorem ExtS.no {a b:St} {x:Option V} (h:ExtS a b):ExtS (none::a) (x::b):=fun i v e=>by
 cases i with
 |zero=>simp at e
 |succ i=>simpa using h i v (by simpa using e)
theorem ExtS.sm {a b:St} {x:Option V} (h:ExtS a b):ExtS (x::a) (x::b):=fun i v e=>by
 cases i with
 |zero=>simpa using e
 |succ i=>simpa using h i v (by simpa using e)
end
structure Def (P:Program) (w:World) (K:PySem.W.Frag) (mg:Str->Option Value) (base:Heap) (x:Str) (k:Nat) (ps:List Str) (sp:Sp):Prop where
 ex:∃(f:Addr) (fd:FuncData),mg x=some (.ref f)/\PySem.W.keepIn K (.ref f)=true/\Binds K fd ps []/\FnOk P w K mg base CX0 k f fd ps sp
section
variable {X:Cx} {x:Str} {k:Nat} {ps:List Str} {sp:Sp} {p pos:Pos} {e:Expr} {es:List Expr} {t:TA}
theorem pe_def (D:Def X.prog X.w X.K X.mg X.base x k ps sp) (hr:Room k X.A) (ha:PA X (e::es) t) (hg:Gl X x:=by rfl) (hdb:(x==("__debug__" : Str))=false:=by decide) (he:starEach (e::es) X.env=(false,eval e X.env)::starEach es X.env:=by rfl) (hpl:(backTo pos (starEach es X.env)).any (·.1)=false:=by rfl) :
  PE X (.Call (.Name x p) (e::es) [] pos) (xw sp [] E0 t):=by
 obtain⟨f,fd,h1,h2,h3,h4⟩:=D.ex
 exact pe_call h4 hr hg h1 h2 h3 .nil pass0 ha hdb he hpl
theorem pe_def0 (D:Def X.prog X.w X.K X.mg X.base x k ps sp) (hr:Room k X.A) (hg:Gl X x:=by rfl) (hdb:(x==("__debug__" : Str))=false:=by decide):PE X (.Call (.Name x p) [] [] pos) (xw sp [] E0 tNil):=by
 obtain⟨f,fd,h1,h2,h3,h4⟩:=D.ex
 exact pe_call0 h4 hr hg h1 h2 h3 .nil pass0 hdb
end
def rIsi (K:PySem.W.Frag):List V->Hp->VK->Prop:=fun xs H Q=>∃x n t b,xs=[x, .ty n]/\TyOf K H x (.type t)/\PySem.W.kitOne K (.type t) (.type n)=some b/\Q (.bl b) H
theorem call_isi {X:Cx}:zd X (.builtin "isinstance") (rIsi X.K):=by
 intro pins s σ H xs us Q I r h
 obtain⟨x,n,t,b,rfl,ty,e,q⟩:=h
 obtain⟨u,v,rfl,ru,rv⟩:=vals2 r
 obtain rfl:v=Value.type n:=rv
 exact KN I ru ty e fun tk=>⟨.bl b,H,I.tok tk,rfl,q⟩
inductive DE (K:PySem.W.Frag) (H:Hp):Nat->V->V->Bool->Prop
 |flat {n:Nat} {x y:V}:jb x=true->jb y=true->DE K H n x y (eqV x y)
 |same {n:Nat} {a:Addr}:DE K H n (.ref a) (.ref a) true
 |tup {n:Nat} {a b:Addr} {xs ys:List V} {e:Nat->Bool}:a≠b->SqT K H a xs->SqT K H b ys->(∀(j:Nat) x y,xs[j]?=some x->ys[j]?=some y->DE K H n x y (e j))->DE K H (n+1) (.ref a) (.ref b) ((List.range (min xs.length ys.length)).all e&&xs.length==ys.length)
 |lst {n:Nat} {a b:Addr} {xs ys:List V} {e:Nat->Bool}:a≠b->SqL K H a xs->SqL K H b ys->xs.length=ys.length->(∀(j:Nat) x y,xs[j]?=some x->ys[j]?=some y->DE K H n x y (e j))->DE K H (n+1) (.ref a) (.ref b) ((List.range xs.length).all e)
 |lstN {n:Nat} {a b:Addr} {xs ys:List V}:a≠b->SqL K H a xs->SqL K H b ys->xs.length≠ys.length->DE K H (n+1) (.ref a) (.ref b) false
theorem xP {A:Around}:A.in1.units=A.units+1:=rfl
theorem DE.eqAt {X:Cx} {pins:List (Addr×Obj)} {σ:St} {H:Hp} {s:Shared} (I:Inv X pins σ H s) {n:Nat} {x y:V} {b:Bool} (d:DE X.K H n x y b):∀{A:Around} {u v:Value},A.units+n<cLine->RelV x u->RelV y v->SeqAt.EqAt A s u v b:=by
 induction d with
 |flat f g=>intro A u v _ rx ry; exact eqAt_V rx ry f g
 |same =>
  intro A u v _ rx ry
  obtain rfl:u=_:=rx
  obtain rfl:v=_:=ry
  exact SeqAt.EqAt.same _
 | @tup n a b xs ys e ne ha hb _ ih =>
  intro A u v hu rx ry
  obtain rfl:u=Value.ref a:=rx
  obtain rfl:v=Value.ref b:=ry
  obtain⟨its,r1,p1,_⟩:=I.tuple ha
  obtain⟨its2,r2,p2,_⟩:=I.tuple hb
  have:=SeqAt.RcAt.tuples (A:=A) (e:=e) p1 p2 (by omega) fun j h1 h2=>by
   have l1:j<xs.length:=by rw[r1.length]; simpa using h1
   have l2:j<ys.length:=by rw[r2.length]; simpa using h2
   obtain⟨u1,q1,s1⟩:=r1.get (List.getElem?_eq_getElem l1)
   obtain⟨u2,q2,s2⟩:=r2.get (List.getElem?_eq_getElem l2)
   have e1:its.toArray[j]=u1:=by
    have:=List.getElem?_eq_some_iff.mp q1
    obtain⟨_,z⟩:=this
    simpa using z
   have e2:its2.toArray[j]=u2:=by
    have:=List.getElem?_eq_some_iff.mp q2
    obtain⟨_,z⟩:=this
    simpa using z
   rw[e1,e2]
   exact ih j _ _ (List.getElem?_eq_getElem l1) (List.getElem?_eq_getElem l2) (by rw[xP]; omega) s1 s2
  rw[List.size_toArray,List.size_toArray, <-r1.length, <-r2.length] at this
  exact .of_refs ne this
 | @lst n a b xs ys e ne ha hb hl _ ih =>
  intro A u v hu rx ry
  obtain rfl:u=Value.ref a:=rx
  obtain rfl:v=Value.ref b:=ry
  obtain⟨its,r1,p1,_⟩:=I.list ha
  obtain⟨its2,r2,p2,_⟩:=I.list hb
  have:=SeqAt.RcAt.lists (A:=A) (e:=e) p1.isList p2.isList (by simp[<-r1.length, <-r2.length,hl]) (by omega) fun j h1 h2=>by
   have l1:j<xs.length:=by rw[r1.length]; simpa using h1
   have l2:j<ys.length:=by rw[r2.length]; simpa using h2
   obtain⟨u1,q1,s1⟩:=r1.get (List.getElem?_eq_getElem l1)
   obtain⟨u2,q2,s2⟩:=r2.get (List.getElem?_eq_getElem l2)
   have e1:its.toArray[j]=u1:=by
    have:=List.getElem?_eq_some_iff.mp q1
    obtain⟨_,z⟩:=this
    simpa using z
   have e2:its2.toArray[j]=u2:=by
    have:=List.getElem?_eq_some_iff.mp q2
    obtain⟨_,z⟩:=this
    simpa using z
   rw[e1,e2]
   exact ih j _ _ (List.getElem?_eq_getElem l1) (List.getElem?_eq_getElem l2) (by rw[xP]; omega) s1 s2
  rw[List.size_toArray, <-r1.length] at this
  exact .of_refs ne this
 | @lstN n a b xs ys ne ha hb hl =>
  intro A u v hu rx ry
  obtain rfl:u=Value.ref a:=rx
  obtain rfl:v=Value.ref b:=ry
  obtain⟨its,r1,p1,_⟩:=I.list ha
  obtain⟨its2,r2,p2,_⟩:=I.list hb
  exact .of_refs ne (SeqAt.RcAt.lists_lengths p1.isList p2.isList (by simp[<-r1.length, <-r2.length,hl]) (by omega))
structure Nms (mg:Str->Option Value):Prop where
 abs:mg "abs" = none
 len:mg "len" = none
 min:mg "min" = none
 max:mg "max" = none
 sum:mg "sum" = none
 sorted:mg "sorted" = none
 all:mg "all" = none
 any:mg "any" = none
 isinstance:mg "isinstance" = none
 range:mg "range" = none
 int:mg "int" = none
 list:mg "list" = none
 str:mg "str" = none
 bool:mg "bool" = none
 tuple:mg "tuple" = none
 zip:mg "zip" = none
 enumerate:mg "enumerate" = none
 dict:mg "dict" = none
theorem b_abs:bootBuiltins "abs" = some (.builtin "abs"):=by decide +kernel
theorem zz:bootBuiltins "len" = some (.builtin "len"):=by decide +kernel
theorem b_all:bootBuiltins "all" = some (.builtin "all"):=by decide +kernel
theorem qB:bootBuiltins "isinstance" = some (.builtin "isinstance"):=by decide +kernel
theorem Zm:bootBuiltins "int" = some (.type "int"):=by decide +kernel
theorem kF:bootBuiltins "list" = some (.type "list"):=by decide +kernel
theorem b_str:bootBuiltins "str" = some (.type "str"):=by decide +kernel
theorem b_bool:bootBuiltins "bool" = some (.type "bool"):=by decide +kernel
theorem Qz:bootBuiltins "tuple" = some (.type "tuple"):=by decide +kernel
def SameB (b:Addr) (H H':Hp):Prop:=∀x o,H x=some o->x≠b->H' x=some o
theorem SameB.trans {b:Addr} {H H1 H2:Hp} (h:SameB b H H1) (k:SameB b H1 H2):SameB b H H2:=fun x o e n=>k x o (h x o e n) n
theorem SameB.upd {b p:Addr} {H H1:Hp} {o:HO} (s:SameB b H H1) (h:H p=none\/p=b):SameB b H (upd H1 p o):=fun x o' e n=>by
 have:x≠p:=by
  rcases h with h|h
  ·exact qL e h
  ·rw[h]; exact n
 rw[upd_ne this]; exact s x o' e n
def rLenL:List V->Hp->VK->Prop:=fun vs H Q=>∃p ys,vs=[.ref p]/\H p=some (.lst ys)/\Q (.int ys.length) H
theorem v9 {X:Cx}:zd X (.builtin "len") rLenL:=by
 intro pins s σ H xs us Q I r h
 obtain⟨p,ys,e,h,q⟩:=h
 exact jm pins s σ H xs us Q I r ⟨p,ys,e, .inl (SqL.of h),q⟩
section
variable {K:PySem.W.Frag} {H:Hp} {Q:VK} {p:Addr} {xs:List V} {v:V} {i:Int}
theorem KM (h:H p=some (.lst xs)) (e:atI xs i=some v) (q:Q v H):rIxL K (.ref p) (.int i) H Q:=⟨p,xs,i,v,rfl,rfl,SqL.of h,e,q⟩
theorem ixT_at (h:H p=some (.tup xs)) (e:atI xs i=some v) (q:Q v H):rIxT K (.ref p) (.int i) H Q:=⟨p,xs,i,v,rfl,rfl,SqT.of h,e,q⟩
theorem at0 {α:Type} {x:α} {l:List α}:atI (x::l) 0=some x:=zT (j:=0) rfl
theorem at1 {α:Type} {x y:α} {l:List α}:atI (x::y::l) 1=some y:=zT (j:=1) rfl
theorem setL_at {j:Nat} {R:Hp->Prop} (h:H p=some (.lst xs)) (e:ixN xs.length i=some j) (q:R (upd H p (.lst (xs.set j v)))):rSetL (.ref p) (.int i) v H R:=⟨p,xs,i,j,rfl,rfl,h,e,q⟩
theorem K2 {x y:V} (h:scal x y=true) (q:Q (.bl (decide (x=y))) H):rEq x y H Q:=⟨h,q⟩
theorem ne_at {x y:V} (h:scal x y=true) (q:Q (.bl (!decide (x=y))) H):rNe x y H Q:=⟨h,q⟩
theorem len_at (h:H p=some (.lst xs)) (q:Q (.int xs.length) H):rLenL [.ref p] H Q:=⟨p,xs,rfl,h,q⟩
theorem Qk {σ:St} {x y:V} {i j:Nat} {R:St->Hp->Prop} (h:H p=some (.tup [x,y])) (q:R ((σ.set i (some x)).set j (some y)) H):gTup K 2 (zn (qZ i) (zn (qZ j) gNil)) (.ref p) σ H R :=
 ⟨p,_,rfl,SqT.of h,rfl,_,_,rfl,_,_,rfl,rfl,q⟩
theorem gTup3_at {σ:St} {x y z:V} {i j k:Nat} {R:St->Hp->Prop} (h:H p=some (.tup [x,y,z])) (q:R (((σ.set i (some x)).set j (some y)).set k (some z)) H):gTup K 3 (zn (qZ i) (zn (qZ j) (zn (qZ k) gNil))) (.ref p) σ H R :=
 ⟨p,_,rfl,SqT.of h,rfl,_,_,rfl,_,_,rfl,_,_,rfl,rfl,q⟩
theorem xr {i j:Int}:(V.int i=V.int j)=(i=j):=propext ⟨fun h=>by cases h; rfl,fun h=>by rw[h]⟩
theorem xq {i j:Str}:(V.str i=V.str j)=(i=j):=propext ⟨fun h=>by cases h; rfl,fun h=>by rw[h]⟩
end
section
variable {X:Cx} {i j:Nat} {x y:Str} {px py pos:Pos} {kk:Nat}
theorem pg_t2 (hN:X.N.Nodup) (hc:X.calm=true) (hi:X.N[i]?=some x) (hj:X.N[j]?=some y) (lx:Loc X.env.scope x) (ly:Loc X.env.scope y)
  (fx:X.fn x=true\/X.env.scope.names.lookup x=some .local) (fy:X.fn y=true\/X.env.scope.names.lookup y=some .local) :
  PG X (.Tuple [.Name x px, .Name y py] kk pos) (gTup X.K 2 (zn (qZ i) (zn (qZ j) gNil))):=pg_tup hc (ZW (VR hN hi lx fx) (ZW (VR hN hj ly fy) pgs_nil))
end
section
variable {X:Cx} {K:PySem.W.Frag}
theorem qt (h:X.K=K):IxR X (rIxL K):=h▸ix_list
theorem ix_tupK (h:X.K=K):IxR X (rIxT K):=h▸ix_tup
theorem pi_listK {tg l:Expr} {tl:TE} (h:X.K=K) (hl:PE X l tl):PI X tg l (X0 K tl):=h▸pi_list hl
theorem pi_tupK {tg l:Expr} {tl:TE} (h:X.K=K) (hl:PE X l tl):PI X tg l (iTup K tl):=h▸pi_tup hl
theorem ve (h:X.K=K):SlR X (rSlL K):=h▸sl_list
theorem op_inK (h:X.K=K):OpR X (compareOp .In) (rIn K false):=h▸J7
theorem vK (h:X.K=K):zd X (.builtin "isinstance") (rIsi K):=h▸call_isi
def tTru (K:PySem.W.Frag) (ta:TE):TT:=fun σ H Q=>ta σ H fun x H'=>∃k,TruV K x H' k/\Q k H'
theorem pg_t2K {i j:Nat} {x y:Str} {px py pos:Pos} {kk:Nat} (h:X.K=K) (hN:X.N.Nodup) (hc:X.calm=true) (hi:X.N[i]?=some x) (hj:X.N[j]?=some y) (lx:Loc X.env.scope x) (ly:Loc X.env.scope y)
  (fx:X.fn x=true\/X.env.scope.names.lookup x=some .local) (fy:X.fn y=true\/X.env.scope.names.lookup y=some .local) :
  PG X (.Tuple [.Name x px, .Name y py] kk pos) (gTup K 2 (zn (qZ i) (zn (qZ j) gNil))):=h▸pg_t2 hN hc hi hj lx ly fx fy
def LmStep (x:V) (H:Hp) (k:Prop):Prop:=∃p xs,x=.ref p/\H p=some (.lst xs)/\k
theorem lm_at {p:Addr} {xs:List V} {H:Hp} {k:Prop} (h:H p=some (.lst xs)) (q:k):LmStep (.ref p) H k:=⟨p,xs,rfl,h,q⟩
def tLM (r:V->List V->Hp->VK->Prop) (to:TE) (t:TA):TE:=fun σ H Q=>to σ H fun x H1=>LmStep x H1 (t σ H1 fun vs H2=>r x vs H2 Q)
theorem pe_lm {o e:Expr} {es:List Expr} {to:TE} {t:TA} {name:Str} {apos cpos:Pos} {id:String} {r:V->List V->Hp->VK->Prop} (slot:Slot "list" name id) (hty:typeOf (.builtin id)=pure (.type "method_descriptor")) (hm:MtR X id r) (ho:PE X o to) (ha:PA X (e::es) t)
  (hbase:attributeBase o name X.env (eval o X.env)=eval o X.env:=by rfl)
  (hfew:((backTo cpos (starEach (e::es) X.env)).all (fun x => !x.1)&&(backToKw cpos (keywordEach [] X.env)).all (fun x=>x.1.isSome)
   && decide ((e::es).length+([]:List Keyword).length+(if([]:List Keyword).isEmpty then 0 else 1)<30))=true:=by rfl)
  (hline:(apos.endLine==cpos.line)=true:=by rfl) (hs:starEach (e::es) X.env=(false,eval e X.env)::starEach es X.env:=by rfl) (hplain:(backTo cpos (starEach es X.env)).any (·.1)=false:=by rfl) :
  PE X (.Call (.Attribute o name apos) (e::es) [] cpos) (tLM r to t):=by
 intro pins s σ H Q I h
 refine wpAny_Call_method_late hbase hfew hline rfl (thn (ho pins s σ H _ I h) fun v s1 ⟨x,H1,I1,r1,p,xs,ex,hp,q1⟩=>?_)
 subst ex
 obtain⟨h1,h2⟩:=Jm (T := "list") I1 r1 (.inl ⟨rfl,xs,SqL.of hp⟩)
 refine⟨"list", id,PySem.F.plainAttrs_list,slot,hty,h1,h2, ?_⟩
 have hA:=ha cpos pins s1 σ H1 _ I1 q1
 rw[hs] at hA ⊢
 refine Calls.callWith_builtin (by show(false||(backTo cpos (starEach es X.env)).any (·.1))=false; rw[hplain]<;>rfl) (Calls.evalArgs_plain ?_)
 exact thn hA fun us s2 ⟨vs,H2,I2,r2,q2⟩=>hm pins s2 σ H2 (.ref p) vs v us Q I2 r1 r2 q2
end
def ForW (J:It) (g:TG) (tb:TS) (D:Ends) (σ:St) (H1:Hp):Prop:=∃W:Nat->Nat->St->Hp->Prop,(∃m,W 0 m σ H1)/\∀i m σ H,W i m σ H ->
 (J.stop i H/\D.nx σ H)\/(J.go i H/\∃N:St->Hp->Prop,(∀σ' H',N σ' H'->∃m',m'<m/\W (i+1) m' σ' H')/\∀x H',J.yld i H x H'->g x σ H' fun σ2 H2=>tb { D with nx:=N,ct:=N,bk:=D.nx } σ2 H2)
theorem ZL {wi:TI} {g:TG} {tb:TS} {D:Ends} {σ:St} {H:Hp}:tFor wi g tb D σ H=wi σ H fun J H1=>ForW J g tb D σ H1:=rfl
def ItStep (K:PySem.W.Frag) (x:V) (H:Hp) (R:It->Hp->Prop):Prop:=∃a,x=.ref a/\(∃xs,SqL K H a xs)/\R (Itl K a) H
theorem jz {K:PySem.W.Frag} {tl:TE} {σ:St} {H:Hp} {R:It->Hp->Prop}:X0 K tl σ H R=tl σ H fun x H1=>ItStep K x H1 R:=rfl
theorem it_at {K:PySem.W.Frag} {p:Addr} {xs:List V} {H:Hp} {R:It->Hp->Prop} (h:H p=some (.lst xs)) (q:R (Itl K p) H):ItStep K (.ref p) H R:=⟨p,rfl,⟨xs,SqL.of h⟩,q⟩
def RgStep (vs:List V) (H:Hp) (R:It->Hp->Prop):Prop:=∃j:Int,vs=[.int j] /\ -(2^62)<=j/\j<2^62/\R (Itr 0 j.toNat) H
theorem jx {ta:TA} {σ:St} {H:Hp} {R:It->Hp->Prop}:KQ ta σ H R=ta σ H fun vs H1=>RgStep vs H1 R:=rfl
theorem rg_at {j:Int} {H:Hp} {R:It->Hp->Prop} (h1 : -(2^62)<=j) (h2:j<2^62) (q:R (Itr 0 j.toNat) H):RgStep [.int j] H R:=⟨j,rfl,h1,h2,q⟩
theorem rd_pi {k:Int} {R:Int->Prop}:(∃i,V.int k=.int i/\R i)=R k:=propext ⟨fun⟨_,e,h⟩=>by cases e; exact h,fun h=>⟨k,rfl,h⟩⟩
theorem jl {K:PySem.W.Frag} {H:Hp} {Q:VK} {x:V} {n t:String} {b:Bool} (ty:TyOf K H x (.type t)) (e:PySem.W.kitOne K (.type t) (.type n)=some b) (q:Q (.bl b) H):rIsi K [x, .ty n] H Q:=⟨x,n,t,b,rfl,ty,e,q⟩
def rIsiT (K:PySem.W.Frag):List V->Hp->VK->Prop:=fun xs H Q=>∃(x:V) (p:Addr) (ns:List String) (t:String) (b:Bool),xs=[x, .ref p]/\H p=some (.tup (ns.map V.ty))/\TyOf K H x (.type t)/\PySem.W.kitAny K (.type t) (ns.map Value.type)=some b/\Q (.bl b) H
theorem Ja:∀{ns:List String} {us:List Value},Vals (ns.map V.ty) us->us=ns.map Value.type
 | [],_,h=>by cases h; rfl
 |n::ns,_,h=>by
  cases h with
  |cons r t =>
   have:=Ja t
   subst this
   obtain rfl:=(show _=Value.type n from r)
   rfl
theorem Vx {X:Cx} {K:PySem.W.Frag} (hK:X.K=K):zd X (.builtin "isinstance") (rIsiT K):=by
 subst hK
 intro pins s σ H xs us Q I r h
 obtain⟨x,p,ns,t,b,rfl,hp,ty,e,q⟩:=h
 obtain⟨u,v,rfl,ru,rv⟩:=vals2 r
 obtain rfl:v=Value.ref p:=rv
 obtain⟨_,its,r1,o,ho,hc,n,hd⟩:=(show ObjOk X.prog X.w H s.heap p (.tup (ns.map V.ty)) from I.hok p _ hp)
 obtain rfl:=Ja r1
 obtain⟨c,dd,dt,sl⟩:=o
 simp only at hc hd
 subst hc hd
 have fin:∀tk,EP X pins σ Q (.bool b) { s with toks:=tk }:=fun tk=>⟨.bl b,H,I.tok tk,rfl,q⟩
 cases ty with
 |non=>cases(show u=Value.none from ru); exact PySem.W.kia_tup PySem.W.kitx_none I.kIn True.intro ho e (fun z=>nomatch z) fin
 |bl y=>cases(show u=Value.bool y from ru); exact PySem.W.kia_tup PySem.W.kitx_bool I.kIn True.intro ho e (fun z=>nomatch z) fin
 |int i=>obtain⟨t,q'⟩:=(show ∃t,u=Value.int i t from ru); cases q'; exact PySem.W.kia_tup PySem.W.kitx_int I.kIn True.intro ho e (fun z=>nomatch z) fin
 |str y=>obtain⟨t,q'⟩:=(show ∃t,u=Value.str y t from ru); cases q'; exact PySem.W.kia_tup PySem.W.kitx_str I.kIn True.intro ho e (fun z=>nomatch z) fin
 |flt y=>obtain⟨t,q'⟩:=(show ∃t,u=Value.float y t from ru); cases q'; exact PySem.W.kia_tup PySem.W.kitx_float I.kIn True.intro ho e (fun z=>nomatch z) fin
 | @lst a xs ea =>
  cases(show u=Value.ref a from ru)
  obtain⟨_,_,n,_,h1⟩:=(show ObjOk X.prog X.w H s.heap a (.lst xs) from I.hok a _ ea)
  exact PySem.W.kia_tup PySem.W.kitx_list I.kIn ⟨_,h1,rfl⟩ ho e (fun z=>nomatch z) fin
 | @frz a ob xs ea =>
  cases(show u=Value.ref a from ru)
  obtain⟨_,_,_,n,_,h1⟩:=(show ObjOk X.prog X.w H s.heap a (.frz ob (.lst xs)) from I.hok a _ ea)
  exact PySem.W.kia_tup PySem.W.kitx_list I.kIn ⟨_,h1,rfl⟩ ho e (fun z=>nomatch z) fin
 | @tup a xs ea =>
  cases(show u=Value.ref a from ru)
  obtain⟨_,_,_,o2,h1,h2,_⟩:=(show ObjOk X.prog X.w H s.heap a (.tup xs) from I.hok a _ ea)
  exact PySem.W.kia_tup PySem.W.kitx_tuple I.kIn ⟨o2,h1,h2⟩ ho e (fun z=>nomatch z) fin
 | @dK a kvs ea =>
  cases(show u=Value.ref a from ru)
  obtain⟨_,_,vs,_,p2⟩:=(show ObjOk X.prog X.w H s.heap a (.dK kvs) from I.hok a _ ea)
  obtain⟨o2,es,ep,h1,h2,_⟩:=p2
  exact PySem.W.kia_tup PySem.W.kitx_dict I.kIn ⟨o2,h1,h2.1⟩ ho e (fun z=>nomatch z) fin
 | @dT a kvs ea =>
  cases(show u=Value.ref a from ru)
  obtain⟨_,_,xs,_,o2,es,ep,h1,h2,_⟩:=(show ObjOk X.prog X.w H s.heap a (.dT kvs) from I.hok a _ ea)
  exact PySem.W.kia_tup PySem.W.kitx_dict I.kIn ⟨o2,h1,h2.1⟩ ho e (fun z=>nomatch z) fin
structure Tup3 (K:PySem.W.Frag) (mg:Str->Option Value) (nm:Str) (p:Addr) (x y z:Str):Prop where
 mg:mg nm=some (.ref p)
 lk:∃(a b c:Tok) (n:Nat) (sl:Array (Option Value)),K.lookup p=some ⟨.type "tuple", none, .seq #[.str x a, .str y b, .str z c] n,sl⟩
theorem Tup3.sq {K:PySem.W.Frag} {mg:Str->Option Value} {nm:Str} {p:Addr} {x y z:Str} (T:Tup3 K mg nm p x y z) (H:Hp):SqT K H p [.str x, .str y, .str z]:=by
 obtain⟨a,b,c,n,sl,e⟩:=T.lk
 exact .inr ⟨_,_,n,e,rfl,rfl,(by decide:3<=sizeLine), .cons ⟨a,rfl⟩ (.cons ⟨b,rfl⟩ (.cons ⟨c,rfl⟩ .nil))⟩
theorem Tup3.ty {K:PySem.W.Frag} {mg:Str->Option Value} {nm:Str} {p:Addr} {x y z:Str} (T:Tup3 K mg nm p x y z) (H:Hp):tyV K "tuple" (.ref p) H:=by
 obtain⟨a,b,c,n,sl,e⟩:=T.lk
 exact .inr (.inl ⟨rfl,_,e,rfl,rfl⟩)
def h00:Heap:={}
def kz (h:Heap) (L:Addr):List (Addr×Obj):=(List.range h.objs.size).filterMap fun a=>if a=L then none else(h.get? a).map fun o=>(a,o)
theorem Qi (a:Addr):h00.get? a=none:=Heap.get?_none_of_le (Nat.zero_le _)
theorem Z4 {h:Heap} {L b:Addr} {o:Obj} (e:h.get? b=some o) (n:b≠L):(b,o)∈kz h L:=by
 refine List.mem_filterMap.mpr ⟨b,List.mem_range.mpr (Heap.lt_size e), ?_⟩
 rw[if_neg n,e]
 rfl
theorem Ki {h:Heap} {L:Addr}:News h00 L h (kz h L):=fun p hp=>by
 obtain⟨a,_,e⟩:=List.mem_filterMap.mp hp
 by_cases n:a=L
 ·rw[if_pos n] at e; cases e
 ·rw[if_neg n] at e
  cases q:h.get? a with
  |none=>rw[q] at e; cases e
  |some o=>rw[q] at e; cases e; exact⟨q,n,Qi _⟩
theorem Inv.ledger {X:Cx} {pins:List (Addr×Obj)} {σ:St} {H:Hp} {s:Shared} (I:Inv X pins σ H s):∃m,Fr h00 X.env.locals s.heap m/\News h00 X.env.locals s.heap (kz s.heap X.env.locals) /\
  ∀(h':Heap) (tk:Nat),Fr h00 X.env.locals h' m->News h00 X.env.locals h' (kz s.heap X.env.locals)->Inv X pins σ H { s with heap:=h',toks:=tk }:=by
 obtain⟨m,hn,_⟩:=I.loc
 refine⟨m,⟨hn,fun b o e=>(by rw[Qi] at e; cases e),Nat.zero_le _⟩,Ki,fun h' tk F W=>?_⟩
 have kp:∀b o,b≠X.env.locals->s.heap.get? b=some o->h'.get? b=some o:=fun b o n e=>(W _ (Z4 e n)).1
 refine I.step (ch:=[]) (H':=H) (fun b hb=>nomatch hb) (fun b o n _ _ e _=>kp b o n e) (fun b o n _ _ e _=>⟨o.slots,kp b o n e⟩) (fun b o _ _ z=>z) (fun b o _ e=>?_) (fun _ _ z=>z) (fun _ _ _ z=>z) (fun b ps z=>⟨#[],by simpa using z⟩) (fun m' hm'=>?_) (fun a o e=>?_) I.bare
 ·by_cases n:b=X.env.locals
  ·subst n
   obtain⟨o',_,_,e',_⟩:=F.ns
   exact⟨o',e'⟩
  ·exact⟨o,kp b o n e⟩
 ·have:m'=m:=funext fun x=>by
   obtain⟨o,es,ep,e1,e2,e3,e4⟩:=hm'
   obtain⟨o',es',ep',f1,f2,f3,f4⟩:=hn
   rw[e1] at f1; cases f1
   rw[e2] at f2; cases f2
   rw[<-e4, <-f4]
  rw[this]
  exact F.ns
 ·refine(I.hok a o e).stay (fun b u hb q=>kp b u ?_ q) (fun _ q=>q) fun _ _ q=>q
  intro z
  subst z
  have:=I.free
  rcases hb with hb|hb
  ·subst hb; rw[e] at this; cases this
  ·rw[hb] at this; cases this
theorem Xq:∀{bs:List Bool} {us:List Value},Vals (bs.map V.bl) us->LSm.BoolsAre us bs
 | [],_,h=>by cases h; exact .nil
 |b::bs,_,h=>by
  cases h with
  |cons r t =>
   obtain rfl:=(show _=Value.bool b from r)
   exact .cons b (Xq t)
def rAll:List V->Hp->VK->Prop:=fun xs H Q=>∃(l:Addr) (bs:List Bool),xs=[.ref l]/\H l=some (.lst (bs.map V.bl))/\Q (.bl (bs.all id)) H
theorem Xp {X:Cx} (hc:X.calm=true):zd X (.builtin "all") rAll:=by
 intro pins s σ H xs us Q I r h
 obtain⟨l,bs,rfl,hl,q⟩:=h
 obtain⟨u,rfl,rx⟩:=xA r
 cases rx
 obtain⟨its,r',pl,hz⟩:=I.list (SqL.of hl)
 obtain⟨m,F,W,fin⟩:=I.ledger
 exact LSm.all_bools F W (I.ok.hd hc) pl.isList (Xq r') fun h' tk F' W'=>⟨.bl _,H,fin h' tk F' W',rfl,q⟩
def rIxA (K:PySem.W.Frag):R2:=fun x y H Q=>rIxL K x y H Q\/rIxT K x y H Q
theorem KK {X:Cx} {K:PySem.W.Frag} (h:X.K=K):IxR X (rIxA K):=(qt h).or (ix_tupK h)
def rLenA (K:PySem.W.Frag):List V->Hp->VK->Prop:=fun xs H Q=>∃p ys,xs=[.ref p]/\(SqL K H p ys\/SqT K H p ys)/\Q (.int ys.length) H
theorem xt {X:Cx} {K:PySem.W.Frag} (h:X.K=K):zd X (.builtin "len") (rLenA K):=h▸jm
structure GInt (mg:Str->Option Value) (nm:Str) (n:Int):Prop where
 ex:∃t,mg nm=some (.int n t)
theorem pe_gint {X:Cx} {x:Str} {n:Int} {pos:Pos} (G:GInt X.mg x n) (hg:Gl X x) (hd:(x==("__debug__" : Str))=false:=by decide):PE X (.Name x pos) (tC (.int n)):=by
 obtain⟨t,e⟩:=G.ex
 exact VS hg e ⟨t,rfl⟩ hd
def Bt (n:Nat) (i:Int):Prop:=i.natAbs<2^n
theorem Bt.mono {n m:Nat} {i:Int} (h:Bt n i) (hm:n<=m):Bt m i:=Nat.lt_of_lt_of_le h (Nat.pow_le_pow_right (by decide) hm)
theorem Bt.neg {n:Nat} {i:Int} (h:Bt n i):Bt n (-i):=by unfold Bt; rw[Int.natAbs_neg]; exact h
theorem Bt.sign {n:Nat} {i s:Int} (h:Bt n i) (hs:s=1\/s = -1):Bt n (s*i):=by
 rcases hs with rfl|rfl
 ·rw[Int.one_mul]; exact h
 ·rw[Int.neg_mul,Int.one_mul]; exact h.neg
def Itv (K:PySem.W.Frag) (a:Addr) (n:Nat):It :=
 ⟨fun i H=>i<n/\∃xs,SqL K H a xs/\xs.length=n,fun i H x H'=>H'=H/\∀xs,SqL K H a xs->xs[n-1-i]?=some x,fun i H=>n=i⟩
def RvStep (K:PySem.W.Frag) (vs:List V) (H:Hp) (R:It->Hp->Prop):Prop:=∃a xs,vs=[.ref a]/\SqL K H a xs/\R (Itv K a xs.length) H
def iRev (K:PySem.W.Frag) (ta:TA):TI:=fun σ H R=>ta σ H fun vs H1=>RvStep K vs H1 R
theorem kS {K:PySem.W.Frag} {ta:TA} {σ:St} {H:Hp} {R:It->Hp->Prop}:iRev K ta σ H R=ta σ H fun vs H1=>RvStep K vs H1 R:=rfl
def Ite (K:PySem.W.Frag) (a:Addr):It :=
 ⟨fun i H=>∃xs x,SqL K H a xs/\xs[i]?=some x,fun i H x H'=>∃(p:Addr) (v:V),x=.ref p/\H p=none/\H'=upd H p (.tup [.int i,v])/\∀xs,SqL K H a xs->xs[i]?=some v,fun i H=>∃xs,SqL K H a xs/\xs.length<=i⟩
def EnStep (K:PySem.W.Frag) (vs:List V) (H:Hp) (R:It->Hp->Prop):Prop:=∃a xs,vs=[.ref a]/\SqL K H a xs/\R (Ite K a) H
def iEnum (K:PySem.W.Frag) (ta:TA):TI:=fun σ H R=>ta σ H fun vs H1=>EnStep K vs H1 R
theorem jA {K:PySem.W.Frag} {ta:TA} {σ:St} {H:Hp} {R:It->Hp->Prop}:iEnum K ta σ H R=ta σ H fun vs H1=>EnStep K vs H1 R:=rfl
def rNeL (K:PySem.W.Frag):R2:=fun x y H Q=>∃a b xs ys,x=.ref a/\y=.ref b/\SqL K H a xs/\SqL K H b ys/\((xs.length≠ys.length/\Q (.bl true) H)\/(xs.length=ys.length/\∃e:Nat->Bool,(∀(j:Nat) x y,xs[j]?=some x->ys[j]?=some y->DE K H 20 x y (e j))/\Q (.bl (!(List.range xs.length).all e)) H))
def rEqL (K:PySem.W.Frag):R2:=fun x y H Q=>∃a b xs ys,x=.ref a/\y=.ref b/\SqL K H a xs/\SqL K H b ys/\((xs.length≠ys.length/\Q (.bl false) H)\/(xs.length=ys.length/\∃e:Nat->Bool,(∀(j:Nat) x y,xs[j]?=some x->ys[j]?=some y->DE K H 20 x y (e j))/\Q (.bl ((List.range xs.length).all e)) H))
theorem op_neLK {X:Cx} {K:PySem.W.Frag} (hK:X.K=K) (hu:X.A.units+64<cLine):OpR X (compareOp .NotEq) (rNeL K):=by
 subst hK
 intro pins s σ H x y v u Q I rx ry h
 obtain⟨a,b,xs,ys,rfl,rfl,ha,hb,h⟩:=h
 obtain rfl:v=Value.ref a:=rx
 obtain rfl:u=Value.ref b:=ry
 obtain⟨its,r1,p1,_⟩:=I.list ha
 obtain⟨its2,r2,p2,_⟩:=I.list hb
 rcases h with⟨hl,q⟩|⟨hl,e,he,q⟩
 ·exact EqBoolInt.of_rcne (SeqAt.RcNeAt.lists_lengths (A:=X.A) p1.isList p2.isList (by simp[<-r1.length, <-r2.length,hl]) (by omega)) ⟨.bl _,H,I,rfl,q⟩
 ·refine EqBoolInt.of_rcne (SeqAt.RcNeAt.lists (A:=X.A) (e:=e) p1.isList p2.isList (by simp[<-r1.length, <-r2.length,hl]) (by omega) fun j h1 h2=>?_) ⟨.bl _,H,I,rfl, ?_⟩
  ·have l1:j<xs.length:=by rw[r1.length]; simpa using h1
   have l2:j<ys.length:=by rw[r2.length]; simpa using h2
   obtain⟨u1,q1,s1⟩:=r1.get (List.getElem?_eq_getElem l1)
   obtain⟨u2,q2,s2⟩:=r2.get (List.getElem?_eq_getElem l2)
   have e1:its.toArray[j]=u1:=by
    obtain⟨_,z⟩:=List.getElem?_eq_some_iff.mp q1
    simpa using z
   have e2:its2.toArray[j]=u2:=by
    obtain⟨_,z⟩:=List.getElem?_eq_some_iff.mp q2
    simpa using z
   rw[e1,e2]
   exact(he j _ _ (List.getElem?_eq_getElem l1) (List.getElem?_eq_getElem l2)).eqAt I (by rw[xP]; omega) s1 s2
  ·rw[List.size_toArray, <-r1.length]
   exact q
theorem VY {X:Cx} {K:PySem.W.Frag} (hK:X.K=K) (hu:X.A.units+64<cLine):OpR X (compareOp .Eq) (rEqL K):=by
 subst hK
 intro pins s σ H x y v u Q I rx ry h
 obtain⟨a,b,xs,ys,rfl,rfl,ha,hb,h⟩:=h
 obtain rfl:v=Value.ref a:=rx
 obtain rfl:u=Value.ref b:=ry
 obtain⟨its,r1,p1,_⟩:=I.list ha
 obtain⟨its2,r2,p2,_⟩:=I.list hb
 rcases h with⟨hl,q⟩|⟨hl,e,he,q⟩
 ·exact EqBoolInt.of_rc (SeqAt.RcAt.lists_lengths (A:=X.A) p1.isList p2.isList (by simp[<-r1.length, <-r2.length,hl]) (by omega)) ⟨.bl _,H,I,rfl,q⟩
 ·refine EqBoolInt.of_rc (SeqAt.RcAt.lists (A:=X.A) (e:=e) p1.isList p2.isList (by simp[<-r1.length, <-r2.length,hl]) (by omega) fun j h1 h2=>?_) ⟨.bl _,H,I,rfl, ?_⟩
  ·have l1:j<xs.length:=by rw[r1.length]; simpa using h1
   have l2:j<ys.length:=by rw[r2.length]; simpa using h2
   obtain⟨u1,q1,s1⟩:=r1.get (List.getElem?_eq_getElem l1)
   obtain⟨u2,q2,s2⟩:=r2.get (List.getElem?_eq_getElem l2)
   have e1:its.toArray[j]=u1:=by
    obtain⟨_,z⟩:=List.getElem?_eq_some_iff.mp q1
    simpa using z
   have e2:its2.toArray[j]=u2:=by
    obtain⟨_,z⟩:=List.getElem?_eq_some_iff.mp q2
    simpa using z
   rw[e1,e2]
   exact(he j _ _ (List.getElem?_eq_getElem l1) (List.getElem?_eq_getElem l2)).eqAt I (by rw[xP]; omega) s1 s2
  ·rw[List.size_toArray, <-r1.length]
   exact q
theorem Yu {α:Type} [DecidableEq α] {ns ms:List α} (hl:ns.length=ms.length):(List.range ns.length).all (fun j=>ns[j]?==ms[j]?)=decide (ns=ms):=by
 rw[Bool.eq_iff_iff,decide_eq_true_iff,List.all_eq_true]
 constructor
 ·intro h
  refine List.ext_getElem? fun j=>?_
  by_cases hj:j<ns.length
  ·exact eq_of_beq (h j (List.mem_range.mpr hj))
  ·rw[List.getElem?_eq_none (by omega),List.getElem?_eq_none (by omega)]
 ·rintro rfl j _
  simp
def ixRev (n:Nat):List Nat:=sliceRange (sliceBounds none none (some (-1)) n).1 (sliceBounds none none (some (-1)) n).2.1 (sliceBounds none none (some (-1)) n).2.2
def pickV (xs:List V):List V:=(ixRev xs.length).filterMap fun i=>xs[i]?
def RevStep (K:PySem.W.Frag) (x:V) (H:Hp) (Q:VK):Prop:=∃a xs,x=.ref a/\SqL K H a xs/\∀r,H r=none->Q (.ref r) (upd H r (.lst (pickV xs)))
def tRev (K:PySem.W.Frag) (te:TE):TE:=fun σ H Q=>te σ H fun x H1=>RevStep K x H1 Q
def Kh:Expr->Bool
 |.Starred _ _=>false
 |_=>true
theorem Jv {e:Expr} {es:List Expr} {env:Env} (h:Kh e=true):starEach (e::es) env=(false,eval e env)::starEach es env:=by
 cases e<;>first|rfl|cases h
theorem pa_c {X:Cx} {e:Expr} {es:List Expr} {te:TE} {t:TA} (ha:PE X e te) (hr:PA X es t) (h:Kh e=true:=by rfl):PA X (e::es) (zr te t):=pa_cons ha hr (Jv h)
structure QE (X:Cx) (e:Expr) (t:TE):Prop where
 h:PE X e t
structure QT (X:Cx) (e:Expr) (t:TT):Prop where
 h:PT X e t
structure QW (X:Cx) (e:Expr) (t:TT):Prop where
 h:PW X e t
structure QA (X:Cx) (e:List Expr) (t:TA):Prop where
 h:PA X e t
structure QS (X:Cx) (e:Stmt) (t:TS):Prop where
 h:PS X e t
structure QSs (X:Cx) (e:List Stmt) (t:TS):Prop where
 h:PSs X e t
structure QG (X:Cx) (e:Expr) (t:TG):Prop where
 h:PG X e t
structure QTs (X:Cx) (e:List Expr) (t:TT):Prop where
 h:PTs X e t
structure QO (X:Cx) (e:Option Expr) (t:TO):Prop where
 h:PO X e t
structure QI (X:Cx) (tg e:Expr) (t:TI):Prop where
 h:PI X tg e t
structure QPs (X:Cx) (pos:Pos) (ks:List (Option Expr)) (vs:List Expr) (t:List (TE×TE)):Prop where
 h:PPs X pos ks vs t
section
variable {X:Cx}
theorem qH  : QSs X [] kM:=⟨pss_nil ⟩
end
section
variable {X:Cx} {st:Stmt} {t:TS}
theorem qk (h1:QS X st t):QSs X [st] t:=⟨pss_one h1.h⟩
end
section
variable {X:Cx} {st:Stmt} {rest:List Stmt} {t u:TS}
theorem qg (h1:QS X st t) (h2:QSs X rest u):QSs X (st::rest) (tSeq t u):=⟨pss_cons h1.h h2.h⟩
end
section
variable {X:Cx} {elt tg iter:Expr} {ifs:List Expr} {scope:Scope} {bs:List Bool} {ext:List Str} {pos:Pos} {wi:TI} {g:TG} {tt:TT} {te:TE}
theorem qs_lc {i:Nat} {x:Str} {pos' spos:Pos} (bs:List Bool) (ext:List Str) (hN:X.N.Nodup) (hix:X.N[i]?=some x) (hx:X.env.scope.names.lookup x=some .local) (hi:QI X tg iter wi) (hg:∀fp s H,QG (cxB X scope ext fp s H) tg g) (ht:∀fp s H,QTs (cxB X scope ext fp s H) ifs tt) (he:∀fp s H,QE (cxB X scope ext fp s H) elt te) (hk:zS scope X.env X.N bs=true:=by rfl) (hc:X.calm=true:=by rfl) (hsw:swapsWith (.ListComp elt [⟨tg,iter,ifs,0⟩] scope pos) (some (.Name x pos')) spos.line X.env=pure true:=by rfl) (hs:∀x,foldedSetIterable iter X.env x=pure x:=by intro _; rfl):QS X (.Assign [.Name x pos'] (.ListComp elt [⟨tg,iter,ifs,0⟩] scope pos) spos) (tAsg (xu wi bs ext.length g tt te) (qZ i)):=⟨ps_lc bs ext hN hix hx hi.h (fun fp s H=>(hg fp s H).h) (fun fp s H=>(ht fp s H).h) (fun fp s H=>(he fp s H).h) hk hc hsw hs⟩
end
section
variable {X:Cx} {pos:Pos}
theorem qE {i:Nat} {x:Str} {e:Expr} {te:TE} {pos':Pos} (hN:X.N.Nodup) (hi:X.N[i]?=some x) (hx:Loc X.env.scope x) (he:QE X e te) (hs:swapsWith e (some (.Name x pos')) pos.line X.env=pure false:=by rfl) (hf:X.fn x=true\/X.env.scope.names.lookup x=some .local:=by first|exact .inl rfl|exact .inr rfl|assumption):QS X (.Assign [.Name x pos'] e pos) (tAsg te (qZ i)):=⟨ps_set hN hi hx he.h hs hf⟩
end
section
variable {X:Cx} {pos:Pos}
theorem kn {tg e:Expr} {te:TE} {g:TG} (he:QE X e te) (hg:QG X tg g) (hs:swapsWithSole [tg] e pos.line X.env=pure false:=by rfl) (hw:swappedStores [tg] e X.env=pure none:=by rfl) (h1:(assignEach [tg] X.env).map (·.2)=[assign tg X.env]:=by rfl):QS X (.Assign [tg] e pos) (tAsg te g):=⟨ps_asg he.h hg.h hs hw h1⟩
end
section
variable {X:Cx} {e:Expr} {te:TE} {pos:Pos}
theorem qG (he:QE X e te):QS X (.Return (some e) pos) (tRet te):=⟨ps_ret he.h⟩
end
section
variable {X:Cx} {t u:TS} {pos:Pos}
theorem vB {c:Expr} {a b:List Stmt} {tc:TT} (hc:QT X c tc) (ha:QSs X a t) (hb:QSs X b u):QS X (.If c a b pos) (tIfS tc t u):=⟨ps_if hc.h ha.h hb.h⟩
end
section
variable {X:Cx} {tg:Expr}
theorem ZQ {iter:Expr} {body:List Stmt} {wi:TI} {g:TG} {tb:TS} {pos:Pos} (hp:PassesOwn (model X.prog X.w) X.A X.env X.xe) (hc:X.calm=true) (hi:QI X tg iter wi) (hg:QG X tg g) (hb:QSs X body tb) (hs:∀x,foldedSetIterable iter X.env x=pure x:=by intro _; rfl):QS X (.For tg iter body [] pos) (tFor wi g tb):=⟨ps_for hp hc hi.h hg.h hb.h hs⟩
end
section
variable {X:Cx} {e:Expr} {te:TE} {pos:Pos}
theorem JR (he:QE X e te) (hs:swapsWith e none pos.line X.env=pure false:=by rfl):QS X (.Expr e pos) (QR te):=⟨ps_expr he.h hs⟩
end
section
variable {X:Cx} {tg:Expr}
theorem zK {a:Expr} {ta:TA} {p pos:Pos} (hg:Gl X "range") (hm:X.mg "range" = none) (ha:QA X [a] ta) (hs:starEach [a] X.env=[(false,eval a X.env)]:=by rfl):QI X tg (.Call (.Name "range" p) [a] [] pos) (KQ ta):=⟨JW hg hm ha.h hs⟩
end
section
variable {X:Cx} {K:PySem.W.Frag}
theorem xg {tg l:Expr} {tl:TE} (h:X.K=K) (hl:QE X l tl):QI X tg l (X0 K tl):=⟨pi_listK h hl.h⟩
end
section
variable {X:Cx} {K:PySem.W.Frag}
theorem qi_tupK {tg l:Expr} {tl:TE} (h:X.K=K) (hl:QE X l tl):QI X tg l (iTup K tl):=⟨pi_tupK h hl.h⟩
end
section
variable {X:Cx} {pos:Pos}
theorem vg {i:Nat} {x:Str} (hN:X.N.Nodup) (hi:X.N[i]?=some x) (hx:Loc X.env.scope x) (hf:X.fn x=true\/X.env.scope.names.lookup x=some .local:=by first|exact .inl rfl|exact .inr rfl|assumption):QG X (.Name x pos) (qZ i):=⟨VR hN hi hx hf⟩
end
section
variable {X:Cx} {K:PySem.W.Frag}
theorem qg_t2K {i j:Nat} {x y:Str} {px py pos:Pos} {kk:Nat} (h:X.K=K) (hN:X.N.Nodup) (hc:X.calm=true) (hi:X.N[i]?=some x) (hj:X.N[j]?=some y) (lx:Loc X.env.scope x) (ly:Loc X.env.scope y) (fx:X.fn x=true\/X.env.scope.names.lookup x=some .local) (fy:X.fn y=true\/X.env.scope.names.lookup y=some .local):QG X (.Tuple [.Name x px, .Name y py] kk pos) (gTup K 2 (zn (qZ i) (zn (qZ j) gNil))):=⟨pg_t2K h hN hc hi hj lx ly fx fy⟩
end
section
variable {X:Cx} {pos:Pos}
theorem ko {o i:Expr} {to ti:TE} {t:TSet} (ho:QE X o to) (hi:QE X i ti) (hs:PSet X t) (ha:∀v,assign (.Subscript o i pos) X.env v=(do
   let ov <-holding [v] (eval o X.env)
   let iv <-holding [v,ov] (eval i X.env)
   standAt pos
   holding [v,ov,iv] (setItem ov iv v)
   release [v,ov,iv] []):=by intro _; rfl):QG X (.Subscript o i pos) (gSub to ti t):=⟨pg_sub ho.h hi.h hs ha⟩
end
section
theorem vL {X:Cx}:QTs X [] tYes:=⟨pts_nil ⟩
end
section
theorem JQ {X:Cx} {c:Expr} {t:TT} (h:QT X c t):QTs X [c] t:=⟨pts_one h.h⟩
end
section
theorem qa_c {X:Cx} {e:Expr} {es:List Expr} {te:TE} {t:TA} (ha:QE X e te) (hr:QA X es t) (h:Kh e=true:=by rfl):QA X (e::es) (zr te t):=⟨pa_c ha.h hr.h h⟩
end
section
variable {X:Cx}
theorem qd  : QA X [] tNil:=⟨pa_nil ⟩
end
section
variable {X:Cx} {a b:Expr} {ta tb:TE} {pos:Pos}
theorem qu {op:CmpOp} {r:R2} (ho:OpR X (compareOp op) r) (ha:QE X a ta) (hb:QE X b tb) (hm:behindInMarks op b=false):QT X (.Compare a [op] [b] pos) (jn (tOp r ta tb)):=⟨pt_cmpR ho ha.h hb.h hm⟩
end
section
variable {X:Cx} {a b c:Expr} {ta tb tc:TE} {pos:Pos}
theorem kX {op op':CmpOp} {r r':R2} (ho:OpR X (compareOp op) r) (ho':OpR X (compareOp op') r') (ha:QE X a ta) (hb:QE X b tb) (hc:QE X c tc) (hm:lastMarks [op,op'] [b,c]=false:=by with_unfolding_all rfl):QT X (.Compare a [op,op'] [b,c] pos) (jn (jh r r' ta tb tc)):=⟨pt_chain ho ho' ha.h hb.h hc.h hm⟩
end
section
theorem jO {X:Cx} {e:Expr} {t:TT} (h:QW X e t):QT X e t:=⟨PW.pt h.h⟩
end
section
variable {X:Cx}
variable {a b:Expr} {pos:Pos}
variable {tA tB':TT} {rest:List Expr}
theorem ZN (ha:QT X a tA) (hb:QW X (.BoolOp .And (b::rest) pos) tB'):QW X (.BoolOp .And (a::b::rest) pos) (tAnd tA tB'):=⟨pw_and ha.h hb.h⟩
end
section
variable {X:Cx}
variable {a:Expr} {pos:Pos}
variable {tA:TT}
theorem kW (ha:QT X a tA):QW X (.BoolOp .And [a] pos) tA:=⟨pw_and1 ha.h⟩
end
section
variable {X:Cx}
variable {a b:Expr} {pos:Pos}
variable {tA tB':TT} {rest:List Expr}
theorem Q5 (ha:QT X a tA) (hb:QW X (.BoolOp .Or (b::rest) pos) tB'):QW X (.BoolOp .Or (a::b::rest) pos) (tOr tA tB'):=⟨pw_or ha.h hb.h⟩
end
section
variable {X:Cx}
variable {a:Expr} {pos:Pos}
variable {tA:TT}
theorem jP (ha:QT X a tA):QW X (.BoolOp .Or [a] pos) tA:=⟨pw_or1 ha.h⟩
end
section
variable {X:Cx}
variable {a:Expr} {pos:Pos}
variable {tA:TT}
theorem jk (ha:QT X a tA):QT X (.UnaryOp .Not a pos) (tNot tA):=⟨pt_not ha.h⟩
end
section
variable {X:Cx}
variable {pos:Pos}
theorem jj {e:Expr} {t:TE} (h:QE X e t) (he:∀whole,isTrue e X.env whole=(do let v <-whole; standAt e.pos; holding [v] (truthy v)):=by intro _; rfl):QT X e (tB t):=⟨pt_val h.h he⟩
end
section
variable {X:Cx}
theorem xy {j pos}:QE X (.Constant .none j pos) (tC .non):=⟨pe_non ⟩
end
section
variable {X:Cx}
theorem Q7 {b j pos}:QE X (.Constant (.bool b) j pos) (tC (.bl b)):=⟨pe_bl ⟩
end
section
variable {X:Cx}
theorem qe {i j pos}:QE X (.Constant (.int i) j pos) (tC (.int i)):=⟨pe_int ⟩
end
section
variable {X:Cx}
theorem qo {x j pos}:QE X (.Constant (.str x) j pos) (tC (.str x)):=⟨pe_str ⟩
end
section
variable {X:Cx}
theorem qv (i:Nat) {x:Str} {pos:Pos} (hN:X.N[i]?=some x:=by rfl) (hv:Vis X.env.scope x:=by first|exact Or.inl rfl|exact Or.inr (Or.inl rfl)|exact Or.inr (Or.inr rfl)) (hd:(x==("__debug__" : Str))=false:=by decide) (hcd:(x==("__classdict__" : Str))=false:=by decide):QE X (.Name x pos) (tVar i):=⟨pv i hN hv hd hcd⟩
end
section
variable {X:Cx} {a b:Expr} {ta tb:TE} {pos:Pos}
theorem qx {op:Operator} {r:R2} (ho:OpR X (binaryOp op) r) (ha:QE X a ta) (hb:QE X b tb):QE X (.BinOp a op b pos) (tOp r ta tb):=⟨pe_op ho ha.h hb.h⟩
end
section
variable {X:Cx} {a b:Expr} {ta tb:TE} {pos:Pos}
theorem vX {op:CmpOp} {r:R2} (ho:OpR X (compareOp op) r) (ha:QE X a ta) (hb:QE X b tb) (hm:behindInMarks op b=false):QE X (.Compare a [op] [b] pos) (tOp r ta tb):=⟨pe_cmpR ho ha.h hb.h hm⟩
end
section
variable {X:Cx}
variable {a:Expr} {pos:Pos}
theorem ZU {op} {t:TE} (h:QE X a t):QE X (.BoolOp op [a] pos) t:=⟨pe_one h.h⟩
end
section
variable {X:Cx}
variable {a b:Expr} {ta tb:TE} {pos:Pos}
variable {rest:List Expr}
theorem ZV (ha:QE X a ta) (hb:QE X (.BoolOp .And (b::rest) pos) tb):QE X (.BoolOp .And (a::b::rest) pos) (QU ta tb):=⟨pe_and ha.h hb.h⟩
end
section
variable {X:Cx}
variable {a b:Expr} {ta tb:TE} {pos:Pos}
variable {tA:TT}
theorem jE {c:Expr} (hc:QT X c tA) (ha:QE X a ta) (hb:QE X b tb):QE X (.IfExp c a b pos) (tIf tA ta tb):=⟨pe_ifExp hc.h ha.h hb.h⟩
end
section
variable {X:Cx} {es:List Expr} {t:TA} {pos:Pos}
theorem vf (h:QA X es t):QE X (.List es pos) (tLst t):=⟨pe_lst h.h⟩
end
section
variable {X:Cx} {es:List Expr} {t:TA} {pos:Pos}
theorem kq {x1} (h:QA X es t):QE X (.Tuple es x1 pos) (tTup t):=⟨pe_tup h.h⟩
end
section
variable {X:Cx} {e:Expr} {te:TE} {lo hi:Option Expr} {tl th:TO} {pos p2:Pos}
theorem qK {r:V->Option Int->Option Int->Hp->VK->Prop} (hr:SlR X r) (he:QE X e te) (hl:QO X lo tl) (hu:QO X hi th):QE X (.Subscript e (.Slice lo hi none p2) pos) (tSl r te tl th):=⟨pe_slice hr he.h hl.h hu.h⟩
end
section
variable {X:Cx} {e:Expr} {te:TE}
theorem qQ (h:QE X e te):QO X (some e) (QQ te):=⟨po_some h.h⟩
end
section
variable {X:Cx}
theorem qR  : QO X none zB:=⟨po_none ⟩
end
section
variable {X:Cx} {a b:Expr} {ta tb:TE} {pos:Pos}
theorem qY {r:R2} (hr:IxR X r) (ha:QE X a ta) (hb:QE X b tb) (hs:Yw b):QE X (.Subscript a b pos) (tOp r ta tb):=⟨pe_ix hr ha.h hb.h hs⟩
end
section
variable {X:Cx} {o i:Expr} {pos:Pos} {td ty:TE}
theorem JU (hu:X.A.units+1<cLine) (ho:QE X o td) (hi:QE X i ty) (hs:NoSl i):QE X (.Subscript o i pos) (tDGet td ty):=⟨pe_dget hu ho.h hi.h hs⟩
end
section
variable {X:Cx} {elt tg iter:Expr} {ifs:List Expr} {scope:Scope} {bs:List Bool} {ext:List Str} {pos:Pos} {wi:TI} {g:TG} {tt:TT} {te:TE}
theorem Q6 (bs:List Bool) (ext:List Str) (hi:QI X tg iter wi) (hg:∀fp s H,QG (cxB X scope ext fp s H) tg g) (ht:∀fp s H,QTs (cxB X scope ext fp s H) ifs tt) (he:∀fp s H,QE (cxB X scope ext fp s H) elt te) (hk:zS scope X.env X.N bs=true:=by rfl) (hc:X.calm=true:=by rfl) (hs:∀x,foldedSetIterable iter X.env x=pure x:=by intro _; rfl):QE X (.ListComp elt [⟨tg,iter,ifs,0⟩] scope pos) (xu wi bs ext.length g tt te):=⟨pe_lc bs ext hi.h (fun fp s H=>(hg fp s H).h) (fun fp s H=>(ht fp s H).h) (fun fp s H=>(he fp s H).h) hk hc hs⟩
end
section
theorem qe_disp {X:Cx} {pos:Pos} {keys:List (Option Expr)} {values:List Expr} {trs:List (TE×TE)} (h:QPs X pos keys values trs) (hall:keys.all (·.isSome)=true) (hl:keys.length=values.length) (h0:keys≠[]) (h15:keys.length<=15):QE X (.Dict keys values pos) (tDisp trs):=⟨pe_disp h.h hall hl h0 h15⟩
end
section
theorem qps_nil {X:Cx} {pos:Pos}:QPs X pos [] [] []:=⟨pps_nil ⟩
end
section
theorem kY {X:Cx} {pos:Pos} {k v:Expr} {ks:List (Option Expr)} {vs:List Expr} {tk tv:TE} {trs:List (TE×TE)} (hk:QE X k tk) (hv:QE X v tv) (hr:QPs X pos ks vs trs):QPs X pos (some k::ks) (v::vs) ((tk,tv)::trs):=⟨pps_cons hk.h hv.h hr.h⟩
end
section
variable {X:Cx} {x:Str} {k:Nat} {ps:List Str} {sp:Sp} {p pos:Pos} {e:Expr} {es:List Expr} {t:TA}
theorem qw (D:Def X.prog X.w X.K X.mg X.base x k ps sp) (hr:Room k X.A) (ha:QA X (e::es) t) (hg:Gl X x:=by rfl) (hdb:(x==("__debug__" : Str))=false:=by decide) (he:starEach (e::es) X.env=(false,eval e X.env)::starEach es X.env:=by rfl) (hpl:(backTo pos (starEach es X.env)).any (·.1)=false:=by rfl):QE X (.Call (.Name x p) (e::es) [] pos) (xw sp [] E0 t):=⟨pe_def D hr ha.h hg hdb he hpl⟩
end
section
variable {X:Cx} {x:Str} {k:Nat} {ps:List Str} {sp:Sp} {p pos:Pos}
theorem kZ (D:Def X.prog X.w X.K X.mg X.base x k ps sp) (hr:Room k X.A) (hg:Gl X x:=by rfl) (hdb:(x==("__debug__" : Str))=false:=by decide):QE X (.Call (.Name x p) [] [] pos) (xw sp [] E0 tNil):=⟨pe_def0 D hr hg hdb⟩
end
section
variable {X:Cx} {x:Str} {p pos:Pos} {e:Expr} {es:List Expr} {t:TA} {id:String} {r:List V->Hp->VK->Prop}
theorem qr (hc:zd X (.builtin id) r) (hg:Gl X x) (hm:X.mg x=none) (hv:bootBuiltins x=some (.builtin id)) (ha:QA X (e::es) t) (hn:x ≠ "__name__" := by decide) (hdb:(x==("__debug__" : Str))=false:=by decide) (he:starEach (e::es) X.env=(false,eval e X.env)::starEach es X.env:=by rfl) (hpl:(backTo pos (starEach es X.env)).any (·.1)=false:=by rfl):QE X (.Call (.Name x p) (e::es) [] pos) (tCB r t):=⟨pe_callB hc hg hm hv ha.h hn hdb he hpl⟩
end
section
variable {X:Cx} {x:Str} {p pos:Pos} {e:Expr} {es:List Expr} {t:TA} {T:String} {r:List V->Hp->VK->Prop}
theorem vk (hc:zd X (.type T) r) (hg:Gl X x) (hm:X.mg x=none) (hv:bootBuiltins x=some (.type T)) (ha:QA X (e::es) t) (hn:x ≠ "__name__" := by decide) (hdb:(x==("__debug__" : Str))=false:=by decide) (he:starEach (e::es) X.env=(false,eval e X.env)::starEach es X.env:=by rfl) (hpl:(backTo pos (starEach es X.env)).any (·.1)=false:=by rfl):QE X (.Call (.Name x p) (e::es) [] pos) (tCB r t):=⟨JX hc hg hm hv ha.h hn hdb he hpl⟩
end
section
variable {X:Cx}
theorem vC {x:Str} {v:V} {u:Value} {pos:Pos} (hg:Gl X x) (hm:X.mg x=none) (hv:bootBuiltins x=some u) (r:RelV v u) (hn:x ≠ "__name__" := by decide) (hd:(x==("__debug__" : Str))=false:=by decide):QE X (.Name x pos) (tC v):=⟨pe_bltn hg hm hv r hn hd⟩
end
section
variable {X:Cx}
variable {o e:Expr} {es:List Expr} {to:TE} {t:TA} {name:Str} {apos cpos:Pos} {T id:String} {r:V->List V->Hp->VK->Prop}
theorem jo (pa:PlainAttrs T) (slot:Slot T name id) (hty:typeOf (.builtin id)=pure (.type "method_descriptor")) (hm:MtR X id r) (ho:QE X o to) (ha:QA X (e::es) t) (hbase:attributeBase o name X.env (eval o X.env)=eval o X.env:=by rfl) (hfew:((backTo cpos (starEach (e::es) X.env)).all (fun x => !x.1)&&(backToKw cpos (keywordEach [] X.env)).all (fun x=>x.1.isSome)
   && decide ((e::es).length+([]:List Keyword).length+(if([]:List Keyword).isEmpty then 0 else 1)<30))=true:=by rfl) (hline:(apos.endLine==cpos.line)=true:=by rfl) (hs:starEach (e::es) X.env=(false,eval e X.env)::starEach es X.env:=by rfl) (hplain:(backTo cpos (starEach es X.env)).any (·.1)=false:=by rfl):QE X (.Call (.Attribute o name apos) (e::es) [] cpos) (tBM X.K T r to t):=⟨pe_bm pa slot hty hm ho.h ha.h hbase hfew hline hs hplain⟩
end
section
variable {X:Cx}
variable {o:Expr} {to:TE} {name:Str} {apos cpos:Pos} {T id:String} {r:V->List V->Hp->VK->Prop}
theorem qe_bm0 (pa:PlainAttrs T) (slot:Slot T name id) (hty:typeOf (.builtin id)=pure (.type "method_descriptor")) (hm:MtR X id r) (ho:QE X o to) (hbase:attributeBase o name X.env (eval o X.env)=eval o X.env:=by rfl) (hline:(apos.endLine==cpos.line)=true:=by rfl):QE X (.Call (.Attribute o name apos) [] [] cpos) (tBM0 X.K T r to):=⟨pe_bm0 pa slot hty hm ho.h hbase hline⟩
end
section
variable {X:Cx}
theorem qe_lm {o e:Expr} {es:List Expr} {to:TE} {t:TA} {name:Str} {apos cpos:Pos} {id:String} {r:V->List V->Hp->VK->Prop} (slot:Slot "list" name id) (hty:typeOf (.builtin id)=pure (.type "method_descriptor")) (hm:MtR X id r) (ho:QE X o to) (ha:QA X (e::es) t) (hbase:attributeBase o name X.env (eval o X.env)=eval o X.env:=by rfl) (hfew:((backTo cpos (starEach (e::es) X.env)).all (fun x => !x.1)&&(backToKw cpos (keywordEach [] X.env)).all (fun x=>x.1.isSome)
   && decide ((e::es).length+([]:List Keyword).length+(if([]:List Keyword).isEmpty then 0 else 1)<30))=true:=by rfl) (hline:(apos.endLine==cpos.line)=true:=by rfl) (hs:starEach (e::es) X.env=(false,eval e X.env)::starEach es X.env:=by rfl) (hplain:(backTo cpos (starEach es X.env)).any (·.1)=false:=by rfl):QE X (.Call (.Attribute o name apos) (e::es) [] cpos) (tLM r to t):=⟨pe_lm slot hty hm ho.h ha.h hbase hfew hline hs hplain⟩
end
section
theorem JT {X:Cx} {x:Str} {n:Int} {pos:Pos} (G:GInt X.mg x n) (hg:Gl X x) (hd:(x==("__debug__" : Str))=false:=by decide):QE X (.Name x pos) (tC (.int n)):=⟨pe_gint G hg hd⟩
end
section
variable {X:Cx} {pos:Pos}
theorem zL {x:Str} {v:V} {u:Value} {pos:Pos} (hg:Gl X x) (hm:X.mg x=some u) (r:RelV v u) (hd:(x==("__debug__" : Str))=false:=by decide):QE X (.Name x pos) (tC v):=⟨VS hg hm r hd⟩
end
def Obk (h h':Heap):Prop:=∀(b:Nat) (o:Obj),h.objs[b]?=some o->∃o',h'.objs[b]?=some o'/\o'.dict=o.dict
theorem Obk.refl (h:Heap):Obk h h:=fun b o e=>⟨o,e,rfl⟩
theorem Obk.trans {h h' h'':Heap} (x:Obk h h') (y:Obk h' h''):Obk h h'':=fun b o e=>by
 obtain⟨o',e',d'⟩:=x b o e
 obtain⟨o2,e2,d2⟩:=y b o' e'
 exact⟨o2,e2,d2.trans d'⟩
theorem Obk.push (h:Heap) (o:Obj):Obk h (h.push o):=fun b u e=>⟨u,by
 have hb:b<h.objs.size:=(Array.getElem?_eq_some_iff.mp e).1
 cases h
 simp only[Heap.push] at e hb ⊢
 rw[Array.getElem?_push,if_neg (Nat.ne_of_lt hb)]; exact e,rfl⟩
theorem Obk.update (h:Heap) (a:Addr) {f:Obj->Obj} (hf:∀o,(f o).dict=o.dict):Obk h (h.update a f):=fun b u e=>by
 cases h
 simp only[Heap.update] at e ⊢
 rw[Array.getElem?_modify]
 split
 ·exact⟨f u,by rw[e]; rfl,hf u⟩
 ·exact⟨u,e,rfl⟩
theorem Obk.get {h h':Heap} {a d:Addr} {o o':Obj} (x:Obk h h') (e:h.get? a=some o) (e':h'.get? a=some o'):o'.dict=o.dict:=by
 obtain⟨u,eu,du⟩:=x a o (Heap.get?_some_iff.mp e).1
 rw[(Heap.get?_some_iff.mp e').1] at eu
 cases eu
 exact du
def DK {α:Type}:Sem α->Prop
 |.pure _=>True
 |.raise _=>True
 |.unsupported _=>True
 |.finish _=>True
 |.rule _ k=>DK (k ())
 |.at _ k=>DK (k ())
 |.load _ _ k=>∀o,DK (k o)
 |.update _ _ f k=>(∀o,(f o).dict=o.dict)/\DK (k ())
 |.alloc _ k=>∀a,DK (k a)
 |.loadIfAlive _ k=>∀o,DK (k o)
 |.point _ k=>DK (k ())
 |.register _ _=>True
 |.fresh k=>∀t,DK (k t)
 |.ask k=>∀x,DK (k x)
 |.choose _ _ k=>∀n,DK (k n)
 |.os _ _ k=>∀r,DK (k r)
 |.call _ _ _ _ _=>False
 |.handled _ k=>∀x,DK (k x)
 |.newGen _ k=>∀n,DK (k n)
 |.genState _ k=>∀x,DK (k x)
 |.resume _ _ _ _=>False
 |.yield _ _ _ _=>True
 |.stack k=>∀l,DK (k l)
 |.fork _ _=>True
 |.thread k=>∀n,DK (k n)
 |.await _ _ _ _ _=>True
theorem DK.wp {α:Type} {M:Model} {Γ:PySem.Ctx}:∀{t:Sem α} {Q:α->Pos->Shared->Prop} {E:Value->Pos->Shared->Prop} {p:Pos} {s:Shared},DK t->Sem.wp M Γ t Q E p s ->
  Sem.wp M Γ t (fun a p' s'=>Q a p' s'/\Obk s.heap s'.heap) (fun e p' s'=>E e p' s'/\Obk s.heap s'.heap) p s:=by
 intro t
 induction t with
 |pure a=>intro Q E p s _ h; rw[Sem.wp] at h ⊢; exact⟨h, .refl _⟩
 |raise e=>intro Q E p s _ h; rw[Sem.wp] at h ⊢; exact⟨h, .refl _⟩
 |unsupported x=>intro Q E p s _ h; rw[Sem.wp] at h; exact h.elim
 |finish x=>intro Q E p s _ h; rw[Sem.wp] at h; exact h.elim
 |rule x k ih=>intro Q E p s d h; rw[Sem.wp] at h ⊢; exact ih () d h
 | «at» x k ih=>intro Q E p s d h; rw[Sem.wp] at h ⊢; exact ih () d h
 |load a x k ih=>intro Q E p s d h; rw[Sem.wp] at h ⊢; obtain⟨o,e,h⟩:=h; exact⟨o,e,ih o (d o) h⟩
 |update a x f k ih =>
  intro Q E p s d h; rw[Sem.wp] at h ⊢
  refine⟨h.1,Sem.wp_mono M Γ _ (fun a p' s' z=>⟨z.1,(Obk.update _ _ d.1).trans z.2⟩) (fun a p' s' z=>⟨z.1,(Obk.update _ _ d.1).trans z.2⟩) _ _ (ih () d.2 h.2)⟩
 |alloc o k ih =>
  intro Q E p s d h; rw[Sem.wp] at h ⊢
  exact Sem.wp_mono M Γ _ (fun a p' s' z=>⟨z.1,(Obk.push _ _).trans z.2⟩) (fun a p' s' z=>⟨z.1,(Obk.push _ _).trans z.2⟩) _ _ (ih _ (d _) h)
 |loadIfAlive a k ih=>intro Q E p s d h; rw[Sem.wp] at h ⊢; exact ih _ (d _) h
 |point x k ih=>intro Q E p s d h; rw[Sem.wp] at h ⊢; exact ih () d h
 |register a k ih=>intro Q E p s d h; rw[Sem.wp] at h; exact h.elim
 |fresh k ih=>intro Q E p s d h; rw[Sem.wp] at h ⊢; exact ih _ (d _) h
 |ask k ih=>intro Q E p s d h; rw[Sem.wp] at h ⊢; exact ih _ (d _) h
 |choose x n k ih=>intro Q E p s d h; rw[Sem.wp] at h ⊢; exact⟨h.1,ih _ (d _) h.2⟩
 |os q l k ih=>intro Q E p s d h; rw[Sem.wp] at h ⊢; exact ih _ (d _) h
 |call c x g l k ih=>intro Q E p s d h; exact d.elim
 |handled x k ih=>intro Q E p s d h; rw[Sem.wp] at h ⊢; exact ih _ (d _) h
 |newGen c k ih=>intro Q E p s d h; rw[Sem.wp] at h ⊢; exact ih _ (d _) h
 |genState g k ih=>intro Q E p s d h; rw[Sem.wp] at h ⊢; obtain⟨o,e,h⟩:=h; exact⟨o,e,ih _ (d _) h⟩
 |resume g r l k ih=>intro Q E p s d h; exact d.elim
 |yield v g l k ih=>intro Q E p s d h; rw[Sem.wp] at h; exact h.elim
 |stack k ih=>intro Q E p s d h; rw[Sem.wp] at h ⊢; exact ih _ (d _) h
 |fork c k ih=>intro Q E p s d h; rw[Sem.wp] at h; exact h.elim
 |thread k ih=>intro Q E p s d h; rw[Sem.wp] at h ⊢; exact ih _ (d _) h
 |await a f b l k ih=>intro Q E p s d h; rw[Sem.wp] at h; exact h.elim
theorem DK.any {α:Type} {M:Model} {A:Around} {t:Sem α} {Q:α->Shared->Prop} {E:Value->Shared->Prop} {s:Shared} (d:DK t) (h:wpAny M A t Q E s) :
  wpAny M A t (fun a s'=>Q a s'/\Obk s.heap s'.heap) (fun e s'=>E e s'/\Obk s.heap s'.heap) s:=fun Γ p hΓ=>DK.wp d (h Γ p hΓ)
theorem DK.bind {α β:Type} {f:α->Sem β}:∀{m:Sem α},DK m->(∀a,DK (f a))->DK (m >>= f):=by
 intro m
 show DK m->_->DK (m.bind f)
 induction m with
 |pure a=>intro _ h; exact h a
 |update a x g k ih=>intro d h; exact⟨d.1,ih () d.2 h⟩
 |raise e=>intro _ _; trivial
 |unsupported x=>intro _ _; trivial
 |finish x=>intro _ _; trivial
 |rule x k ih=>intro d h; exact ih () d h
 | «at» x k ih=>intro d h; exact ih () d h
 |load a x k ih=>intro d h o; exact ih o (d o) h
 |alloc o k ih=>intro d h o; exact ih o (d o) h
 |loadIfAlive a k ih=>intro d h o; exact ih o (d o) h
 |point x k ih=>intro d h; exact ih () d h
 |register a k ih=>intro _ _; trivial
 |fresh k ih=>intro d h o; exact ih o (d o) h
 |ask k ih=>intro d h o; exact ih o (d o) h
 |choose x n k ih=>intro d h o; exact ih o (d o) h
 |os q l k ih=>intro d h o; exact ih o (d o) h
 |call c x g l k ih=>intro d h; exact d.elim
 |handled x k ih=>intro d h o; exact ih o (d o) h
 |newGen c k ih=>intro d h o; exact ih o (d o) h
 |genState g k ih=>intro d h o; exact ih o (d o) h
 |resume g r l k ih=>intro d h; exact d.elim
 |yield v g l k ih=>intro _ _; trivial
 |stack k ih=>intro d h o; exact ih o (d o) h
 |fork c k ih=>intro _ _; trivial
 |thread k ih=>intro d h o; exact ih o (d o) h
 |await a f b l k ih=>intro _ _; trivial
theorem Zd (a:Addr):DK (load a):=fun _=>trivial
theorem dk_stack:DK stack:=fun _=>trivial
theorem Vo (a:Addr) {f:Obj->Obj} (h:∀o,(f o).dict=o.dict):DK (update a f):=⟨h,trivial⟩
theorem Vq (f:Array Value->Array Value) (o:Obj):(Obj.mapFields f o).dict=o.dict:=by
 unfold Obj.mapFields
 split<;>rfl
theorem Ze (v:Value):DK (fieldsOf v):=by
 unfold fieldsOf
 split
 ·refine(Zd _).bind fun o=>?_
  split<;>trivial
 ·trivial
theorem jG (v:Value) (i:Nat):DK (field v i):=by
 unfold field
 refine(Ze v).bind fun o=>?_
 split<;>trivial
theorem xF (v:Value) (i:Nat) (x:Value):DK (setField v i x):=by
 unfold setField
 split
 ·unfold updateField
  refine(Zd _).bind fun o=>?_
  split
  ·split
   ·exact Vo _ (Vq _)
   ·trivial
  ·trivial
 ·trivial
theorem zR (e:Value) (f:Option Addr):DK (setFlight e f):=by
 unfold setFlight
 refine(jG _ _).bind fun o=>?_
 split
 ·exact xF _ _ _
 ·trivial
theorem Vp (ty:String) (vs:List Value):DK (newFields ty vs):=by
 unfold newFields newObj
 dsimp only
 split
 ·trivial
 ·unfold newObjAsIs
  exact fun a=>trivial
theorem K4 (env:Env) (l:List Env):DK (behindIsImport env l):=by
 unfold behindIsImport
 split
 ·trivial
 ·split
  ·trivial
  ·exact(jG _ _).bind fun _=>trivial
theorem dk_kept (env:Env) (b:Bool) (l:List Env):DK (keptBack env b l):=by
 unfold keptBack
 split
 ·split
  ·trivial
  ·unfold underTheClaimsCaller
   exact DK.bind (dk_stack.bind fun _=>trivial) fun _=>trivial
 ·trivial
theorem Xe:∀l:List Env,DK (readyFrames l)
 | []=>by unfold readyFrames; trivial
 |env::outer=>by
  unfold readyFrames
  split
  ·refine(Zd _).bind fun o=>?_
   split
   ·trivial
   ·refine(K4 _ _).bind fun _=>(dk_kept _ _ _).bind fun _=>DK.bind ?_ fun _=>Xe outer
    exact Vo _ fun o=>rfl
  ·trivial
theorem X2 (env:Env):DK (PySem.frameOf env):=by
 unfold PySem.frameOf frameEnvs
 refine DK.bind (dk_stack.bind fun _=>trivial) fun l=>DK.bind ?_ fun x=>?_
 ·unfold frameObject
  split
  ·trivial
  ·exact(Xe _).bind fun _=>trivial
 ·split<;>trivial
theorem dk_place (f:Addr) (b:Bool):DK (entryPlaceOf f b):=by
 unfold entryPlaceOf
 refine dk_stack.bind fun l=>?_
 split<;>trivial
theorem Zc (e:Value) (env:Env):DK (noteFrame e env):=by
 unfold noteFrame
 have k:∀f head,DK (do setField e 1 (<-EntryCells.newEntry head (<-PySem.frameOf env) .none (rawInt f) .none (<-entryPlaceOf f (head != .none))):Sem Unit):=fun f head =>
  (X2 _).bind fun _=>(dk_place _ _).bind fun _=>DK.bind (by unfold EntryCells.newEntry; exact Vp _ _) fun _=>xF _ _ _
 split
 ·refine(jG _ _).bind fun head=>?_
  split
  ·refine(jG _ _).bind fun _=>?_
   split
   ·trivial
   ·exact(xF _ _ _).bind fun _=>k _ _
  ·exact k _ _
 ·trivial
theorem jc (env:Env) (e:Value):DK (leaving env e):=by
 unfold leaving
 exact(Zc _ _).bind fun _=>zR _ _
end L2
namespace PySem.W
section
variable {C:Addr}
abbrev excOb (C:Addr) (d:Option Addr) (t:Addr):Obj:={ cls:=.ref C,dict:=d,data:=.fields #[.ref t, .none, .none, .none, .bool false, .none] }
end
end PySem.W
namespace L2
open PySem PySem.Spec PyProof.Rows
def ExcAt (a C:Addr) (d:Option Addr):Heap->Prop:=fun h=>∃t,h.get? a=some (PySem.W.excOb C d t)
abbrev excO (a C:Addr) (d:Option Addr):HO:=.ext (ExcAt a C d)
theorem excO_ok {P:Program} {w:World} {H:Hp} {h:Heap} {a C:Addr} {d:Option Addr} {t:Addr} (e:h.get? a=some (PySem.W.excOb C d t)):ObjOk P w H h a (excO a C d) :=
 ⟨⟨t,e⟩,⟨_,e⟩,fun h1 h2 ⟨t',e'⟩ k=>⟨t',k _ e'⟩⟩
theorem excO_get {P:Program} {w:World} {H:Hp} {h:Heap} {a C:Addr} {d:Option Addr} (x:HOk P w H h) (e:H a=some (excO a C d)):∃t,h.get? a=some (PySem.W.excOb C d t):=(x a _ e).1
section
variable {P:Program} {w:World} {H:Hp} {h h':Heap}
theorem HOk.tracked (x:HOk P w H h) (k:∀b u,H b≠none->h.get? b=some u->h'.get? b=some u):HOk P w H h':=fun a o e =>
 (x a o e).stay (fun b u hb q=>k b u (hb.elim (fun z=>by rw[z,e]; simp) fun z=>by rw[z]; simp) q) (fun _ q=>q) fun _ _ q=>q
end
structure Fli (P:Program) (w:World) (outer:List Env) (H:Hp) (s:Shared) (a:Addr) (C:Value) (d:Option Addr) (H':Hp) (s':Shared):Prop where
 own:∀o,s'.heap.get? a=some o->o.dict=d
 os:s'.os=s.os
 bare:AllBare s'.gens
 fly:∃(B:Heap) (a0:Value),Heap.FlyingW B outer a C a0 s'.heap/\HOk P w H' B/\(∀b∈frs outer,B.get? b=none)/\(∀b o,s.heap.get? b=some o->H b=none->b∉frs outer->B.get? b=some o) /\
  ∀b o,s.heap.get? b=some o->H b≠none->∃o',B.get? b=some o'
 up:∀b o,s.heap.get? b=some o->H b=none->b∈frs outer->∃sl,s'.heap.get? b=some { o with slots:=sl }
 free:∀b o,s.heap.get? b=some o->H b=none->H' b=none
 tups:∀b xs,H b=some (.tup xs)->H' b=some (.tup xs)
 frzs:∀b o u,H b=some (.frz o u)->H' b=some (.frz o u)
 tbls:∀b ps,H b=some (.tbl ps)->∃more,H' b=some (.tbl (ps++more))
def CXe (P:Program) (w:World):CXT:=fun outer H s E e s'=>∃a C d H',e=.ref a/\Fli P w outer H s a C d H' s'/\E C d H'
theorem CXe.mono {P:Program} {w:World} {outer:List Env} {H:Hp} {s s':Shared} {E E':XK} {e:Value} (h:CXe P w outer H s E e s') (k:∀C d H',E C d H'->E' C d H'):CXe P w outer H s E' e s':=by
 obtain⟨a,C,d,H',e1,f,q⟩:=h
 exact⟨a,C,d,H',e1,f,k C d H' q⟩
structure Body (X:Cx) (outer:List Env):Prop where
 stk:X.stack=X.env::outer
 out:X.outer=outer
 fr:X.env.frame=some X.env.locals
 ex:X.ex=[]
section
variable {X:Cx} {outer:List Env} {pins:List (Addr×Obj)} {σ:St} {H:Hp} {s:Shared}
theorem Inv.old (I:Inv X pins σ H s) {b:Addr} {o:Obj} (q:X.s₀.heap.get? b=some o):b≠X.env.locals:=fun z=>by
 subst z
 exact absurd (Heap.lt_size q) (Nat.not_lt.mpr I.ok.above)
theorem Body.mem (Y:Body X outer) {b:Addr} (hb:b∈frs X.stack):b=X.env.locals\/b∈frs outer:=by
 rw[Y.stk] at hb
 obtain⟨env,he,hf⟩:=List.mem_filterMap.mp hb
 rcases List.mem_cons.mp he with rfl|he
 ·rw[Y.fr] at hf; exact .inl (Option.some.inj hf).symm
 ·exact .inr (List.mem_filterMap.mpr ⟨env,he,hf⟩)
theorem Body.in_ (Y:Body X outer) {b:Addr} (hb:b∈frs outer):b∈frs X.stack:=by
 rw[Y.stk]
 obtain⟨env,he,hf⟩:=List.mem_filterMap.mp hb
 exact List.mem_filterMap.mpr ⟨env, .tail _ he,hf⟩
def untr (H:Hp) (a:Addr):Hp:=fun b=>if b=a then none else H b
theorem xV {H:Hp} {a b:Addr} (h:b≠a):untr H a b=H b:=by unfold untr; rw[if_neg h]
theorem Jd {H:Hp} {a:Addr}:untr H a a=none:=by unfold untr; rw[if_pos rfl]
theorem HOk.untr {P:Program} {w:World} {H:Hp} {h h':Heap} {a:Addr} {φ:Heap->Prop} (x:HOk P w H h) (ea:H a=some (.ext φ)) (k:∀b u,b≠a->H b≠none->h.get? b=some u->h'.get? b=some u):HOk P w (untr H a) h':=fun b o e=>by
 have hb:b≠a:=fun z=>by rw[z,Jd] at e; cases e
 rw[xV hb] at e
 refine(x b o e).stay (fun c u hc q=>?_) (fun c hc=>?_) fun c xs hc=>?_
 ·rcases hc with rfl|hc
  ·exact k _ u hb (by rw[e]; simp) q
  ·exact k c u (fun z=>by rw[z,ea] at hc; cases hc) (by rw[hc]; simp) q
 ·rw[xV fun z=>by rw[z,ea] at hc; cases hc]; exact hc
 ·rw[xV fun z=>by rw[z,ea] at hc; cases hc]; exact hc
theorem jX (Y:Body X outer) (I:Inv X pins σ H s) {e C:Addr} {d:Option Addr} {E:XK} {R:Value->Shared->Prop} {M:Model} {A:Around} (hA:A.frames=some X.stack) (hx:H e=some (excO e C d)) (he0:X.s₀.heap.get? e=none) (hE:E (.ref C) d (untr H e)) :
  wpAny M A (leaving X.env (.ref e)) (fun _ s''=>CXe X.prog X.w outer X.H₀ X.s₀ E (.ref e) s'') R s:=by
 obtain⟨t0,hge⟩:=excO_get I.hok hx
 have hin:∀env∈X.stack,∀b,env.frame=some b->b∈e::frs X.stack:=fun env he b hb=>.tail _ (List.mem_filterMap.mpr ⟨env,he,hb⟩)
 have hl:s.heap.FunFrames (PySem.W.hideAll s.heap (e::frs X.stack)) X.stack:=PySem.W.funFrames_hide I.stack hin
 rw[Y.stk] at hA
 have ob:∀b o,X.s₀.heap.get? b=some o->b∉frs outer->b∉e::frs X.stack:=fun b o q n z=>by
  rcases List.mem_cons.mp z with rfl|z
  ·rw[he0] at q; cases q
  ·rcases Y.mem z with z|z
   ·exact I.old q z
   ·exact n z
 have nx:∀b,b∉X.ex:=fun b=>by rw[Y.ex]; simp
 have fs:∀b,b∈frs outer↔b∈X.fs:=fun b=>by show _↔b∈frs X.outer; rw[Y.out]
 refine wpAny_mono (DK.any (jc _ _) (wpAny_leaving_firstW (base:=PySem.W.hideAll s.heap (e::frs X.stack)) hA (by rw[<-Y.stk]; exact hl) Y.fr hge (fun b o q=>PySem.W.of_hideAll _ q) (PySem.W.hideAll_none _ (.head _)) rfl rfl rfl (Q:=fun _ s'=>Heap.LeftW (PySem.W.hideAll s.heap (e::frs X.stack)) (X.env::outer) e (.ref C) (.ref t0) s.heap s'.heap/\∃h',s'={ s with heap:=h' }) fun h' q=>⟨q,h',rfl⟩)) (fun _ s' q=>?_) fun _ _ q=>q.1
 obtain⟨⟨⟨k1,⟨_,_,k2⟩,k3,k4⟩,h',rfl⟩,kd⟩:=q
 refine⟨e, .ref C,d,untr H e,rfl,⟨?_,I.os,I.bare,⟨_, .ref t0,⟨k1,PySem.W.hideAll_none _ (.head _),k2,k3⟩, ?_, ?_, ?_, ?_⟩, ?_, ?_, ?_, ?_, ?_⟩,hE⟩
 ·exact fun o q=>(kd.get (d:=0) hge q)
 ·exact I.hok.untr hx fun b u hb hb0 q=>PySem.W.hideAll_get _ q fun hm=>by
   rcases List.mem_cons.mp hm with z|hm
   ·exact hb z
   ·exact hb0 (I.stkFree b hm)
 ·exact fun b hb=>PySem.W.hideAll_none _ (.tail _ (Y.in_ hb))
 ·exact fun b o q n hb=>PySem.W.hideAll_get _ (I.base.keep b o q n (fun z=>hb ((fs b).mpr z)) (nx b)) (ob b o q hb)
 ·intro b o q n
  obtain⟨o',e1⟩:=I.base.there b o q (nx b)
  refine⟨o',PySem.W.hideAll_get _ e1 (ob b o q fun z=>n (I.ok.frf b ((fs b).mp z)))⟩
 ·intro b o q n hb
  obtain⟨sl,e1⟩:=I.base.slot b o q n ((fs b).mp hb) (nx b)
  obtain⟨_,o',ho',hd⟩:=I.ok.funs.mem (show b∈X.outer.filterMap (·.frame) from(fs b).mp hb)
  rw[q] at ho'; cases ho'
  obtain⟨sl2,e2⟩:=k4 b _ e1 hd
  exact⟨sl2,e2⟩
 ·intro b o q n
  have:=I.base.free b o q n (nx b)
  unfold untr
  split
  ·rfl
  ·exact this
 ·intro b xs q
  have:=I.base.tups b xs q
  rw[xV fun z=>by rw[z,hx] at this; cases this]; exact this
 ·intro b o u q
  have:=I.base.frzs b o u q
  rw[xV fun z=>by rw[z,hx] at this; cases this]; exact this
 ·intro b ps q
  obtain⟨m,this⟩:=I.base.tbls b ps q
  exact⟨m,by rw[xV fun z=>by rw[z,hx] at this; cases this]; exact this⟩
theorem Vb (Y:Body X outer) (I:Inv X pins σ H s) {e:Value} {s':Shared} {E:XK} {R:Value->Shared->Prop} {M:Model} {A:Around} (hA:A.frames=some X.stack) (hx:CXe X.prog X.w X.stack H s E e s') :
  wpAny M A (leaving X.env e) (fun _ s''=>CXe X.prog X.w outer X.H₀ X.s₀ E e s'') R s':=by
 obtain⟨a,C,d,H',rfl,F,hE⟩:=hx
 obtain⟨B,a0,fl,hok,nb,kp,th⟩:=F.fly
 have ob:∀b o,X.s₀.heap.get? b=some o->b∉frs outer->b∉frs X.stack:=fun b o q n z=>by
  rcases Y.mem z with z|z
  ·exact I.old q z
  ·exact n z
 have nx:∀b,b∉X.ex:=fun b=>by rw[Y.ex]; simp
 have fs:∀b,b∈frs outer↔b∈X.fs:=fun b=>by show _↔b∈frs X.outer; rw[Y.out]
 rw[Y.stk] at hA fl
 refine wpAny_mono (DK.any (jc _ _) (wpAny_leaves_onW hA Y.fr fl (Q:=fun _ s2=>(Heap.FlyingW B outer a C a0 s2.heap/\s'.heap.UpToSlots s2.heap)/\∃h',s2={ s' with heap:=h' }) fun h' x1 x4=>⟨⟨x1,x4⟩,h',rfl⟩)) (fun _ s2 z=>?_) fun _ _ q=>q.1
 obtain⟨⟨⟨x1,x4⟩,h',rfl⟩,kd⟩:=z
 refine⟨a,C,d,H',rfl,⟨?_,F.os.trans I.os,F.bare,⟨B,a0,x1,hok,fun b hb=>nb b (Y.in_ hb), ?_, ?_⟩, ?_, ?_,fun b xs q=>F.tups b xs (I.base.tups b xs q),fun b o u q=>F.frzs b o u (I.base.frzs b o u q), ?_⟩,hE⟩
 ·obtain⟨o1,e1,_⟩:=fl.there
  exact fun o q=>(kd.get (d:=0) e1 q).trans (F.own o1 e1)
 ·exact fun b o q n hb=>kp b o (I.base.keep b o q n (fun z=>hb ((fs b).mpr z)) (nx b)) (I.base.free b o q n (nx b)) (ob b o q hb)
 ·intro b o q n
  obtain⟨o',e1⟩:=I.base.there b o q (nx b)
  cases hb:H b with
  |none=>exact⟨o',kp b o' e1 hb (ob b o q fun z=>n (I.ok.frf b ((fs b).mp z)))⟩
  |some u=>exact th b o' e1 (by rw[hb]; simp)
 ·intro b o q n hb
  obtain⟨sl,e1⟩:=I.base.slot b o q n ((fs b).mp hb) (nx b)
  obtain⟨sl',e2⟩:=F.up b _ e1 (I.base.free b o q n (nx b)) (Y.in_ hb)
  obtain⟨_,o',ho',hd⟩:=I.ok.funs.mem (show b∈X.outer.filterMap (·.frame) from(fs b).mp hb)
  rw[q] at ho'; cases ho'
  obtain⟨sl2,e3⟩:=x4 b _ e2 hd
  exact⟨sl2,e3⟩
 ·intro b o q n
  obtain⟨o',e1⟩:=I.base.there b o q (nx b)
  exact F.free b o' e1 (I.base.free b o q n (nx b))
 ·intro b ps q
  obtain⟨m1,e1⟩:=I.base.tbls b ps q
  obtain⟨m2,e2⟩:=F.tbls b _ e1
  exact⟨m1++m2,by rw[e2,Array.append_assoc]⟩
end
def pV:Option Int->V
 |none=>.non
 |some n=>.int n
theorem pV_inj {p q:Option Int} (h:pV p=pV q):p=q:=by
 cases p<;>cases q<;>first|rfl|cases h
 rfl
def PartIs (d:Option Addr) (H:Hp):Option Int->Prop
 |none=>d=none
 |some n=>∃x,d=some x/\H x=some (.xd [("part", .int n)])
def EX (mg:Str->Option Value) (D:Ends) (σ:St):XK:=fun C d H'=>∃nm p,mg nm=some C/\PartIs d H' p/\D.bk (some (.str nm)::some (pV p)::σ) H'
def Cmp (X:Cx) (E:XK) (σ:St):Prop:=∀pins H s e s',Inv X pins σ H s->CXe X.prog X.w X.stack H s E e s'->X.xe e s'
def CmpD (r:Prop) (X:Cx) (D:Ends):Prop:=(∀σ,Cmp X (EX X.mg D σ) σ)/\(r->∀pins σ H s e C d,Inv X pins σ H s->H e=some (excO e C d)->X.s₀.heap.get? e=none->EX X.mg D σ (.ref C) d (untr H e)->X.xe (.ref e) s)
structure QX (r:Prop) (X:Cx) (st:Stmt) (t:TS):Prop where
 h:∀pins s σ H D,CmpD r X D->Inv X pins σ H s->t D σ H->wpAny (model X.prog X.w) X.A (exec st X.env) (SP X pins D) X.xe s
structure QXs (r:Prop) (X:Cx) (st:List Stmt) (t:TS):Prop where
 h:∀pins s σ H D,CmpD r X D->Inv X pins σ H s->t D σ H->wpAny (model X.prog X.w) X.A (execs st X.env) (SP X pins D) X.xe s
abbrev TX:=St->Hp->VK->XK->Prop
structure QXe (X:Cx) (e:Expr) (t:TX):Prop where
 h:∀pins s σ H Q E,Cmp X E σ->Inv X pins σ H s->t σ H Q E->wpAny (model X.prog X.w) X.A (eval e X.env) (EP X pins σ Q) X.xe s
section
variable {r:Prop} {X:Cx} {st:Stmt} {rest:List Stmt} {t u:TS} {e:Expr} {tx:TX} {pos:Pos}
theorem jB (h1:QX r X st t) (h2:QXs r X rest u):QXs r X (st::rest) (tSeq t u):=⟨fun pins s σ H D c I h=>by
 refine wpAny_execs_cons (thn (h1.h pins s σ H { D with nx:=u D } c I h) fun f s1 q=>?_)
 cases f with
 |next =>
  obtain⟨σ',H',I',q⟩:=q
  exact h2.h pins s1 σ' H' D c I' q
 |ret v=>exact q
 |brk=>exact q
 |cont=>exact q⟩
theorem kU:QXs r X [] kM:=⟨fun pins s σ H D c I h=>wpAny_execs_nil ⟨σ,H,I,h⟩⟩
theorem zu (h1:QX r X st t):QXs r X [st] t:=⟨fun pins s σ H D c I h=>by
 refine wpAny_execs_cons (thn (h1.h pins s σ H D c I h) fun f s1 q=>?_)
 cases f with
 |next=>exact wpAny_execs_nil q
 |ret v=>exact q
 |brk=>exact q
 |cont=>exact q⟩
theorem qx_of (h:QS X.nox st t):QX r X st t:=⟨fun pins s σ H D _ I q=>wpAny_mono (h.h pins s σ H D (I.wish _) q) (fun _ _ z=>z.unwish) fun _ _ z=>False.elim z⟩
theorem qx_if {c:Expr} {a b:List Stmt} {tc:TT} (hc:QT X.nox c tc) (ha:QXs r X a t) (hb:QXs r X b u):QX r X (.If c a b pos) (tIfS tc t u):=⟨fun pins s σ H D k I h=>by
 refine wpAny_If (thn (hc.h.nox pins s σ H _ I h) fun d s1 ⟨H1,I1,q1⟩=>?_)
 cases d with
 |true=>exact ha.h pins s1 σ H1 D k I1 q1
 |false=>exact hb.h pins s1 σ H1 D k I1 q1⟩
def tRetX (tx:TX) (mg:Str->Option Value):TS:=fun D σ H=>tx σ H D.rt (EX mg D σ)
theorem qx_ret (he:QXe X e tx):QX r X (.Return (some e) pos) (tRetX tx X.mg):=⟨fun pins s σ H D k I h =>
 wpAny_Return_some (thn (he.h pins s σ H _ _ (k.1 σ) I h) fun v s1 ⟨x,H1,I1,r1,q1⟩=>⟨x,σ,H1,I1,r1,q1⟩)⟩
def tSetX (i:Nat) (tx:TX) (mg:Str->Option Value):TS:=fun D σ H=>tx σ H (fun v H1=>D.nx (σ.set i (some v)) H1) (EX mg D σ)
theorem qx_set {i:Nat} {x:Str} {pos':Pos} (hN:X.N.Nodup) (hi:X.N[i]?=some x) (hx:Loc X.env.scope x) (he:QXe X e tx) (hs:swapsWith e (some (.Name x pos')) pos.line X.env=pure false:=by rfl) (hf:X.fn x=true\/X.env.scope.names.lookup x=some .local:=by first|exact .inl rfl|exact .inr rfl|assumption) :
  QX r X (.Assign [.Name x pos'] e pos) (tSetX i tx X.mg):=⟨fun pins s σ H D k I h=>by
 refine wpAny_Assign_Name (thn (he.h pins s σ H _ _ (k.1 σ) I h) fun v s1 ⟨y,H1,I1,r1,q1⟩=>?_) hs
 exact xL I1 hN hi hx r1 (fun s2 I2=>⟨_,H1,I2,q1⟩) hf⟩
theorem run_fnX {k:Nat} {f:Addr} {fd:FuncData} {ps:List Str} {sp:Sp} {pins:List (Addr×Obj)} {σ:St} {H:Hp} {s:Shared} {Q:VK} {E:XK} {us:List Value} {vs:List V} (F:FnOk X.prog X.w X.K X.mg X.base (CXe X.prog X.w) k f fd ps sp) (hr:Room k X.A) (hb:Binds X.K fd ps []) (hx:Cmp X E σ)
  (I:Inv X pins σ H s) (rv:Vals vs us) (h:sp vs H Q E):wpAny (model X.prog X.w) X.A (call (.ref f) us) (EP X pins σ Q) X.xe s:=by
 have hl:us.length=ps.length:=by rw[<-rv.length]; exact F.len _ _ _ _ h
 refine wpAny_call (codeAny_mono (F.run X.A X.stack s H ⟨us, []⟩ us vs Q E hr I.env0 (by simpa using hb s us I.kIn (by simpa using hl)) rv h) fun rr s' hq=>?_)
 cases rr with
 |error e=>exact hx pins H s e s' I hq
 |ok fl =>
  cases fl with
  |ret u=>exact I.after hq
  |next=>exact False.elim hq
  |brk=>exact False.elim hq
  |cont=>exact False.elim hq
structure DefX (P:Program) (w:World) (K:PySem.W.Frag) (mg:Str->Option Value) (base:Heap) (x:Str) (k:Nat) (ps:List Str) (sp:Sp):Prop where
 ex:∃(f:Addr) (fd:FuncData),mg x=some (.ref f)/\PySem.W.keepIn K (.ref f)=true/\Binds K fd ps []/\FnOk P w K mg base (CXe P w) k f fd ps sp
def tCallX (sp:Sp) (t:TA):TX:=fun σ H Q E=>t σ H fun vs H1=>sp vs H1 Q E
theorem x8 {x:Str} {k:Nat} {ps:List Str} {sp:Sp} {p:Pos} {es:List Expr} {ta:TA} (D:DefX X.prog X.w X.K X.mg X.base x k ps sp) (hr:Room k X.A) (ha:QA X.nox (e::es) ta) (hg:Gl X x:=by rfl)
  (hdb:(x==("__debug__" : Str))=false:=by decide) (he:starEach (e::es) X.env=(false,eval e X.env)::starEach es X.env:=by rfl) (hpl:(backTo pos (starEach es X.env)).any (·.1)=false:=by rfl) :
  QXe X (.Call (.Name x p) (e::es) [] pos) (tCallX sp ta):=⟨fun pins s σ H Q E hx I h=>by
 obtain⟨f,fd,hm,hk,hb,F⟩:=D.ex
 refine wpAny_Call_Name_kw (xD I hg hm ?_ hdb)
 refine PySem.W.callWith_K (h₀:=X.base) I.ok.mod.kin hk (wpAny_mono (ha.h pos pins s σ H _ (I.wish _) h) (fun us s1 ⟨vs,H1,I1,r,q⟩=>⟨I1.unwish.kIn, ?_⟩) fun _ _ z=>False.elim z) he hpl
 exact run_fnX F hr hb hx I1.unwish r q⟩
end
theorem own_obj {K:PySem.W.Frag} {h:Heap} {C:Addr} {bmB:List Value} {newId:String} (X:K.In h) (q:PySem.W.excIn K C bmB newId=true) :
  ∃bm N nm qn bs hdct sn sub ab col dd k0 k1 k2 k3 k5 mN,h.get? C=some (excClassObj nm qn C N bs bm hdct sn sub ab col dd k0 k1 k2 k3 k5 newId)/\h.Ns N mN/\mN "__init__" = none/\OwnTail h bmB bm:=by
 unfold PySem.W.excIn at q
 split at q
 ·rename_i dd cd sl ho
  split at q
  ·rename_i C' bm k0 k1 k2 k3 n k5 hm hs
   obtain⟨nm,bs,mro,ns,qn,hd,sn,sub,ab,col,del⟩:=cd
   simp only[Bool.and_eq_true,beq_iff_eq,Bool.not_eq_true'] at q hm
   obtain⟨⟨⟨⟨⟨z1,z2⟩,z3⟩,z4⟩,z5⟩,z6⟩:=q
   subst z1; subst z2; subst hm; subst z3
   obtain⟨l⟩:=sl
   have hs:l=_:=hs
   subst hs
   exact⟨bm,ns,nm,qn,bs,hd,sn,sub,ab,col,dd,k0,k1,k2,k3,k5,_,X _ _ ho, .of_isNs (PySem.W.isNs_of_in X z5),PySem.W.nsMap_none_of_in X z5 z6,PySem.W.tail_of_in X z4⟩
  ·cases q
 ·cases q
structure ExcC (K:PySem.W.Frag) (mg:Str->Option Value) (x:Str) (C:Addr):Prop where
 b:mg x=some (.ref C)
 o:PySem.W.excIn K C [.type "ValueError", .type "Exception", .type "BaseException", .type "object"] "ValueError.__new__" = true
theorem untr_upd {H:Hp} {a:Addr} {o:HO} (h:H a=none):untr (upd H a o) a=H:=by
 funext b
 unfold untr upd
 split
 ·rename_i q; rw[q,h]
 ·rfl
theorem Inv.none0 {X:Cx} {pins:List (Addr×Obj)} {σ:St} {H:Hp} {s:Shared} {e:Addr} (I:Inv X pins σ H s) (hx:e∉X.ex) (h:s.heap.get? e=none):X.s₀.heap.get? e=none:=by
 cases z:X.s₀.heap.get? e with
 |none=>rfl
 |some o =>
  obtain⟨o',q⟩:=I.base.there e o z hx
  rw[h] at q; cases q
theorem ObjOk.here {P:Program} {w:World} {H:Hp} {h:Heap} {a:Addr} {o:HO} (x:ObjOk P w H h a o):∃u,h.get? a=some u:=by
 cases o with
 |lst xs=>obtain⟨_,_,_,_,e⟩:=x; exact⟨_,e⟩
 |tup xs=>obtain⟨_,_,_,o,e,_⟩:=x; exact⟨o,e⟩
 |dK kvs=>obtain⟨_,_,_,_,o,_,_,e,_⟩:=x; exact⟨_,e⟩
 |dT kvs=>obtain⟨_,_,_,_,o,_,_,e,_⟩:=x; exact⟨_,e⟩
 |set S n=>obtain⟨o,_,_,_,e,_⟩:=x; exact⟨_,e⟩
 |ins C dx fs=>obtain⟨_,_,_,e,_⟩:=x; exact⟨_,e⟩
 |own y=>obtain⟨_,e⟩:=x; exact⟨_,e⟩
 |xd fs=>obtain⟨_,⟨_,_,_,e,_⟩,_⟩:=x; exact⟨_,e⟩
 |rng lo hi=>obtain⟨_,_,_,e⟩:=x; exact⟨_,e⟩
 |frz ob u=>obtain⟨e,_⟩:=x; exact⟨_,e⟩
 |tbl ps=>exact⟨_,(show h.get? a=some _ from x)⟩
 |met f y=>exact⟨_,(show h.get? a=some _ from x)⟩
 |ext φ=>obtain⟨_,⟨o,e⟩,_⟩:=x; exact⟨o,e⟩
theorem Inv.exc {X:Cx} {pins:List (Addr×Obj)} {σ:St} {H:Hp} {s:Shared} {e C:Addr} {args:List Value} {h1:Heap} (I:Inv X pins σ H s) (hm:Heap.MadeExcOf s.heap h1 e (.ref C) args):H e=none/\Inv X pins σ (upd H e (excO e C none)) { s with heap:=h1 }:=by
 obtain⟨k,hn,t,ht,_⟩:=hm
 have fr:H e=none:=by
  cases z:H e with
  |none=>rfl
  |some o =>
   obtain⟨u,q⟩:=(I.hok e o z).here
   rw[hn] at q; cases q
 refine⟨fr, ?_⟩
 refine I.un (h':=h1) (t':=s.toks) ⟨fun b u q _ _ _=>k b u q,fun b u q _ _ _=>⟨u.slots,k b u q⟩,fun b u q n _=>?_,fun b u q _=>⟨u,k b u q⟩,fun b xs q=>?_,fun b u xs q=>?_,fun b ps q=>⟨#[], ?_⟩⟩ fun b u q=>?_
 ·rw[upd_ne fun z=>by rw[z,hn] at q; cases q]; exact n
 ·rw[upd_ne (qL q fr)]; exact q
 ·rw[upd_ne (qL q fr)]; exact q
 ·rw[upd_ne (qL q fr),q]; simp
 ·by_cases hb:b=e
  ·subst hb; rw[upd_same] at q; cases q; exact excO_ok (t:=t) ht
  ·rw[upd_ne hb] at q
   exact(I.hok b u q).stay (fun c v _ q=>k c v q) (fun c q=>by rw[upd_ne (qL q fr)]; exact q) fun c xs q=>by rw[upd_ne (qL q fr)]; exact q
def tRaise (x:Str) (t:TA):TS:=fun D σ H=>t σ H fun vs H1=>vs.length<=sizeLine/\D.bk (some (.str x)::some .non::σ) H1
theorem jD {X:Cx} {x:Str} {C:Addr} {np cpos pos:Pos} {e:Expr} {es:List Expr} {ta:TA} (hc:X.calm=true) (hx:X.ex=[]) (O:ExcC X.K X.mg x C) (ha:QA X.nox (e::es) ta) (hg:Gl X x:=by rfl)
  (hdb:(x==("__debug__" : Str))=false:=by decide) (he:starEach (e::es) X.env=(false,eval e X.env)::starEach es X.env:=by rfl) (hpl:(backTo cpos (starEach es X.env)).any (·.1)=false:=by rfl) :
  QX True X (.Raise (some (.Call (.Name x np) (e::es) [] cpos)) none pos) (tRaise x ta):=⟨fun pins s σ H D k I h=>by
 obtain⟨bm,N,nm,qn,bs,hdct,sn,sub,ab,col,dd,k0,k1,k2,k3,k5,mN,hC,hN,hni,T⟩:=own_obj I.mod.kin O.o
 have hh:=I.ok.hd hc
 refine wpAny_Raise_call_subU (C:=C) (nm:=nm) (q:=qn) (N:=N) (bs:=bs) (bm:=bm) (hdct:=hdct) (sn:=sn) (sub:=sub) (ab:=ab) (col:=col) (dd:=dd) (k0:=k0) (k1:=k1) (k2:=k2) (k3:=k3) (k5:=k5)
  PySem.F.excBase_ValueError (by decide) PySem.F.excBase_ValueError (mN:=mN) (T.hasType PySem.F.excBase_ValueError.hasBase) hh (by rw[he]; show(false||(backTo cpos (starEach es X.env)).any (·.1))=false; rw[hpl]; rfl) hni (xD I hg O.b ⟨rfl, ?_⟩ hdb)
 have h1:=ha.h cpos pins s σ H _ (I.wish _) h
 rw[he] at h1 ⊢
 refine Calls.evalArgs_plain (wpAny_mono h1 (fun vs s₂ ⟨xs,H1,I1,r,hl,q⟩=>?_) fun _ _ z=>False.elim z)
 have I2:=I1.unwish
 refine⟨rfl,by rw[<-r.length]; exact hl,I2.bk _ _ hC,hN.keeps I2.bk,T.keeps I2.bk,fun h' e' hm=>?_⟩
 obtain⟨fr,J⟩:=I2.exc hm
 refine k.2 trivial pins σ _ _ e' C none J upd_same (I2.none0 (by rw[hx]; simp) hm.new) ⟨x,none,O.b,rfl, ?_⟩
 rw[untr_upd fr]
 exact q⟩
abbrev smallI (n:Int):Prop:=n.natAbs.log2<1920/\(Str.ofString (toString n)).length<=10000
section
variable {P:Program} {w:World} {K:PySem.W.Frag} {mg:Str->Option Value} {base:Heap}
def bkX (n:Nat) (mg:Str->Option Value) (E:XK):St->Hp->Prop:=fun τ H'=>∃nm p σ',τ=some (.str nm)::some (pV p)::σ'/\σ'.length=n/\∀C d,mg nm=some C->PartIs d H' p->E C d H'
theorem bkX.ex {n:Nat} {E:XK} {Q:VK} {nx:St->Hp->Prop} {σ:St} {C:Value} {H':Hp} {d:Option Addr} (h:EX mg { nx:=nx,rt:=Q,bk:=bkX n mg E } σ C d H'):E C d H':=by
 obtain⟨nm,p,hm,hp,nm',p',σ',e,_,k⟩:=h
 simp only[List.cons.injEq,Option.some.injEq,V.str.injEq] at e
 exact k C d (e.1▸hm) (pV_inj e.2.1▸hp)
theorem Fun.okX {x qual:Str} {st:Stmt} {f:Addr} {fd:FuncData} {N ps:List Str} {k:Nat} {sp:Sp} (F:Fun K x qual st f fd) (S:FnScope N ps (qc st)) (len:∀vs H Q E,sp vs H Q E->vs.length=ps.length)
  (hbody:∀(cdv:Value) (A:Around) (outer:List Env) (s:Shared) (H:Hp) (vs:List V) (Q:VK) (E:XK),Room k (A.deeper (envOfC qual (qc st) s.heap.objs.size f cdv))->sp vs H Q E ->
   ∃t,QXs True (cxOf (CXe P w) P w K mg base N qual (qc st) f cdv A outer s H E) (qh st) t/\t { nx:=fun _ H'=>Q .non H',rt:=Q,bk:=bkX N.length mg E } (start N vs) H):FnOk P w K mg base (CXe P w) (k+1) f fd ps sp:=by
 obtain⟨oc,od,kV,doc,pm,an,cdv,ct,osl,rfl,lk,hcd⟩:=F.ex
 refine fn_of lk hcd S len fun A outer s H vs Q E hr hsp=>?_
 obtain⟨t,h,q⟩:=hbody cdv A outer s H vs Q E hr hsp
 refine⟨fun D σ H1=>D={ nx:=fun _ H'=>Q .non H',rt:=Q }/\t { nx:=fun _ H'=>Q .non H',rt:=Q,bk:=bkX N.length mg E } σ H1,fun pins s1 σ H1 D I hd=>?_,rfl,q⟩
 obtain⟨rfl,hd⟩:=hd
 have Y:Body (cxOf (CXe P w) P w K mg base N qual (qc st) f cdv A outer s H E) outer:=⟨rfl,rfl,rfl,rfl⟩
 refine wpAny_mono (h.h pins s1 σ H1 _ ⟨fun σ pins H s e s' I hx=>?_,fun _ pins σ H s e C d I hm h0 hx=>?_⟩ I hd) (fun fl s' z=>?_) fun _ _ z=>z
 ·exact Vb Y I I.ok.frames (hx.mono fun C d H' z=>bkX.ex z)
 ·exact jX Y I I.ok.frames hm h0 (bkX.ex hx)
 ·cases fl with
  |next=>exact z
  |ret u=>exact z
  |cont=>exact z
  |brk =>
   obtain⟨σ',H',I',nm,p,σ'',e,hl,_⟩:=z
   have:=I'.len
   rw[e,List.length_cons,List.length_cons,hl] at this
   exact absurd this (by show N.length+1+1≠N.length; omega)
end
section
variable {P:Program} {w:World} {outer:List Env} {H H':Hp} {s s':Shared} {a:Addr} {C:Value} {d:Option Addr}
theorem Fli.un (F:Fli P w outer H s a C d H' s'):Un (frs outer) [] H H' s.heap s'.heap/\HOk P w H' s'.heap:=by
 obtain⟨B,a0,fl,hok,nb,kp,th⟩:=F.fly
 refine⟨⟨fun b o q n hb _=>fl.1 b o (kp b o q n hb),fun b o q n hb _=>F.up b o q n hb,fun b o q n _=>F.free b o q n,fun b o q _=>?_,F.tups,F.frzs,F.tbls⟩,hok.kept fl.1⟩
 cases hb:H b with
 |some u =>
  obtain⟨o',e⟩:=th b o q (by rw[hb]; simp)
  exact⟨o',fl.1 b o' e⟩
 |none =>
  by_cases hf:b∈frs outer
  ·obtain⟨sl,e⟩:=F.up b o q hb hf
   exact⟨_,e⟩
  ·exact⟨o,fl.1 b o (kp b o q hb hf)⟩
theorem Fli.inv {X:Cx} {pins:List (Addr×Obj)} {σ:St} (I:Inv X pins σ H s) (F:Fli X.prog X.w X.stack H s a C d H' s'):Inv X pins σ H' s' :=
 I.call' F.os F.un.1 F.un.2 F.bare (ch:=[]) fun b z=>absurd z (by simp)
theorem Fli.step (F:Fli P w outer H s a C d H' s'):∃B a0,Heap.FlyingW B outer a C a0 s'.heap/\∀h',Heap.FlyingW B outer a C a0 h'->s'.heap.UpToSlots h'->Obk s'.heap h'->Fli P w outer H s a C d H' { s' with heap:=h' }:=by
 obtain⟨B,a0,fl,hok,nb,kp,th⟩:=F.fly
 refine⟨B,a0,fl,fun h' fl' up kd=>⟨fun o q=>by
  obtain⟨o1,e1,_⟩:=fl.there
  exact(kd.get (d:=0) e1 q).trans (F.own o1 e1),F.os,F.bare,⟨B,a0,fl',hok,nb,kp,th⟩,fun b o q n hb=>?_,F.free,F.tups,F.frzs,F.tbls⟩⟩
 obtain⟨sl,e⟩:=F.up b o q n hb
 obtain⟨_,o',ho',hd⟩:=fl.2.2.1.mem (show b∈outer.filterMap (·.frame) from hb)
 rw[e] at ho'; cases ho'
 obtain⟨sl2,e2⟩:=up b _ e hd
 exact⟨sl2,e2⟩
theorem Fli.ty {M:Model} (F:Fli P w outer H s a C d H' s'):PySem.W.Looks M s'.heap (typeOf (.ref a)) C:=by
 obtain⟨B,a0,fl,_⟩:=F.fly
 obtain⟨ob,hob,hc⟩:=fl.there
 subst hc
 exact(PySem.W.Looks.ld hob).andThen .now
end
abbrev Cx.caught (X:Cx) (a:Addr):Cx:={ X with A:=X.A.mark (some (.ref a)),calm:=false,xe:=fun _ _=>False }
section
variable {X:Cx} {pins:List (Addr×Obj)} {σ:St} {H:Hp} {s:Shared} {a:Addr}
theorem Inv.caught (I:Inv X pins σ H s) (a:Addr):Inv (X.caught a) pins σ H s :=
 ⟨⟨I.ok.mod,I.ok.kind,I.ok.glob,I.ok.blt,I.ok.above,I.ok.inj,I.ok.has,I.ok.cab,(fun z=>nomatch z),I.ok.frames,I.ok.stk,I.ok.exf,I.ok.bs,I.ok.bsz,I.ok.noex,I.ok.exfs,I.ok.funs,I.ok.frf⟩,I.os,I.bare,I.base,I.loc,I.cell,I.free,I.freeC,I.pin,I.hok,I.len⟩
abbrev Cx.tried (X:Cx) (pins:List (Addr×Obj)) (xe:Value->Shared->Prop):Cx:={ X with pn:=X.pn++pins,xe:=xe }
theorem Inv.tried (I:Inv X pins σ H s) (xe:Value->Shared->Prop):Inv (X.tried pins xe) [] σ H s :=
 ⟨⟨I.ok.mod,I.ok.kind,I.ok.glob,I.ok.blt,I.ok.above,I.ok.inj,I.ok.has,I.ok.cab,I.ok.hd,I.ok.frames,I.ok.stk,I.ok.exf,I.ok.bs,I.ok.bsz,I.ok.noex,I.ok.exfs,I.ok.funs,I.ok.frf⟩,I.os,I.bare,I.base,I.loc,I.cell,I.free,I.freeC,fun p hp=>I.pin p (by simpa using hp),I.hok,I.len⟩
theorem Inv.untried {pins':List (Addr×Obj)} {xe:Value->Shared->Prop} (ok:X.Ok) (I:Inv (X.tried pins xe) pins' σ H s):Inv X pins σ H s :=
 ⟨ok,I.os,I.bare,I.base,I.loc,I.cell,I.free,I.freeC,fun p hp=>I.pin p (List.mem_append_left _ hp),I.hok,I.len⟩
end
structure QH (X:Cx) (hs:List ExceptHandler) (C:Value) (q:Option Int) (t:TS):Prop where
 h:∀pins σ H1 s1 d H' s a D,Inv X pins σ H1 s1->Fli X.prog X.w X.stack H1 s1 a C d H' s->PartIs d H' q->t D σ H'->wpAny (model X.prog X.w) X.A (handleBy (.ref a) X.env hs) (SP X pins D) X.xe s
def tTry (n:Nat) (tb:TS) (l:List (Str×(Option Int->TS))):TS:=fun D σ H=>tb { D with bk:=fun τ H'=>∃nm p σ' t,τ=some (.str nm)::some (pV p)::σ'/\σ'.length=n/\l.lookup nm=some t/\t p D σ' H' } σ H
theorem qs_try {X:Cx} {outer:List Env} {body:List Stmt} {h0:ExceptHandler} {hs:List ExceptHandler} {pos:Pos} {tb:TS} {l:List (Str×(Option Int->TS))} (Y:Body X outer) (hb:∀pins xe,QXs False (X.tried pins xe) body tb)
  (hh:∀nm t C,l.lookup nm=some t->X.mg nm=some C->∀p,QH X (h0::hs) C p (t p)):QS X (.Try body (h0::hs) [] [] pos) (tTry X.N.length tb l):=⟨fun pins s σ H D I h=>by
 refine wpAny_Try_except ?_
 refine wpAny_mono ((hb pins fun e s1=>wpAny (model X.prog X.w) X.A (noteFrame e X.env) (fun _ s₂=>wpAny (model X.prog X.w) X.A (setFlight e none) (fun _ s₃=>wpAny (model X.prog X.w) X.A (handleBy e X.env (h0::hs)) (SP X pins D) X.xe s₃) X.xe s₂) X.xe s1).h [] s σ H _ ⟨fun σ1 pins' H1 s1 e s' IY hx=>?_,fun z=>z.elim⟩ (I.tried _) h) (fun f s1 q=>?_) fun _ _ z=>z
 ·obtain⟨a,C,d,H',rfl,F,nm,p,hm,hp,nm',p',σ',t,e,hl,ht,q⟩:=hx
  simp only[List.cons.injEq,Option.some.injEq,V.str.injEq] at e
  obtain⟨rfl,ep,rfl⟩:=e
  obtain rfl:=pV_inj ep
  have I1:Inv X pins σ1 H1 s1:=IY.untried I.ok
  have F:Fli X.prog X.w X.stack H1 s1 a C d H' s':=F
  obtain⟨B,a0,fl,st⟩:=F.step
  have hA:X.A.frames=some (X.env::outer):=by rw[<-Y.stk]; exact I.ok.frames
  rw[Y.stk] at fl
  refine wpAny_mono (DK.any (Zc _ _) (wpAny_looks_onW hA Y.fr fl (Q:=fun _ s2=>(Heap.HeldW B (X.env::outer) a C a0 X.env.locals s2.heap/\s'.heap.UpToSlots s2.heap)/\∃h',s2={ s' with heap:=h' }) (E:=fun _ _=>False) fun h' x1 x4=>⟨⟨x1,x4⟩,h',rfl⟩)) (fun _ s2 z=>?_) fun _ _ q=>q.1.elim
  obtain⟨⟨⟨held,up1⟩,h1,rfl⟩,kd1⟩:=z
  refine wpAny_mono (DK.any (zR _ _) (wpAny_landsW (s:={ s' with heap:=h1 }) held (Q:=fun _ s2=>(Heap.FlyingW B (X.env::outer) a C a0 s2.heap/\h1.UpToSlots s2.heap)/\∃h',s2={ s' with heap:=h' }) (E:=fun _ _=>False) fun h' x1 x4=>⟨⟨x1,x4⟩,h',rfl⟩)) (fun _ s2 z=>?_) fun _ _ q=>q.1.elim
  obtain⟨⟨⟨fl2,up2⟩,h2,rfl⟩,kd2⟩:=z
  exact(hh nm t C ht hm p).h pins σ1 H1 s1 d H' _ a D I1 (st h2 (by rw[Y.stk]; exact fl2) (up1.trans up2) (kd1.trans kd2)) hp q
 ·cases f with
  |next=>obtain⟨σ',H2,I2,q⟩:=q; exact wpAny_execs_nil ⟨σ',H2,I2.untried I.ok,q⟩
  |cont=>obtain⟨σ',H2,I2,q⟩:=q; exact⟨σ',H2,I2.untried I.ok,q⟩
  |ret u=>obtain⟨v,σ',H2,I2,r,q⟩:=q; exact⟨v,σ',H2,I2.untried I.ok,r,q⟩
  |brk =>
   obtain⟨σ',H2,I2,nm,p,σ'',t,e,hl,_⟩:=q
   have:=I2.len
   rw[e,List.length_cons,List.length_cons,hl] at this
   exact absurd this (by show X.N.length+1+1≠X.N.length; omega)⟩
section
variable {X:Cx} {pins:List (Addr×Obj)} {σ:St} {H:Hp} {s:Shared}
theorem jT {M:Model} {A:Around} {E:Value->Shared->Prop} {i:Nat} {x:Str} {pos:Pos} {Q:Unit->Shared->Prop} (I:Inv X pins σ H s) (hN:X.N.Nodup) (hi:X.N[i]?=some x) (hk:X.env.scope.names.lookup x=some .local)
  (h:∀s',Inv X pins (σ.set i none) H s'->Q () s'):wpAny M A (do bindName X.env x .none; unbindBehindTheSuite X.env x pos) Q E s:=by
 obtain⟨m,hn,hl⟩:=id I.loc
 have hcls:(X.env.scope.kind == .class||(X.env.scope.kind == .module&&X.env.locals != X.env.globals))=false:=by rw[I.ok.kind]; rfl
 have cne:=I.cne
 obtain⟨oL,_,_,hoL,_⟩:=id hn
 refine wpAny_nameGoes_keeps hk hn hcls fun h' v hn' hs=>h _ ⟨I.ok,I.os,I.bare,⟨fun b o e n hb hx=>?_,fun b o e n hb hx=>?_,I.base.free,fun b o e hx=>?_,I.base.tups,I.base.frzs,I.base.tbls⟩,⟨_,hn',fun j y v' e1 e2 e3=>?_⟩,fun y c e=>?_,I.free,I.freeC,fun p hp=>?_,fun b ob e=>?_,by simpa using I.len⟩
 ·exact(hs.2 b (Nat.ne_of_lt (Nat.lt_of_lt_of_le (Heap.lt_size e) I.ok.above))).trans (I.base.keep b o e n hb hx)
 ·obtain⟨sl,e1⟩:=I.base.slot b o e n hb hx
  exact⟨sl,(hs.2 b (Nat.ne_of_lt (Nat.lt_of_lt_of_le (Heap.lt_size e) I.ok.above))).trans e1⟩
 ·obtain⟨o',e1⟩:=I.base.there b o e hx
  exact⟨o',(hs.2 b (Nat.ne_of_lt (Nat.lt_of_lt_of_le (Heap.lt_size e) I.ok.above))).trans e1⟩
 ·have hj:j≠i:=fun z=>by
   subst z
   rw[List.getElem?_set] at e2
   simp only[if_true] at e2
   split at e2<;>cases e2
  rw[List.getElem?_set_ne (Ne.symm hj)] at e2
  obtain⟨u',r',q⟩:=hl j y v' e1 e2 e3
  refine⟨u',r', ?_⟩
  rcases q with⟨k,e⟩|⟨k,c,e,z⟩
  ·refine .inl ⟨k, ?_⟩
   have:y≠x:=fun e=>hj (Qb hN e1 (e▸hi))
   simp[this,e]
  ·exact .inr ⟨k,c,e,z.sameBut hs (cne y c e)⟩
 ·obtain⟨w',z⟩:=I.cell y c e
  exact⟨w',z.sameBut hs (cne y c e)⟩
 ·obtain⟨e,n,ne,nf,d⟩:=I.pin p hp
  exact⟨(hs.2 p.1 ne).trans e,n,ne,nf,d⟩
 ·refine(I.hok b ob e).stay (fun c w' hc q=>(hs.2 c ?_).trans q) (fun _ q=>q) fun _ _ q=>q
  rintro rfl
  have hfree:=I.free
  rcases hc with rfl|hc
  ·rw[hfree] at e; cases e
  ·rw[hfree] at hc; cases hc
theorem Fli.new {H1 H':Hp} {s1 s':Shared} {a:Addr} {C:Value} {d:Option Addr} (F:Fli X.prog X.w X.stack H1 s1 a C d H' s'):s1.heap.get? a=none/\H' a=none/\∃oe vs,s'.heap.get? a=some oe/\oe.cls=C/\oe.dict=d/\oe.data=.fields vs:=by
 obtain⟨B,a0,fl,hok,nb,kp,th⟩:=F.fly
 obtain⟨oe,vs,T,oT,ts,he,hc,hd,_⟩:=fl.2.2.2
 refine⟨?_, ?_,oe,vs,he,hc.1,F.own oe he,hd⟩
 ·cases z:s1.heap.get? a with
  |none=>rfl
  |some o =>
   exfalso
   have hn:=fl.2.1
   by_cases hH:H1 a=none
   ·by_cases hf:a∈frs X.stack
    ·obtain⟨_,o',ho',hd'⟩:=fl.2.2.1.mem (show a∈X.stack.filterMap (·.frame) from hf)
     rw[he] at ho'; cases ho'
     exact hd' vs hd
    ·rw[kp a o z hH hf] at hn; cases hn
   ·obtain⟨o',q⟩:=th a o z hH
    rw[q] at hn; cases hn
 ·cases z:H' a with
  |none=>rfl
  |some u =>
   obtain⟨o,q⟩:=(hok a u z).here
   rw[fl.2.1] at q; cases q
theorem Fli.pinned {outer:List Env} {H1 H':Hp} {s1 s':Shared} {a:Addr} {C:Value} {d:Option Addr} {oe:Obj} {vs:Array Value} (Y:Body X outer) (I:Inv X pins σ H1 s1) (F:Fli X.prog X.w X.stack H1 s1 a C d H' s') (he:s'.heap.get? a=some oe) (hd:oe.data=.fields vs):Inv X (pins++[(a,oe)]) σ H' s':=by
 have J:=F.inv I
 obtain⟨n1,n2,_⟩:=F.new
 refine J.pins_of fun p hp=>?_
 rcases List.mem_append.mp hp with hp|hp
 ·exact J.pin p (List.mem_append_right _ hp)
 ·obtain rfl:=List.mem_singleton.mp hp
  refine⟨he,n2,fun z=>?_,fun z=>?_,fun v z=>?_⟩
  ·obtain⟨m,⟨o,_,_,ho,_⟩,_⟩:=I.loc
   have z:a=X.env.locals:=z
   rw[<-z,n1] at ho; cases ho
  ·obtain⟨_,o',ho',_⟩:=I.ok.funs.mem (show a∈X.outer.filterMap (·.frame) from z)
   obtain⟨o2,q⟩:=I.base.there a o' ho' (by rw[Y.ex]; simp)
   rw[n1] at q; cases q
  ·have z:oe.data=.cell v:=z
   rw[hd] at z; cases z
end
end L2
namespace PySem
theorem Paired.of_get {α β:Type} {F:α->β->Prop}:∀{l:List α} {m:List β},l.length=m.length->(∀(i:Nat) x y,l[i]?=some x->m[i]?=some y->F x y)->Paired F l m
 | [], [],_,_=>.nil
 | [],_::_,h,_=>by simp at h
 |_::_, [],h,_=>by simp at h
 |x::l,y::m,h,r=>.cons (r 0 x y rfl rfl) (Paired.of_get (by simpa using h) fun i a b ha hb=>r (i+1) a b (by simpa using ha) (by simpa using hb))
theorem Paired.len {α β:Type} {F:α->β->Prop}:∀{l:List α} {m:List β},Paired F l m->l.length=m.length
 |_,_, .nil=>rfl
 |_,_, .cons _ t=>by rw[List.length_cons,List.length_cons,Paired.len t]
theorem Paired.get2 {α β:Type} {F:α->β->Prop}:∀{l:List α} {m:List β} {i:Nat} {x:α} {y:β},Paired F l m->l[i]?=some x->m[i]?=some y->F x y
 |_,_,_,_,_, .nil,h,_=>by simp at h
 |_,_,0,_,_, .cons r _,h,k=>by simp at h k; subst h k; exact r
 |_,_,i+1,_,_, .cons _ t,h,k=>Paired.get2 (i:=i) t (by simpa using h) (by simpa using k)
theorem Paired.getR {α β:Type} {F:α->β->Prop} {l:List α} {m:List β} {i:Nat} {y:β} (h:Paired F l m) (e:m[i]?=some y):∃x,l[i]?=some x/\F x y:=by
 have hl:=h.len
 have hi:=(List.getElem?_eq_some_iff.mp e).1
 have hx:l[i]?=some (l[i]'(by omega)):=List.getElem?_eq_getElem (by omega)
 exact⟨_,hx,h.get2 hx e⟩
theorem Paired.getL {α β:Type} {F:α->β->Prop} {l:List α} {m:List β} {i:Nat} {x:α} (h:Paired F l m) (e:l[i]?=some x):∃y,m[i]?=some y/\F x y:=by
 have hl:=h.len
 have hi:=(List.getElem?_eq_some_iff.mp e).1
 have hx:m[i]?=some (m[i]'(by omega)):=List.getElem?_eq_getElem (by omega)
 exact⟨_,hx,h.get2 e hx⟩
theorem Paired.app {α β:Type} {F:α->β->Prop}:∀{l l':List α} {m m':List β},Paired F l m->Paired F l' m'->Paired F (l++l') (m++m')
 |_,_,_,_, .nil,h=>h
 |_,_,_,_, .cons r t,h=>.cons r (Paired.app t h)
theorem Paired.put {α β:Type} {F:α->β->Prop} {x:α} {y:β} (r:F x y):∀{l:List α} {m:List β} (i:Nat),Paired F l m->Paired F (l.set i x) (m.set i y)
 |_,_,_, .nil=>.nil
 |_,_,0, .cons _ t=>.cons r t
 |_,_,i+1, .cons q t=>.cons q (Paired.put r i t)
theorem Paired.tk {α β:Type} {F:α->β->Prop}:∀{l:List α} {m:List β} (n:Nat),Paired F l m->Paired F (l.take n) (m.take n)
 |_,_,0,_=>.nil
 |_,_,_+1, .nil=>.nil
 |_,_,n+1, .cons r t=>.cons r (Paired.tk n t)
theorem Paired.dr {α β:Type} {F:α->β->Prop}:∀{l:List α} {m:List β} (n:Nat),Paired F l m->Paired F (l.drop n) (m.drop n)
 |_,_,0,r=>r
 |_,_,_+1, .nil=>.nil
 |_,_,n+1, .cons _ t=>Paired.dr n t
theorem Paired.mapR {α β γ:Type} {F:α->β->Prop} {G:α->γ->Prop} {f:β->γ} (h:∀a b,F a b->G a (f b)):∀{l:List α} {m:List β},Paired F l m->Paired G l (m.map f)
 |_,_, .nil=>.nil
 |_,_, .cons r t=>.cons (h _ _ r) (Paired.mapR h t)
theorem Paired.unmapR {α β γ:Type} {F:α->β->Prop} {G:α->γ->Prop} {f:β->γ} (h:∀a b,G a (f b)->F a b):∀{m:List β} {l:List α},Paired G l (m.map f)->Paired F l m
 | [],_, .nil=>.nil
 |_::m,_, .cons r t=>.cons (h _ _ r) (Paired.unmapR h (m:=m) t)
end PySem
namespace L2
open PySem PySem.Spec PyProof.Rows
inductive T where
 |non|bl (b:Bool)|int (i:Int)|str (x:Str)|tup (xs:List T)|lst (xs:List T)
inductive U where
 |p (t:T)|m (k:Nat)|x (a:Addr) (d:Option Addr) (q:Option Int)
inductive MO where
 |lst (us:List U)|tup (us:List U)|ins (C:Addr) (fs:List (Str×U))|dK (kvs:List (Key×U))
abbrev MM:=List MO
abbrev UEnv:=List (Option U)
inductive RepT (A:Addr->Prop) (H:Hp):V->T->Prop
 |non:RepT A H .non .non
 |bl (b:Bool):RepT A H (.bl b) (.bl b)
 |int (i:Int):RepT A H (.int i) (.int i)
 |str (x:Str):RepT A H (.str x) (.str x)
 |tup {p:Addr} {vs:List V} {ts:List T} (na:¬A p) (e:H p=some (.tup vs)) (l:vs.length=ts.length) (r:∀(i:Nat) v t,vs[i]?=some v->ts[i]?=some t->RepT A H v t):RepT A H (.ref p) (.tup ts)
 |lst {p:Addr} {vs:List V} {ts:List T} (na:¬A p) (e:H p=some (.lst vs)) (l:vs.length=ts.length) (r:∀(i:Nat) v t,vs[i]?=some v->ts[i]?=some t->RepT A H v t):RepT A H (.ref p) (.lst ts)
section
variable {A A':Addr->Prop} {H H':Hp} {v:V} {t:T} {ι ι':List Addr} {M:MM} {u:U} {σ:St} {ρ:UEnv}
abbrev RepTs (A:Addr->Prop) (H:Hp):List V->List T->Prop:=Paired (RepT A H)
theorem RepT.tupP {p:Addr} {vs:List V} {ts:List T} (na:¬A p) (e:H p=some (.tup vs)) (r:RepTs A H vs ts):RepT A H (.ref p) (.tup ts):=.tup na e r.len fun i v t h k=>r.get2 h k
theorem RepT.lstP {p:Addr} {vs:List V} {ts:List T} (na:¬A p) (e:H p=some (.lst vs)) (r:RepTs A H vs ts):RepT A H (.ref p) (.lst ts):=.lst na e r.len fun i v t h k=>r.get2 h k
theorem RepT.mono (h:∀x o,¬A x->H x=some o->H' x=some o/\¬A' x) (r:RepT A H v t):RepT A' H' v t:=by
 induction r with
 |non=>exact .non
 |bl b=>exact .bl b
 |int i=>exact .int i
 |str x=>exact .str x
 |tup na e l r ih=>exact .tup (h _ _ na e).2 (h _ _ na e).1 l ih
 |lst na e l r ih=>exact .lst (h _ _ na e).2 (h _ _ na e).1 l ih
theorem RepT.tup_inv {ts:List T} (r:RepT A H v (.tup ts)):∃p vs,v=.ref p/\¬A p/\H p=some (.tup vs)/\RepTs A H vs ts:=by
 cases r with
 |tup na e l r=>exact⟨_,_,rfl,na,e,Paired.of_get l r⟩
theorem RepT.lst_inv {ts:List T} (r:RepT A H v (.lst ts)):∃p vs,v=.ref p/\¬A p/\H p=some (.lst vs)/\RepTs A H vs ts:=by
 cases r with
 |lst na e l r=>exact⟨_,_,rfl,na,e,Paired.of_get l r⟩
def Av (A:Addr->Prop) (ι:List Addr):Addr->Prop:=fun x=>A x\/x∈ι
def PartX (ι:List Addr) (H:Hp) (d:Option Addr):Option Int->Prop
 |none=>d=none
 |some n=>∃x0,d=some x0/\x0∉ι/\H x0=some (.xd [("part", .int n)])
inductive RepU (A:Addr->Prop) (ι:List Addr) (H:Hp):V->U->Prop
 |p {v:V} {t:T} (r:RepT (Av A ι) H v t):RepU A ι H v (.p t)
 |m {k:Nat} {a:Addr} (e:ι[k]?=some a):RepU A ι H (.ref a) (.m k)
 |x {a:Addr} {d:Option Addr} {q:Option Int} (h:PartX ι H d q):RepU A ι H (.ref a) (.x a d q)
abbrev RepUs (A:Addr->Prop) (ι:List Addr) (H:Hp):List V->List U->Prop:=Paired (RepU A ι H)
def ObjR (A:Addr->Prop) (ι:List Addr) (H:Hp) (a:Addr):MO->Prop
 |.lst us=>∃vs,H a=some (.lst vs)/\RepUs A ι H vs us
 |.tup us=>∃vs,H a=some (.tup vs)/\RepUs A ι H vs us
 |.ins C fs=>∃dx gs,H a=some (.ins C dx gs)/\H dx=some (.own a)/\dx∉ι/\Paired (fun(g:Str×V) (f:Str×U)=>g.1=f.1/\RepU A ι H g.2 f.2) gs fs
 |.dK kvs=>∃gs,H a=some (.dK gs)/\Paired (fun(g:Key×V) (f:Key×U)=>g.1=f.1/\RepU A ι H g.2 f.2) gs kvs
structure Wd (A:Addr->Prop) (ι:List Addr) (H:Hp) (M:MM):Prop where
 nd:ι.Nodup
 len:ι.length=M.length
 dom:∀x,A x->H x≠none
 na:∀x∈ι,¬A x
 obj:∀(k:Nat) a o,ι[k]?=some a->M[k]?=some o->ObjR A ι H a o
structure Le (ι:List Addr) (H:Hp) (ι':List Addr) (H':Hp):Prop where
 ext:∃n,ι'=ι++n/\∀x∈n,H x=none
 fr:∀x o,H x=some o->x∉ι->H' x=some o
 al:∀x,H x≠none->H' x≠none
theorem Le.refl (ι:List Addr) (H:Hp):Le ι H ι H:=⟨⟨[],by simp,by simp⟩,fun _ _ h _=>h,fun _ h=>h⟩
theorem Le.trans {ι2:List Addr} {H2:Hp} (a:Le ι H ι' H') (b:Le ι' H' ι2 H2):Le ι H ι2 H2:=by
 obtain⟨n,rfl,hn⟩:=a.ext
 obtain⟨m,rfl,hm⟩:=b.ext
 have key:∀x,H x≠none->x∉ι->x∉ι++n:=fun x hx h z=>by
  rcases List.mem_append.mp z with z|z
  ·exact h z
  ·exact hx (hn x z)
 refine⟨⟨n++m,by rw[List.append_assoc],fun x hx=>?_⟩,fun x o e h=>b.fr x o (a.fr x o e h) (key x (by rw[e]; simp) h),fun x h=>b.al x (a.al x h)⟩
 rcases List.mem_append.mp hx with z|z
 ·exact hn x z
 ·cases q:H x with
  |none=>rfl
  |some o=>exact absurd (hm x z) (a.al x (by rw[q]; simp))
theorem Le.av (l:Le ι H ι' H') {x:Addr} {o:HO} (h:¬Av A ι x) (e:H x=some o):H' x=some o/\¬Av A ι' x:=by
 obtain⟨n,rfl,hn⟩:=l.ext
 refine⟨l.fr x o e fun z=>h (.inr z),fun z=>?_⟩
 rcases z with z|z
 ·exact h (.inl z)
 ·rcases List.mem_append.mp z with z|z
  ·exact h (.inr z)
  ·rw[hn x z] at e; cases e
theorem RepT.le (l:Le ι H ι' H') (r:RepT (Av A ι) H v t):RepT (Av A ι') H' v t:=r.mono fun _ _ h e=>l.av h e
theorem PartX.le {d:Option Addr} {q:Option Int} (l:Le ι H ι' H') (h:PartX ι H d q):PartX ι' H' d q:=by
 cases q with
 |none=>exact h
 |some n =>
  obtain⟨x0,e,ni,hx⟩:=h
  obtain⟨m,rfl,hm⟩:=l.ext
  refine⟨x0,e,fun z=>?_,l.fr x0 _ hx ni⟩
  rcases List.mem_append.mp z with z|z
  ·exact ni z
  ·rw[hm x0 z] at hx; cases hx
theorem RepU.le (l:Le ι H ι' H') (r:RepU A ι H v u):RepU A ι' H' v u:=by
 cases r with
 |p r=>exact .p (r.le l)
 |m e =>
  obtain⟨n,rfl,_⟩:=l.ext
  exact .m (by rw[List.getElem?_append_left (List.getElem?_eq_some_iff.mp e).1]; exact e)
 |x h=>exact .x (h.le l)
theorem RepUs.le {vs:List V} {us:List U} (l:Le ι H ι' H') (r:RepUs A ι H vs us):RepUs A ι' H' vs us:=Paired.mapP r fun _ _ q=>q.le l
theorem ObjR.some {a:Addr} {o:MO} (r:ObjR A ι H a o):∃h,H a=some h:=by
 cases o with
 |lst=>obtain⟨vs,e,_⟩:=r; exact⟨_,e⟩
 |tup=>obtain⟨vs,e,_⟩:=r; exact⟨_,e⟩
 |ins=>obtain⟨_,_,e,_⟩:=r; exact⟨_,e⟩
 |dK=>obtain⟨_,e,_⟩:=r; exact⟨_,e⟩
theorem ObjR.le' {a:Addr} {o:MO} (l:Le ι H ι' H') (ea:H' a=H a) (eo:∀x,H x=Option.some (.own a)->H' x=H x) (r:ObjR A ι H a o):ObjR A ι' H' a o:=by
 cases o with
 |lst=>obtain⟨vs,e,r⟩:=r; exact⟨vs,by rw[ea]; exact e,Paired.mapP r fun _ _ q=>q.le l⟩
 |tup=>obtain⟨vs,e,r⟩:=r; exact⟨vs,by rw[ea]; exact e,Paired.mapP r fun _ _ q=>q.le l⟩
 |ins =>
  obtain⟨dx,gs,e,ed,nd,r⟩:=r
  obtain⟨n,rfl,hn⟩:=l.ext
  refine⟨dx,gs,by rw[ea]; exact e,by rw[eo dx ed]; exact ed,fun z=>?_,Paired.mapP r fun _ _ q=>⟨q.1,q.2.le l⟩⟩
  rcases List.mem_append.mp z with z|z
  ·exact nd z
  ·rw[hn dx z] at ed; cases ed
 |dK=>obtain⟨gs,e,r⟩:=r; exact⟨gs,by rw[ea]; exact e,Paired.mapP r fun _ _ q=>⟨q.1,q.2.le l⟩⟩
theorem Wd.al (w:Wd A ι H M) {k:Nat} {a:Addr} (e:ι[k]?=some a):∃o,M[k]?=some o/\ObjR A ι H a o:=by
 have h:=(List.getElem?_eq_some_iff.mp e).1
 have e2:M[k]?=some (M[k]'(by rw[<-w.len]; exact h)):=List.getElem?_eq_getElem _
 exact⟨_,e2,w.obj k a _ e e2⟩
theorem Wd.at (w:Wd A ι H M) {k:Nat} {o:MO} (e:M[k]?=some o):∃a,ι[k]?=some a/\ObjR A ι H a o:=by
 have h:=(List.getElem?_eq_some_iff.mp e).1
 have e2:ι[k]?=some (ι[k]'(by rw[w.len]; exact h)):=List.getElem?_eq_getElem _
 exact⟨_,e2,w.obj k _ _ e2 e⟩
theorem Wd.mem_some (w:Wd A ι H M) {a:Addr} (h:a∈ι):∃o,H a=some o:=by
 obtain⟨k,e⟩:=List.getElem?_of_mem h
 obtain⟨o,_,r⟩:=w.al e
 exact r.some
theorem Wd.not_own (w:Wd A ι H M) {a x:Addr} (h:a∈ι):H a≠some (.own x):=fun z=>by
 obtain⟨k,e⟩:=List.getElem?_of_mem h
 obtain⟨o,_,r⟩:=w.al e
 cases o with
 |lst=>obtain⟨vs,e,_⟩:=r; rw[z] at e; cases e
 |tup=>obtain⟨vs,e,_⟩:=r; rw[z] at e; cases e
 |ins=>obtain⟨_,_,e,_⟩:=r; rw[z] at e; cases e
 |dK=>obtain⟨_,e,_⟩:=r; rw[z] at e; cases e
theorem Le.fresh {p:Addr} {o:HO} (h:H p=none):Le ι H ι (upd H p o):=⟨⟨[],by simp,by simp⟩,fun x o' e _=>qX h e,fun x e=>by
 by_cases z:x=p
 ·subst z; rw[upd_same]; simp
 ·rw[upd_ne z]; exact e⟩
theorem Le.push {p:Addr} {o:HO} (h:H p=none):Le ι H (ι++[p]) (upd H p o):=⟨⟨[p],rfl,fun x hx=>by rw[List.mem_singleton.mp hx]; exact h⟩,(Le.fresh (ι:=ι) h).fr,(Le.fresh (ι:=ι) h).al⟩
theorem Le.put {p:Addr} {o:HO} (h:p∈ι):Le ι H ι (upd H p o):=⟨⟨[],by simp,by simp⟩,fun x o' e n=>by rw[upd_ne (fun z=>n (by rw[z]; exact h))]; exact e,fun x e=>by
 by_cases z:x=p
 ·subst z; rw[upd_same]; simp
 ·rw[upd_ne z]; exact e⟩
theorem Wd.fresh (w:Wd A ι H M) {p:Addr} {o:HO} (h:H p=none):Wd A ι (upd H p o) M :=
 ⟨w.nd,w.len,fun x hx=>(Le.fresh (ι:=ι) h).al x (w.dom x hx),w.na,fun k a ob e1 e2=>(w.obj k a ob e1 e2).le' (.fresh h) (upd_ne fun z=>by
  obtain⟨q,hq⟩:=w.mem_some (List.mem_of_getElem? e1)
  rw[z,h] at hq; cases hq) fun x ex=>upd_ne fun z=>by rw[z,h] at ex; cases ex⟩
theorem Wd.nin (w:Wd A ι H M) {p:Addr} (h:H p=none):p∉ι:=fun z=>by
 obtain⟨q,hq⟩:=w.mem_some z
 rw[h] at hq; cases hq
theorem Wd.nA (w:Wd A ι H M) {p:Addr} (h:H p=none):¬Av A ι p:=fun z=>z.elim (fun z=>w.dom p z h) (w.nin h)
theorem Wd.push (w:Wd A ι H M) {p:Addr} {o:HO} {mo:MO} (h:H p=none) (new:ObjR A (ι++[p]) (upd H p o) p mo):Wd A (ι++[p]) (upd H p o) (M++[mo]):=by
 have np:=w.nin h
 refine⟨List.nodup_append.mpr ⟨w.nd,by simp,fun a ha b hb=>?_⟩,by simp[w.len],fun x hx=>(Le.fresh (ι:=ι) h).al x (w.dom x hx),fun x hx=>?_,fun k a ob e1 e2=>?_⟩
 ·rw[List.mem_singleton.mp hb]; exact fun z=>np (by rw[<-z]; exact ha)
 ·rcases List.mem_append.mp hx with z|z
  ·exact w.na x z
  ·rw[List.mem_singleton.mp z]; exact fun z=>w.dom p z h
 ·by_cases hk:k<ι.length
  ·rw[List.getElem?_append_left hk] at e1
   rw[List.getElem?_append_left (by rw[<-w.len]; exact hk)] at e2
   exact(w.obj k a ob e1 e2).le' (.push h) (upd_ne fun z=>np (by rw[<-z]; exact List.mem_of_getElem? e1)) fun x ex=>upd_ne fun z=>by rw[z,h] at ex; cases ex
  ·have hk2:=(List.getElem?_eq_some_iff.mp e1).1
   rw[List.length_append,List.length_singleton] at hk2
   have:k=ι.length:=by omega
   subst this
   rw[List.getElem?_append_right (Nat.le_refl _),Nat.sub_self] at e1
   rw[w.len,List.getElem?_append_right (Nat.le_refl _),Nat.sub_self] at e2
   simp at e1 e2
   subst e1 e2
   exact new
theorem Wd.put (w:Wd A ι H M) {k:Nat} {p:Addr} {o:HO} {mo:MO} (e:ι[k]?=some p) (new:ObjR A ι (upd H p o) p mo):Wd A ι (upd H p o) (M.set k mo):=by
 have hp:=List.mem_of_getElem? e
 refine⟨w.nd,by rw[List.length_set]; exact w.len,fun x hx=>(Le.put hp).al x (w.dom x hx),w.na,fun j a ob e1 e2=>?_⟩
 by_cases hj:k=j
 ·subst hj
  rw[e] at e1; cases e1
  rw[List.getElem?_set_self (by rw[<-w.len]; exact(List.getElem?_eq_some_iff.mp e).1)] at e2
  cases e2
  exact new
 ·rw[List.getElem?_set_ne hj] at e2
  have na:a≠p:=fun z=>by
   subst z
   have h1:=List.getElem?_eq_some_iff.mp e
   have h2:=List.getElem?_eq_some_iff.mp e1
   exact hj ((List.getElem_inj w.nd).mp (h1.2.trans h2.2.symm))
  exact(w.obj j a ob e1 e2).le' (.put hp) (upd_ne na) fun x ex=>upd_ne fun z=>by
   rw[z] at ex; exact w.not_own hp ex
def EnvR (A:Addr->Prop) (ι:List Addr) (H:Hp):St->UEnv->Prop:=Paired fun(s:Option V) (r:Option U)=>∀u,r=some u->∃v,s=some v/\RepU A ι H v u
theorem EnvR.le (l:Le ι H ι' H') (r:EnvR A ι H σ ρ):EnvR A ι' H' σ ρ:=Paired.mapP r fun _ _ q u e=>by
 obtain⟨v,h1,h2⟩:=q u e
 exact⟨v,h1,h2.le l⟩
theorem EnvR.get (r:EnvR A ι H σ ρ) {i:Nat} {u:U} (e:ρ[i]?=some (some u)):∃v,σ[i]?=some (some v)/\RepU A ι H v u:=by
 obtain⟨s,h1,h2⟩:=Paired.getR r e
 obtain⟨v,rfl,h3⟩:=h2 u rfl
 exact⟨v,h1,h3⟩
theorem EnvR.put (r:EnvR A ι H σ ρ) (i:Nat) (q:RepU A ι H v u):EnvR A ι H (σ.set i (some v)) (ρ.set i (some u)):=Paired.put (fun w e=>by cases e; exact⟨v,rfl,q⟩) i r
def Qg (bs:List Bool) (n:Nat) (ρ:UEnv):UEnv:=(bs.zip ρ).map (fun p=>if p.1 then p.2 else none)++List.replicate n none
theorem EnvR.mask {bs:List Bool} {n:Nat} (r:EnvR A ι H σ ρ):EnvR A ι H (vD bs n σ) (Qg bs n ρ):=by
 refine Paired.app ?_ ?_
 ·induction r generalizing bs with
  |nil=>simp; exact .nil
  |cons q t ih =>
   cases bs with
   |nil=>exact .nil
   |cons b bs =>
    refine .cons ?_ ih
    cases b
    ·intro u e; simp at e
    ·simpa using q
 ·induction n with
  |zero=>exact .nil
  |succ n ih=>exact .cons (fun u e=>by cases e) ih
end
abbrev UK:=U->MM->Prop
abbrev UE:=UEnv->MM->UK->Prop
abbrev UT:=UEnv->MM->(Bool->MM->Prop)->Prop
abbrev UA:=UEnv->MM->(List U->MM->Prop)->Prop
def LE (te:TE) (ue:UE):Prop:=∀(A:Addr->Prop) (ι:List Addr) (σ:St) (H:Hp) (ρ:UEnv) (M:MM) (Qu:UK) (Q:VK),Wd A ι H M->EnvR A ι H σ ρ->ue ρ M Qu ->
 (∀u M' ι' v H',Le ι H ι' H'->Wd A ι' H' M'->RepU A ι' H' v u->Qu u M'->Q v H')->te σ H Q
def LT (tt:TT) (ut:UT):Prop:=∀(A:Addr->Prop) (ι:List Addr) (σ:St) (H:Hp) (ρ:UEnv) (M:MM) (Qu:Bool->MM->Prop) (Q:Bool->Hp->Prop),Wd A ι H M->EnvR A ι H σ ρ->ut ρ M Qu ->
 (∀b M' ι' H',Le ι H ι' H'->Wd A ι' H' M'->Qu b M'->Q b H')->tt σ H Q
def LA (n:Nat) (ta:TA) (ua:UA):Prop:=∀(A:Addr->Prop) (ι:List Addr) (σ:St) (H:Hp) (ρ:UEnv) (M:MM) (Qu:List U->MM->Prop) (Q:List V->Hp->Prop),Wd A ι H M->EnvR A ι H σ ρ->ua ρ M Qu ->
 (∀us M' ι' vs H',Le ι H ι' H'->Wd A ι' H' M'->us.length=n->RepUs A ι' H' vs us->Qu us M'->Q vs H')->ta σ H Q
section
variable {ta tb tc:TE} {ua ub uc:UE} {tt tt':TT} {ut ut':UT} {tl:TA} {ul:UA} {n:Nat}
def uVar (i:Nat):UE:=fun ρ M Q=>∃u,ρ[i]?=some (some u)/\Q u M
theorem le_var (i:Nat):LE (tVar i) (uVar i):=fun A ι σ H ρ M Qu Q w e ⟨u,h,q⟩ k=>by
 obtain⟨v,h1,h2⟩:=e.get h
 exact⟨v,h1,k u M ι v H (.refl _ _) w h2 q⟩
inductive Sc:V->T->Prop
 |non:Sc .non .non
 |bl (b:Bool):Sc (.bl b) (.bl b)
 |int (i:Int):Sc (.int i) (.int i)
 |str (x:Str):Sc (.str x) (.str x)
theorem Sc.rep {A:Addr->Prop} {H:Hp} {v:V} {t:T} (h:Sc v t):RepT A H v t:=by cases h<;>constructor
def uC (t:T):UE:=fun _ M Q=>Q (.p t) M
theorem le_c {v:V} {t:T} (h:Sc v t):LE (tC v) (uC t):=fun A ι σ H ρ M Qu Q w e q k=>k _ M ι v H (.refl _ _) w (.p h.rep) q
def uNil:UA:=fun _ M Q=>Q [] M
def uCons (ua:UE) (ul:UA):UA:=fun ρ M Q=>ua ρ M fun x M1=>ul ρ M1 fun xs M2=>Q (x::xs) M2
theorem la_nil:LA 0 tNil uNil:=fun A ι σ H ρ M Qu Q w e q k=>k [] M ι [] H (.refl _ _) w rfl .nil q
theorem la_cons (ha:LE ta ua) (hl:LA n tl ul):LA (n+1) (zr ta tl) (uCons ua ul):=fun A ι σ H ρ M Qu Q w e q k =>
 ha A ι σ H ρ M _ _ w e q fun x M1 ι1 v H1 l1 w1 r1 q1=>hl A ι1 σ H1 ρ M1 _ _ w1 (e.le l1) q1 fun xs M2 ι2 vs H2 l2 w2 hn r2 q2 =>
  k (x::xs) M2 ι2 (v::vs) H2 (l1.trans l2) w2 (by rw[List.length_cons,hn]) (.cons (r1.le l2) r2) q2
def vM:List U->Option (List T)
 | []=>some []
 |.p t::r=>(vM r).map (t :: ·)
 |.m _::_=>none
 |.x _ _ _::_=>none
@[simp] theorem xh:∀ts:List T,vM (ts.map U.p)=some ts
 | []=>rfl
 |t::r=>by simp[vM,xh r]
theorem vY:∀{us:List U} {ts:List T},vM us=some ts->us=ts.map U.p
 | [],_,h=>by simp[vM] at h; subst h; rfl
 |.p t::r,ts,h=>by
  simp[vM] at h
  obtain⟨a,h1,rfl⟩:=h
  rw[List.map_cons, <-vY h1]
 |.m _::_,_,h=>by simp[vM] at h
 |.x _ _ _::_,_,h=>by simp[vM] at h
def sn (M:MM):U->Option T
 |.p t=>some t
 |.m k=>match M[k]? with
  |some (.lst us)=>(vM us).map T.lst
  |some (.tup us)=>(vM us).map T.tup
  |_=>none
 |.x _ _ _=>none
def sns (M:MM):List U->Option (List T)
 | []=>some []
 |u::r=>match sn M u,sns M r with
  |some t,some ts=>some (t::ts)
  |_,_=>none
inductive RepV (A:Addr->Prop) (H:Hp):V->T->Prop
 |of {v:V} {t:T} (r:RepT A H v t):RepV A H v t
 |lst {p:Addr} {vs:List V} {ts:List T} (e:H p=some (.lst vs)) (r:RepTs A H vs ts):RepV A H (.ref p) (.lst ts)
 |tup {p:Addr} {vs:List V} {ts:List T} (e:H p=some (.tup vs)) (r:RepTs A H vs ts):RepV A H (.ref p) (.tup ts)
variable {A:Addr->Prop} {H H':Hp} {ι:List Addr} {M:MM} {v:V} {u:U} {t:T}
theorem RepV.lst_inv {ts:List T} (r:RepV A H v (.lst ts)):∃p vs,v=.ref p/\H p=some (.lst vs)/\RepTs A H vs ts:=by
 cases r with
 |of r=>obtain⟨p,vs,h1,_,h2,h3⟩:=r.lst_inv; exact⟨p,vs,h1,h2,h3⟩
 |lst e r=>exact⟨_,_,rfl,e,r⟩
theorem RepV.tup_inv {ts:List T} (r:RepV A H v (.tup ts)):∃p vs,v=.ref p/\H p=some (.tup vs)/\RepTs A H vs ts:=by
 cases r with
 |of r=>obtain⟨p,vs,h1,_,h2,h3⟩:=r.tup_inv; exact⟨p,vs,h1,h2,h3⟩
 |tup e r=>exact⟨_,_,rfl,e,r⟩
theorem RepV.int_inv {i:Int} (r:RepV A H v (.int i)):v=.int i:=by cases r with|of r=>cases r; rfl
theorem RepV.bl_inv {i:Bool} (r:RepV A H v (.bl i)):v=.bl i:=by cases r with|of r=>cases r; rfl
theorem RepV.str_inv {i:Str} (r:RepV A H v (.str i)):v=.str i:=by cases r with|of r=>cases r; rfl
theorem RepV.non_inv (r:RepV A H v .non):v=.non:=by cases r with|of r=>cases r; rfl
theorem RepUs.pures {vs:List V} {ts:List T} (r:RepUs A ι H vs (ts.map U.p)):RepTs (Av A ι) H vs ts:=Paired.unmapR (fun a b q=>by cases q with|p r=>exact r) r
theorem RepTs.ups {vs:List V} {ts:List T} (r:RepTs (Av A ι) H vs ts):RepUs A ι H vs (ts.map U.p):=Paired.mapR (fun a b q=>.p q) r
theorem RepU.sn (w:Wd A ι H M) (r:RepU A ι H v u) (e:sn M u=some t):RepV (Av A ι) H v t:=by
 cases r with
 |p r=>simp[L2.sn] at e; subst e; exact .of r
 |m q =>
  obtain⟨o,h1,h2⟩:=w.al q
  simp only[L2.sn,h1] at e
  cases o with
  |lst us =>
   simp at e
   obtain⟨ts,e1,rfl⟩:=e
   obtain⟨vs,h3,h4⟩:=h2
   rw[vY e1] at h4
   exact .lst h3 h4.pures
  |tup us =>
   simp at e
   obtain⟨ts,e1,rfl⟩:=e
   obtain⟨vs,h3,h4⟩:=h2
   rw[vY e1] at h4
   exact .tup h3 h4.pures
  |ins=>simp at e
  |dK=>simp at e
 |x h=>simp[L2.sn] at e
theorem RepUs.sns (w:Wd A ι H M):∀{vs:List V} {us:List U} {ts:List T},RepUs A ι H vs us->sns M us=some ts->Paired (RepV (Av A ι) H) vs ts
 |_,_,ts, .nil,e=>by simp[L2.sns] at e; subst e; exact .nil
 |_,_,ts, .cons r q,e=>by
  simp only[L2.sns] at e
  split at e
  ·rename_i h1 h2
   simp at e; subst e
   exact .cons (r.sn w h1) (RepUs.sns w q h2)
  ·cases e
def OpL (r:R2) (s:T->T->(T->Prop)->Prop):Prop:=∀(A:Addr->Prop) (ι:List Addr) (H:Hp) (M:MM) (x y:V) (a b:T) (Qs:T->Prop) (Q:VK),Wd A ι H M->RepV (Av A ι) H x a->RepV (Av A ι) H y b->s a b Qs ->
 (∀t ι' v H',Le ι H ι' H'->Wd A ι' H' M->RepT (Av A ι') H' v t->Qs t->Q v H')->r x y H Q
def uOp (s:T->T->(T->Prop)->Prop) (ua ub:UE):UE:=fun ρ M Q=>ua ρ M fun x M1=>ub ρ M1 fun y M2=>∃a b,sn M2 x=some a/\sn M2 y=some b/\s a b fun t=>Q (.p t) M2
theorem le_op {r:R2} {s:T->T->(T->Prop)->Prop} (h:OpL r s) (ha:LE ta ua) (hb:LE tb ub):LE (tOp r ta tb) (uOp s ua ub):=fun A ι σ H ρ M Qu Q w e q k =>
 ha A ι σ H ρ M _ _ w e q fun x M1 ι1 v H1 l1 w1 r1 q1=>hb A ι1 σ H1 ρ M1 _ _ w1 (e.le l1) q1 fun y M2 ι2 v2 H2 l2 w2 r2 ⟨a,b,e1,e2,q2⟩ =>
  h A ι2 H2 M2 v v2 a b _ Q w2 ((r1.le l2).sn w2 e1) (r2.sn w2 e2) q2 fun t ι3 z H3 l3 w3 r3 q3=>k _ M2 ι3 z H3 ((l1.trans l2).trans l3) w3 (.p r3) q3
def sI (C:Int->Int->Prop) (g:Int->Int->T):T->T->(T->Prop)->Prop:=fun a b Q=>∃i j,a=.int i/\b=.int j/\C i j/\Q (g i j)
def sI0 (g:Int->Int->T):T->T->(T->Prop)->Prop:=fun a b Q=>∃i j,a=.int i/\b=.int j/\Q (g i j)
theorem VW {C:Int->Int->Prop} {gv:Int->Int->V} {g:Int->Int->T} (hg:∀i j,Sc (gv i j) (g i j)):OpL (rI C gv) (sI C g):=fun A ι H M x y a b Qs Q w r1 r2 ⟨i,j,ea,eb,c,q⟩ k=>by
 subst ea eb
 exact⟨i,j,r1.int_inv,r2.int_inv,c,k _ ι _ H (.refl _ _) w (hg i j).rep q⟩
theorem qP {gv:Int->Int->V} {g:Int->Int->T} (hg:∀i j,Sc (gv i j) (g i j)):OpL (rI0 gv) (sI0 g):=fun A ι H M x y a b Qs Q w r1 r2 ⟨i,j,ea,eb,q⟩ k=>by
 subst ea eb
 exact⟨i,j,r1.int_inv,r2.int_inv,k _ ι _ H (.refl _ _) w (hg i j).rep q⟩
def vt:T->Option V
 |.non=>some .non
 |.bl b=>some (.bl b)
 |.int i=>some (.int i)
 |.str x=>some (.str x)
 |_=>none
theorem QD {x:V} (e:vt t=some x):Sc x t:=by
 cases t<;>simp[vt] at e<;>subst e<;>constructor
theorem RepV.sc {x y:V} (r:RepV A H v t) (e:vt t=some x):v=x:=by
 cases QD e with
 |non=>exact r.non_inv
 |bl=>exact r.bl_inv
 |int=>exact r.int_inv
 |str=>exact r.str_inv
def sEq (neg:Bool):T->T->(T->Prop)->Prop:=fun a b Q=>∃x y,vt a=some x/\vt b=some y/\scal x y=true/\Q (.bl (if neg then !decide (x=y) else decide (x=y)))
theorem vm:OpL rEq (sEq false):=fun A ι H M x y a b Qs Q w r1 r2 ⟨x',y',e1,e2,sc,q⟩ k=>by
 cases r1.sc (y:=.non) e1; cases r2.sc (y:=.non) e2
 exact⟨sc,k _ ι _ H (.refl _ _) w (.bl _) q⟩
theorem opl_ne:OpL rNe (sEq true):=fun A ι H M x y a b Qs Q w r1 r2 ⟨x',y',e1,e2,sc,q⟩ k=>by
 cases r1.sc (y:=.non) e1; cases r2.sc (y:=.non) e2
 exact⟨sc,k _ ι _ H (.refl _ _) w (.bl _) q⟩
def sStr:T->T->(T->Prop)->Prop:=fun a b Q=>∃i j,a=.str i/\b=.str j/\i.length+j.length<=sizeLine/\Q (.str (i++j))
theorem zj:OpL (fun x y H Q=>∃i j,x=.str i/\y=.str j/\i.length+j.length<=sizeLine/\Q (.str (i++j)) H) sStr:=fun A ι H M x y a b Qs Q w r1 r2 ⟨i,j,ea,eb,c,q⟩ k=>by
 subst ea eb
 exact⟨i,j,r1.str_inv,r2.str_inv,c,k _ ι _ H (.refl _ _) w (.str _) q⟩
theorem zp (w:Wd A ι H M) {p:Addr} {vs:List V} {ts:List T} (h:H p=none) (r:RepTs (Av A ι) H vs ts):RepT (Av A ι) (upd H p (.lst vs)) (.ref p) (.lst ts) :=
 .lstP (w.nA h) upd_same (Paired.mapP r fun _ _ q=>q.le (.fresh h))
theorem zo (w:Wd A ι H M) {p:Addr} {vs:List V} {ts:List T} (h:H p=none) (r:RepTs (Av A ι) H vs ts):RepT (Av A ι) (upd H p (.tup vs)) (.ref p) (.tup ts) :=
 .tupP (w.nA h) upd_same (Paired.mapP r fun _ _ q=>q.le (.fresh h))
def sCat:T->T->(T->Prop)->Prop:=fun a b Q=>∃xs ys,a=.lst xs/\b=.lst ys/\xs.length+ys.length<=sizeLine/\Q (.lst (xs++ys))
theorem v3:OpL rCat sCat:=fun A ι H M x y a b Qs Q w r1 r2 ⟨xs,ys,ea,eb,hz,q⟩ k=>by
 subst ea eb
 obtain⟨p,vs,rfl,h1,q1⟩:=r1.lst_inv
 obtain⟨p2,vs2,rfl,h2,q2⟩:=r2.lst_inv
 exact⟨p,p2,vs,vs2,rfl,rfl,h1,h2,by rw[q1.len,q2.len]; exact hz,fun p hp=>k _ ι _ _ (.fresh hp) (w.fresh hp) (zp w hp (q1.app q2)) q⟩
theorem kw {α β:Type} {F:α->β->Prop} {l:List α} {m:List β} (h:Paired F l m):∀n:Nat,Paired F (List.replicate n l).flatten (List.replicate n m).flatten
 |0=>.nil
 |n+1=>by rw[List.replicate_succ,List.replicate_succ,List.flatten_cons,List.flatten_cons]; exact h.app (kw h n)
def V8:U->Bool
 |.p .non=>true
 |_=>false
theorem KO (r:RepU A ι H v u):decide (v=.non)=V8 u:=by
 cases r with
 |p r=>cases r<;>simp[V8]
 |m e=>simp[V8]
 |x h=>simp[V8]
def uIsN (neg:Bool) (ua:UE):UE:=fun ρ M Q=>ua ρ M fun x M1=>Q (.p (.bl (if neg then !V8 x else V8 x))) M1
theorem le_isN (ha:LE ta ua):LE (tOp (fun x y H Q=>y=.non/\Q (.bl (decide (x=.non))) H) ta (tC .non)) (uIsN false ua):=fun A ι σ H ρ M Qu Q w e q k =>
 ha A ι σ H ρ M _ _ w e q fun x M1 ι1 v H1 l1 w1 r1 q1=>⟨rfl,by rw[KO r1]; exact k _ M1 ι1 _ H1 l1 w1 (.p (.bl _)) q1⟩
def uNeg (ua:UE):UE:=fun ρ M Q=>ua ρ M fun x M1=>∃i,x=.p (.int i)/\Q (.p (.int (-i))) M1
def uB (ua:UE):UT:=fun ρ M Q=>ua ρ M fun x M1=>∃b,x=.p (.bl b)/\Q b M1
theorem lt_b (ha:LE ta ua):LT (tB ta) (uB ua):=fun A ι σ H ρ M Qu Q w e q k =>
 ha A ι σ H ρ M _ _ w e q fun x M1 ι1 v H1 l1 w1 r1 ⟨b,ex,q1⟩=>by
  subst ex
  cases r1 with
  |p r=>cases r; exact⟨b,rfl,k b M1 ι1 H1 l1 w1 q1⟩
theorem lt_test (ha:LE ta ua):LT (jn ta) (uB ua):=lt_b ha
def truU (M:MM):U->Option Bool
 |.p .non=>some false
 |.p (.bl b)=>some b
 |.p (.int i)=>some (i != 0)
 |.p (.lst ts)=>some (!ts.isEmpty)
 |.p (.tup ts)=>some (!ts.isEmpty)
 |.m k=>match M[k]? with
  |some (.lst us)=>some (!us.isEmpty)
  |some (.tup us)=>some (!us.isEmpty)
  |some (.dK us)=>some (!us.isEmpty)
  |_=>none
 |_=>none
def uAnd (t s:UT):UT:=fun ρ M Q=>t ρ M fun c M1=>if c=true then s ρ M1 Q else Q false M1
def uOr (t s:UT):UT:=fun ρ M Q=>t ρ M fun c M1=>if c=true then Q true M1 else s ρ M1 Q
def uNot (t:UT):UT:=fun ρ M Q=>t ρ M fun c M1=>Q (!c) M1
theorem lt_and (ha:LT tt ut) (hb:LT tt' ut'):LT (tAnd tt tt') (uAnd ut ut'):=fun A ι σ H ρ M Qu Q w e q k =>
 ha A ι σ H ρ M _ _ w e q fun c M1 ι1 H1 l1 w1 q1=>by
  cases c with
  |false=>exact k false M1 ι1 H1 l1 w1 q1
  |true=>exact hb A ι1 σ H1 ρ M1 _ _ w1 (e.le l1) q1 fun b M2 ι2 H2 l2 w2 q2=>k b M2 ι2 H2 (l1.trans l2) w2 q2
theorem lt_or (ha:LT tt ut) (hb:LT tt' ut'):LT (tOr tt tt') (uOr ut ut'):=fun A ι σ H ρ M Qu Q w e q k =>
 ha A ι σ H ρ M _ _ w e q fun c M1 ι1 H1 l1 w1 q1=>by
  cases c with
  |true=>exact k true M1 ι1 H1 l1 w1 q1
  |false=>exact hb A ι1 σ H1 ρ M1 _ _ w1 (e.le l1) q1 fun b M2 ι2 H2 l2 w2 q2=>k b M2 ι2 H2 (l1.trans l2) w2 q2
theorem lt_not (ha:LT tt ut):LT (tNot tt) (uNot ut):=fun A ι σ H ρ M Qu Q w e q k =>
 ha A ι σ H ρ M _ _ w e q fun c M1 ι1 H1 l1 w1 q1=>k _ M1 ι1 H1 l1 w1 q1
def uAndV (ua ub:UE):UE:=fun ρ M Q=>ua ρ M fun x M1=>∃c,x=.p (.bl c)/\if c=true then ub ρ M1 Q else Q (.p (.bl false)) M1
def uOrV (ua ub:UE):UE:=fun ρ M Q=>ua ρ M fun x M1=>∃c,x=.p (.bl c)/\if c=true then Q (.p (.bl true)) M1 else ub ρ M1 Q
def uNotV (ua:UE):UE:=fun ρ M Q=>ua ρ M fun x M1=>∃c,x=.p (.bl c)/\Q (.p (.bl (!c))) M1
theorem le_andV (ha:LE ta ua) (hb:LE tb ub):LE (QU ta tb) (uAndV ua ub):=fun A ι σ H ρ M Qu Q w e q k =>
 ha A ι σ H ρ M _ _ w e q fun x M1 ι1 v H1 l1 w1 r1 ⟨c,ex,q1⟩=>by
  subst ex
  cases r1 with
  |p r =>
   cases r
   refine⟨c,rfl, ?_⟩
   cases c with
   |false=>exact k _ M1 ι1 _ H1 l1 w1 (.p (.bl _)) q1
   |true=>exact hb A ι1 σ H1 ρ M1 _ _ w1 (e.le l1) q1 fun b M2 ι2 v2 H2 l2 w2 r2 q2=>k b M2 ι2 v2 H2 (l1.trans l2) w2 r2 q2
def uIf (t:UT) (ua ub:UE):UE:=fun ρ M Q=>t ρ M fun c M1=>if c=true then ua ρ M1 Q else ub ρ M1 Q
theorem le_if (hc:LT tt ut) (ha:LE ta ua) (hb:LE tb ub):LE (tIf tt ta tb) (uIf ut ua ub):=fun A ι σ H ρ M Qu Q w e q k =>
 hc A ι σ H ρ M _ _ w e q fun c M1 ι1 H1 l1 w1 q1=>by
  cases c with
  |true=>exact ha A ι1 σ H1 ρ M1 _ _ w1 (e.le l1) q1 fun b M2 ι2 v2 H2 l2 w2 r2 q2=>k b M2 ι2 v2 H2 (l1.trans l2) w2 r2 q2
  |false=>exact hb A ι1 σ H1 ρ M1 _ _ w1 (e.le l1) q1 fun b M2 ι2 v2 H2 l2 w2 r2 q2=>k b M2 ι2 v2 H2 (l1.trans l2) w2 r2 q2
def Zx (s s':T->T->(T->Prop)->Prop) (ua ub uc:UE):UE:=fun ρ M Q=>ua ρ M fun x M1=>ub ρ M1 fun y M2=>∃a b,sn M2 x=some a/\sn M2 y=some b/\s a b fun z=>∃k,z=.bl k /\
 if k=true then uc ρ M2 fun c M3=>∃b' c',sn M3 y=some b'/\sn M3 c=some c'/\s' b' c' fun t=>Q (.p t) M3 else Q (.p (.bl false)) M2
theorem le_chain {r r':R2} {s s':T->T->(T->Prop)->Prop} (h:OpL r s) (h':OpL r' s') (ha:LE ta ua) (hb:LE tb ub) (hc:LE tc uc):LE (jh r r' ta tb tc) (Zx s s' ua ub uc):=by
 intro A ι σ H ρ M Qu Q w e q k
 refine ha A ι σ H ρ M _ _ w e q fun x M1 ι1 v H1 l1 w1 r1 q1=>?_
 refine hb A ι1 σ H1 ρ M1 _ _ w1 (e.le l1) q1 fun y M2 ι2 v2 H2 l2 w2 r2 q2=>?_
 obtain⟨a,b,e1,e2,q2⟩:=q2
 refine h A ι2 H2 M2 v v2 a b _ _ w2 ((r1.le l2).sn w2 e1) (r2.sn w2 e2) q2 fun t ι3 z H3 l3 w3 r3 q3=>?_
 obtain⟨kk,et,q3⟩:=q3
 subst et
 cases r3
 refine⟨kk,rfl, ?_⟩
 cases kk with
 |false=>exact k _ M2 ι3 _ H3 ((l1.trans l2).trans l3) w3 (.p (.bl _)) q3
 |true =>
  refine hc A ι3 σ H3 ρ M2 _ _ w3 (e.le ((l1.trans l2).trans l3)) q3 fun c M4 ι4 v4 H4 l4 w4 r4 q4=>?_
  obtain⟨b',c',e3,e4,q4⟩:=q4
  exact h' A ι4 H4 M4 v2 v4 b' c' _ Q w4 ((r2.le (l3.trans l4)).sn w4 e3) (r4.sn w4 e4) q4 fun t ι5 z H5 l5 w5 r5 q5=>k _ M4 ι5 z H5 ((((l1.trans l2).trans l3).trans l4).trans l5) w5 (.p r5) q5
def uTup (ul:UA):UE:=fun ρ M Q=>ul ρ M fun us M1=>∃ts,vM us=some ts/\Q (.p (.tup ts)) M1
def uLst (ul:UA):UE:=fun ρ M Q=>ul ρ M fun us M1=>∃ts,vM us=some ts/\Q (.p (.lst ts)) M1
def uNew (ul:UA):UE:=fun ρ M Q=>ul ρ M fun us M1=>Q (.m M1.length) (M1++[.lst us])
def uNewT (ul:UA):UE:=fun ρ M Q=>ul ρ M fun us M1=>Q (.m M1.length) (M1++[.tup us])
theorem le_tup (ha:LA n tl ul) (hn:n<=1000:=by decide):LE (tTup tl) (uTup ul):=fun A ι σ H ρ M Qu Q w e q k =>
 ha A ι σ H ρ M _ _ w e q fun us M1 ι1 vs H1 l1 w1 hl r1 ⟨ts,et,q1⟩=>by
  have r2:=r1
  rw[vY et] at r2
  exact⟨by rw[r1.len,hl]; exact Nat.le_of_lt (qC hn),fun p hp=>k _ M1 ι1 _ _ (l1.trans (.fresh hp)) (w1.fresh hp) (.p (zo w1 hp r2.pures)) q1⟩
theorem le_lst (ha:LA n tl ul) (hn:n<=1000:=by decide):LE (tLst tl) (uLst ul):=fun A ι σ H ρ M Qu Q w e q k =>
 ha A ι σ H ρ M _ _ w e q fun us M1 ι1 vs H1 l1 w1 hl r1 ⟨ts,et,q1⟩=>by
  have r2:=r1
  rw[vY et] at r2
  exact⟨by rw[r1.len,hl]; exact Nat.le_of_lt (qC hn),fun p hp=>k _ M1 ι1 _ _ (l1.trans (.fresh hp)) (w1.fresh hp) (.p (zp w1 hp r2.pures)) q1⟩
theorem xR {α:Type} {l:List α} {x:α}:(l++[x])[l.length]?=some x:=by rw[List.getElem?_append_right (Nat.le_refl _),Nat.sub_self]; rfl
theorem Kj (w:Wd A ι H M) {p:Addr} {vs:List V} {us:List U} (h:H p=none) (r:RepUs A ι H vs us):Wd A (ι++[p]) (upd H p (.lst vs)) (M++[.lst us])/\RepU A (ι++[p]) (upd H p (.lst vs)) (.ref p) (.m M.length) :=
 ⟨w.push h ⟨vs,upd_same,r.le (.push h)⟩, .m (by rw[<-w.len]; exact xR)⟩
theorem le_new (ha:LA n tl ul) (hn:n<=1000:=by decide):LE (tLst tl) (uNew ul):=fun A ι σ H ρ M Qu Q w e q k =>
 ha A ι σ H ρ M _ _ w e q fun us M1 ι1 vs H1 l1 w1 hl r1 q1=>⟨by rw[r1.len,hl]; exact Nat.le_of_lt (qC hn),fun p hp=>k _ _ _ _ _ (l1.trans (.push hp)) (Kj w1 hp r1).1 (Kj w1 hp r1).2 q1⟩
def qV (M:MM):U->Option (List U)
 |.p (.lst ts)=>some (ts.map .p)
 |.m k=>match M[k]? with
  |some (.lst us)=>some us
  |_=>none
 |_=>none
def vi (M:MM):U->Option (List U)
 |.p (.tup ts)=>some (ts.map .p)
 |.m k=>match M[k]? with
  |some (.tup us)=>some us
  |_=>none
 |_=>none
theorem vE {us:List U} (w:Wd A ι H M) (r:RepU A ι H v u) (e:qV M u=some us):∃p vs,v=.ref p/\H p=some (.lst vs)/\RepUs A ι H vs us:=by
 cases r with
 |p r =>
  cases r with
  |lst na e1 l r=>simp[qV] at e; subst e; exact⟨_,_,rfl,e1,RepTs.ups (Paired.of_get l r)⟩
  |_=>simp[qV] at e
 |m q =>
  obtain⟨o,h1,h2⟩:=w.al q
  simp only[qV,h1] at e
  cases o with
  |lst us=>simp at e; subst e; obtain⟨vs,h3,h4⟩:=h2; exact⟨_,_,rfl,h3,h4⟩
  |_=>simp at e
 |x h=>simp[qV] at e
theorem zm {us:List U} (w:Wd A ι H M) (r:RepU A ι H v u) (e:vi M u=some us):∃p vs,v=.ref p/\H p=some (.tup vs)/\RepUs A ι H vs us:=by
 cases r with
 |p r =>
  cases r with
  |tup na e1 l r=>simp[vi] at e; subst e; exact⟨_,_,rfl,e1,RepTs.ups (Paired.of_get l r)⟩
  |_=>simp[vi] at e
 |m q =>
  obtain⟨o,h1,h2⟩:=w.al q
  simp only[vi,h1] at e
  cases o with
  |tup us=>simp at e; subst e; obtain⟨vs,h3,h4⟩:=h2; exact⟨_,_,rfl,h3,h4⟩
  |_=>simp at e
 |x h=>simp[vi] at e
theorem atI_rep {vs:List V} {us:List U} {i:Int} {z:U} (r:RepUs A ι H vs us) (e:atI us i=some z):∃x,atI vs i=some x/\RepU A ι H x z:=by
 unfold atI at e ⊢
 rw[r.len]
 cases q:ixN us.length i with
 |none=>rw[q] at e; cases e
 |some j =>
  rw[q] at e
  exact Paired.getR r e
def uIx (it:MM->U->Option (List U)) (ua ub:UE):UE:=fun ρ M Q=>ua ρ M fun x M1=>ub ρ M1 fun y M2=>∃us i z,it M2 x=some us/\y=.p (.int i)/\atI us i=some z/\Q z M2
theorem le_ixL {K:PySem.W.Frag} (ha:LE ta ua) (hb:LE tb ub):LE (tOp (rIxL K) ta tb) (uIx qV ua ub):=fun A ι σ H ρ M Qu Q w e q k =>
 ha A ι σ H ρ M _ _ w e q fun x M1 ι1 v H1 l1 w1 r1 q1=>hb A ι1 σ H1 ρ M1 _ _ w1 (e.le l1) q1 fun y M2 ι2 v2 H2 l2 w2 r2 ⟨us,i,z,e1,e2,e3,q2⟩=>by
  subst e2
  obtain⟨p,vs,rfl,h1,h2⟩:=vE w2 (r1.le l2) e1
  obtain⟨x',h3,h4⟩:=atI_rep h2 e3
  cases r2 with
  |p r=>cases r; exact⟨p,vs,i,x',rfl,rfl,SqL.of h1,h3,k z M2 ι2 x' H2 (l1.trans l2) w2 h4 q2⟩
def CbL (r:List V->Hp->VK->Prop) (s:List T->(T->Prop)->Prop):Prop:=∀(A:Addr->Prop) (ι:List Addr) (H:Hp) (M:MM) (vs:List V) (ts:List T) (Qs:T->Prop) (Q:VK),Wd A ι H M->Paired (RepV (Av A ι) H) vs ts->s ts Qs ->
 (∀t ι' v H',Le ι H ι' H'->Wd A ι' H' M->RepT (Av A ι') H' v t->Qs t->Q v H')->r vs H Q
def uCb (s:List T->(T->Prop)->Prop) (ul:UA):UE:=fun ρ M Q=>ul ρ M fun us M1=>∃ts,sns M1 us=some ts/\s ts fun t=>Q (.p t) M1
theorem le_cb {r:List V->Hp->VK->Prop} {s:List T->(T->Prop)->Prop} (h:CbL r s) (ha:LA n tl ul):LE (tCB r tl) (uCb s ul):=fun A ι σ H ρ M Qu Q w e q k =>
 ha A ι σ H ρ M _ _ w e q fun us M1 ι1 vs H1 l1 w1 hl r1 ⟨ts,e1,q1⟩=>h A ι1 H1 M1 vs ts _ Q w1 (r1.sns w1 e1) q1 fun t ι2 z H2 l2 w2 r2 q2=>k _ M1 ι2 z H2 (l1.trans l2) w2 (.p r2) q2
theorem pv1 {vs:List V} {t:T} (r:Paired (RepV A H) vs [t]):∃v,vs=[v]/\RepV A H v t:=by
 cases r with
 |cons r q=>cases q; exact⟨_,rfl,r⟩
def sAbs:List T->(T->Prop)->Prop:=fun ts Q=>∃i,ts=[.int i]/\Q (.int (if i<0 then -i else i))
def sMin:List T->(T->Prop)->Prop:=fun ts Q=>∃i j,ts=[.int i, .int j]/\Q (.int (if j<i then j else i))
def sMax:List T->(T->Prop)->Prop:=fun ts Q=>∃i j,ts=[.int i, .int j]/\Q (.int (if j>i then j else i))
def sInt:List T->(T->Prop)->Prop:=fun ts Q=>(∃i,ts=[.int i]/\Q (.int i))\/∃k,ts=[.bl k]/\Q (.int (if k then 1 else 0))
theorem Zl:CbL (fun xs H Q=>(∃i,xs=[.int i]/\Q (.int i) H)\/∃k,xs=[.bl k]/\Q (.int (if k then 1 else 0)) H) sInt:=fun A ι H M vs ts Qs Q w r h k=>by
 rcases h with⟨i,e,q⟩|⟨b,e,q⟩
 ·subst e
  obtain⟨v,ev,r1⟩:=pv1 r
  subst ev
  cases r1.int_inv
  exact .inl ⟨i,rfl,k _ ι _ H (.refl _ _) w (.int _) q⟩
 ·subst e
  obtain⟨v,ev,r1⟩:=pv1 r
  subst ev
  cases r1.bl_inv
  exact .inr ⟨b,rfl,k _ ι _ H (.refl _ _) w (.int _) q⟩
def bls:List T->Option (List Bool)
 | []=>some []
 |.bl b::r=>(bls r).map (b :: ·)
 |_=>none
@[simp] theorem Yq:∀bs:List Bool,bls (bs.map T.bl)=some bs
 | []=>rfl
 |b::r=>by simp[bls,Yq r]
theorem Yp:∀{vs:List V} {ts:List T} {bs:List Bool},RepTs A H vs ts->bls ts=some bs->vs=bs.map V.bl
 |_,_,_, .nil,e=>by simp[bls] at e; subst e; rfl
 |_,_,_, .cons r q,e=>by
  cases r<;>simp[bls] at e
  obtain⟨a,h1,rfl⟩:=e
  rw[List.map_cons,Yp q h1]
def sAll:List T->(T->Prop)->Prop:=fun ts Q=>∃xs bs,ts=[.lst xs]/\bls xs=some bs/\Q (.bl (bs.all id))
theorem cbl_all:CbL rAll sAll:=fun A ι H M vs ts Qs Q w r ⟨xs,bs,e,eb,q⟩ k=>by
 subst e
 obtain⟨v,ev,r1⟩:=pv1 r
 subst ev
 obtain⟨p,zs,rfl,h1,h2⟩:=r1.lst_inv
 exact⟨p,bs,rfl,by rw[h1,Yp h2 eb],k _ ι _ H (.refl _ _) w (.bl _) q⟩
def uLen (it:MM->U->Option (List U)) (ul:UA):UE:=fun ρ M Q=>ul ρ M fun us M1=>∃x ys,us=[x]/\it M1 x=some ys/\Q (.p (.int ys.length)) M1
theorem le_len (ha:LA n tl ul):LE (tCB rLenL tl) (uLen qV ul):=fun A ι σ H ρ M Qu Q w e q k =>
 ha A ι σ H ρ M _ _ w e q fun us M1 ι1 vs H1 l1 w1 hl r1 ⟨x,ys,e1,e2,q1⟩=>by
  subst e1
  cases r1 with
  |cons r q =>
   cases q
   obtain⟨p,zs,rfl,h1,h2⟩:=vE w1 r e2
   exact⟨p,zs,rfl,h1,by rw[h2.len]; exact k _ M1 ι1 _ H1 l1 w1 (.p (.int _)) q1⟩
def uBits (ua:UE):UE:=fun ρ M Q=>ua ρ M fun x M1=>∃i,x=.p (.int i)/\Q (.p (.int (Builtin.Int.intBits i))) M1
def cutT (xs:List T) (lo hi:Option Int):List T:=(xs.drop (HT.sIx xs.length 0 lo)).take (HT.sIx xs.length xs.length hi-HT.sIx xs.length 0 lo)
theorem cut_rep {vs:List V} {ts:List T} {lo hi:Option Int} (r:RepTs A H vs ts):RepTs A H (cutV vs lo hi) (cutT ts lo hi):=by
 unfold cutV cutT
 rw[r.len]
 exact(r.dr _).tk _
abbrev UO:=UEnv->MM->(Option Int->MM->Prop)->Prop
def LO (to:TO) (uo:UO):Prop:=∀(A:Addr->Prop) (ι:List Addr) (σ:St) (H:Hp) (ρ:UEnv) (M:MM) (Qu:Option Int->MM->Prop) (Q:Option Int->Hp->Prop),Wd A ι H M->EnvR A ι H σ ρ->uo ρ M Qu ->
 (∀b M' ι' H',Le ι H ι' H'->Wd A ι' H' M'->Qu b M'->Q b H')->to σ H Q
def VI:UO:=fun _ M Q=>Q none M
def uPart (ua:UE):UO:=fun ρ M Q=>ua ρ M fun x M1=>∃i,x=.p (.int i)/\Q (some i) M1
theorem lo_none:LO zB VI:=fun A ι σ H ρ M Qu Q w e q k=>k _ M ι H (.refl _ _) w q
theorem lo_some (ha:LE ta ua):LO (QQ ta) (uPart ua):=fun A ι σ H ρ M Qu Q w e q k =>
 ha A ι σ H ρ M _ _ w e q fun x M1 ι1 v H1 l1 w1 r1 ⟨i,ex,q1⟩=>by
  subst ex
  cases r1 with
  |p r=>cases r; exact⟨i,rfl,k _ M1 ι1 H1 l1 w1 q1⟩
def uSl (ua:UE) (ul uh:UO):UE:=fun ρ M Q=>ua ρ M fun x M1=>ul ρ M1 fun l M2=>uh ρ M2 fun h M3=>∃ts,sn M3 x=some (.lst ts)/\Q (.p (.lst (cutT ts l h))) M3
theorem le_sl {K:PySem.W.Frag} {t1 t2:TO} {u1 u2:UO} (ha:LE ta ua) (h1:LO t1 u1) (h2:LO t2 u2):LE (tSl (rSlL K) ta t1 t2) (uSl ua u1 u2):=fun A ι σ H ρ M Qu Q w e q k =>
 ha A ι σ H ρ M _ _ w e q fun x M1 ι1 v H1 l1 w1 r1 q1=>h1 A ι1 σ H1 ρ M1 _ _ w1 (e.le l1) q1 fun lo M2 ι2 H2 l2 w2 q2=>h2 A ι2 σ H2 ρ M2 _ _ w2 (e.le (l1.trans l2)) q2 fun hi M3 ι3 H3 l3 w3 ⟨ts,es,q3⟩=>by
  obtain⟨p,vs,rfl,h4,h5⟩:=((r1.le (l2.trans l3)).sn w3 es).lst_inv
  exact⟨p,vs,rfl,SqL.of h4,fun r hr=>k _ M3 ι3 _ _ (((l1.trans l2).trans l3).trans (.fresh hr)) (w3.fresh hr) (.p (zp w3 hr (cut_rep h5))) q3⟩
end
section
variable {te ta tb:TE} {ue ua ub:UE} {tt:TT} {ut:UT} {tl:TA} {ul:UA} {n:Nat} {A A' A2:Addr->Prop} {H H' H1 H2:Hp} {ι ι' ι1 ι2:List Addr} {M M':MM} {v:V} {u:U} {t:T} {σ:St} {ρ:UEnv} {K:PySem.W.Frag}
structure Lea (A:Addr->Prop) (ι:List Addr) (H:Hp) (A':Addr->Prop) (ι':List Addr) (H':Hp):Prop where
 ext:∃n,ι'=ι++n
 av:∀x o,¬Av A ι x->H x=some o->H' x=some o/\¬Av A' ι' x
 xd:∀x fs,x∉ι->H x=some (.xd fs)->x∉ι'/\H' x=some (.xd fs)
theorem Le.xd (l:Le ι H ι' H'):∀x fs,x∉ι->H x=some (.xd fs)->x∉ι'/\H' x=some (.xd fs):=fun x fs hx e=>by
 obtain⟨m,rfl,hm⟩:=l.ext
 refine⟨fun z=>?_,l.fr x _ e hx⟩
 rcases List.mem_append.mp z with z|z
 ·exact hx z
 ·rw[hm x z] at e; cases e
theorem Le.lea (l:Le ι H ι' H'):Lea A ι H A ι' H':=⟨let⟨n,e,_⟩:=l.ext; ⟨n,e⟩,fun _ _ h e=>l.av h e,l.xd⟩
theorem Lea.trans (a:Lea A ι H A' ι' H') (b:Lea A' ι' H' A2 ι2 H2):Lea A ι H A2 ι2 H2:=by
 obtain⟨n,rfl⟩:=a.ext
 obtain⟨m,rfl⟩:=b.ext
 exact⟨⟨n++m,by rw[List.append_assoc]⟩,fun x o h e=>b.av x o (a.av x o h e).2 (a.av x o h e).1,fun x fs h e=>b.xd x fs (a.xd x fs h e).1 (a.xd x fs h e).2⟩
theorem RepU.lea (l:Lea A ι H A' ι' H') (r:RepU A ι H v u):RepU A' ι' H' v u:=by
 cases r with
 |p r=>exact .p (r.mono l.av)
 |m e =>
  obtain⟨n,rfl⟩:=l.ext
  exact .m (by rw[List.getElem?_append_left (List.getElem?_eq_some_iff.mp e).1]; exact e)
 | @x a d q h =>
  refine .x ?_
  cases q with
  |none=>exact h
  |some n =>
   obtain⟨x0,e,ni,hx⟩:=h
   have:=l.xd x0 _ ni hx
   exact⟨x0,e,this.1,this.2⟩
theorem EnvR.lea (l:Lea A ι H A' ι' H') (r:EnvR A ι H σ ρ):EnvR A' ι' H' σ ρ:=Paired.mapP r fun _ _ q u e=>by
 obtain⟨v,h1,h2⟩:=q u e
 exact⟨v,h1,h2.lea l⟩
structure UIt where
 n:Nat
 ok:MM->Prop
 item:Nat->U->Prop
def ItR (A:Addr->Prop) (ι1:List Addr) (H1:Hp) (J:It) (it:UIt):Prop:=∀(A':Addr->Prop) (ι:List Addr) (H:Hp) (M:MM) (i:Nat),Lea A ι1 H1 A' ι H->Wd A' ι H M->it.ok M ->
 (i<it.n->J.go i H/\∀x H',J.yld i H x H'->∃u,it.item i u/\Le ι H ι H'/\Wd A' ι H' M/\RepU A' ι H' x u)/\(i=it.n->J.stop i H)
abbrev UI:=UEnv->MM->(UIt->MM->Prop)->Prop
def LI (wi:TI) (ui:UI):Prop:=∀(A:Addr->Prop) (ι:List Addr) (σ:St) (H:Hp) (ρ:UEnv) (M:MM) (Qu:UIt->MM->Prop) (R:It->Hp->Prop),Wd A ι H M->EnvR A ι H σ ρ->ui ρ M Qu ->
 (∀it M' ι' J H',Le ι H ι' H'->Wd A ι' H' M'->ItR A ι' H' J it->Qu it M'->R J H')->wi σ H R
def uIter (ua:UE):UI:=fun ρ M Q=>ua ρ M fun x M1=>∃us,qV M1 x=some us/\Q ⟨us.length,fun M=>qV M x=some us,fun i z=>us[i]?=some z⟩ M1
theorem li_list (ha:LE ta ua):LI (X0 K ta) (uIter ua):=fun A ι σ H ρ M Qu R w e q k =>
 ha A ι σ H ρ M _ _ w e q fun x M1 ι1 v H1 l1 w1 r1 ⟨us,eu,q1⟩=>by
  obtain⟨p,vs,rfl,h1,h2⟩:=vE w1 r1 eu
  refine⟨p,rfl,⟨vs,SqL.of h1⟩,k _ M1 ι1 _ H1 l1 w1 ?_ q1⟩
  intro A' ι2 H2 M2 i l w2 ok
  obtain⟨p',vs2,e2,h3,h4⟩:=vE w2 (r1.lea l) ok
  cases e2
  have hl:=h4.len
  refine⟨fun hi=>?_,fun hi=>⟨vs2,SqL.of h3,by rw[hl]; exact Nat.le_of_eq hi.symm⟩⟩
  have hx:vs2[i]?=some (vs2[i]'(by rw[hl]; exact hi)):=List.getElem?_eq_getElem _
  refine⟨⟨vs2,_,SqL.of h3,hx⟩,fun x H' y=>?_⟩
  obtain⟨rfl,y⟩:=y
  have hx2:=y vs2 (SqL.of h3)
  obtain⟨z,hz,rz⟩:=Paired.getL h4 hx2
  exact⟨z,hz, .refl _ _,w2,rz⟩
def Jj (ua:UE):UI:=fun ρ M Q=>ua ρ M fun x M1=>∃us,vi M1 x=some us/\Q ⟨us.length,fun M=>vi M x=some us,fun i z=>us[i]?=some z⟩ M1
theorem li_tup (ha:LE ta ua):LI (iTup K ta) (Jj ua):=fun A ι σ H ρ M Qu R w e q k =>
 ha A ι σ H ρ M _ _ w e q fun x M1 ι1 v H1 l1 w1 r1 ⟨us,eu,q1⟩=>by
  obtain⟨p,vs,rfl,h1,h2⟩:=zm w1 r1 eu
  refine⟨p,rfl,⟨vs,SqT.of h1⟩,k _ M1 ι1 _ H1 l1 w1 ?_ q1⟩
  intro A' ι2 H2 M2 i l w2 ok
  obtain⟨p',vs2,e2,h3,h4⟩:=zm w2 (r1.lea l) ok
  cases e2
  have hl:=h4.len
  refine⟨fun hi=>?_,fun hi=>⟨vs2,SqT.of h3,by rw[hl]; exact Nat.le_of_eq hi.symm⟩⟩
  have hx:vs2[i]?=some (vs2[i]'(by rw[hl]; exact hi)):=List.getElem?_eq_getElem _
  refine⟨⟨vs2,_,SqT.of h3,hx⟩,fun x H' y=>?_⟩
  obtain⟨rfl,y⟩:=y
  have hx2:=y vs2 (SqT.of h3)
  obtain⟨z,hz,rz⟩:=Paired.getL h4 hx2
  exact⟨z,hz, .refl _ _,w2,rz⟩
def uRev (ul:UA):UI:=fun ρ M Q=>ul ρ M fun xs M1=>∃x us,xs=[x]/\qV M1 x=some us/\Q ⟨us.length,fun M=>qV M x=some us,fun i z=>us[us.length-1-i]?=some z⟩ M1
def uRng1 (ul:UA):UI:=fun ρ M Q=>ul ρ M fun xs M1=>∃j:Int,xs=[.p (.int j)] /\ -(2^62)<=j/\j<2^62/\Q ⟨j.toNat,fun _=>True,fun i z=>z=.p (.int i)⟩ M1
theorem itr_ok {lo:Int} {n:Nat}:ItR A ι H (Itr lo n) ⟨n,fun _=>True,fun i z=>z=.p (.int (lo+i))⟩:=fun A' ι2 H2 M2 i l w2 _ =>
 ⟨fun hi=>⟨hi,fun x H' y=>by
  obtain⟨rfl,rfl⟩:=y
  exact⟨_,rfl, .refl _ _,w2, .p (.int _)⟩⟩,fun hi=>Nat.le_of_eq hi.symm⟩
theorem li_rng1 (ha:LA n tl ul):LI (KQ tl) (uRng1 ul):=fun A ι σ H ρ M Qu R w e q k =>
 ha A ι σ H ρ M _ _ w e q fun xs M1 ι1 vs1 H1 l1 w1 hn r0 ⟨j,ex,j0,j1,q1⟩=>by
  subst ex
  cases r0 with
  |cons r1 r0 =>
  cases r0
  cases r1 with
  |p r =>
  cases r
  have:=itr_ok (A:=A) (ι:=ι1) (H:=H1) (lo:=0) (n:=j.toNat)
  simp only[Int.zero_add] at this
  exact⟨j,rfl,j0,j1,k _ M1 ι1 _ H1 l1 w1 this q1⟩
abbrev UG:=U->UEnv->MM->(UEnv->MM->Prop)->Prop
def LG (g:TG) (ug:UG):Prop:=∀(A:Addr->Prop) (ι:List Addr) (σ:St) (H:Hp) (ρ:UEnv) (M:MM) (v:V) (u:U) (Qu:UEnv->MM->Prop) (Q:St->Hp->Prop),Wd A ι H M->EnvR A ι H σ ρ->RepU A ι H v u->ug u ρ M Qu ->
 (∀ρ' M' ι' σ' H',Le ι H ι' H'->Wd A ι' H' M'->EnvR A ι' H' σ' ρ'->Qu ρ' M'->Q σ' H')->g v σ H Q
def Jh (i:Nat):UG:=fun u ρ M Q=>Q (ρ.set i (some u)) M
def QK (i j:Nat):UG:=fun u ρ M Q=>∃a b,vi M u=some [a,b]/\Q ((ρ.set i (some a)).set j (some b)) M
def uName3 (i j k:Nat):UG:=fun u ρ M Q=>∃a b c,vi M u=some [a,b,c]/\Q (((ρ.set i (some a)).set j (some b)).set k (some c)) M
theorem lg_name (i:Nat):LG (qZ i) (Jh i):=fun A ι σ H ρ M v u Qu Q w e r q k=>k _ M ι _ H (.refl _ _) w (e.put i r) q
theorem rep2 {vs:List V} {a b:U} (r:RepUs A ι H vs [a,b]):∃x y,vs=[x,y]/\RepU A ι H x a/\RepU A ι H y b:=by
 cases r with
 |cons r q=>cases q with|cons r2 q=>cases q; exact⟨_,_,rfl,r,r2⟩
theorem lg_name2 (i j:Nat):LG (gTup K 2 (zn (qZ i) (zn (qZ j) gNil))) (QK i j):=fun A ι σ H ρ M v u Qu Q w e r ⟨a,b,ei,q⟩ k=>by
 obtain⟨p,vs,rfl,h1,h2⟩:=zm w r ei
 obtain⟨x,y,rfl,r1,r2⟩:=rep2 h2
 exact Qk h1 (k _ M ι _ H (.refl _ _) w ((e.put i r1).put j r2) q)
def uSub (uo ui:UE):UG:=fun u ρ M Q=>uo ρ M fun o M1=>ui ρ M1 fun i M2=>∃k us z j,o=.m k/\M2[k]?=some (.lst us)/\i=.p (.int z)/\ixN us.length z=some j/\Q ρ (M2.set k (.lst (us.set j u)))
theorem lg_sub (ha:LE ta ua) (hb:LE tb ub):LG (gSub ta tb rSetL) (uSub ua ub):=fun A ι σ H ρ M v u Qu Q w e r q k =>
 ha A ι σ H ρ M _ _ w e q fun o M1 ι1 v1 H1 l1 w1 r1 q1=>hb A ι1 σ H1 ρ M1 _ _ w1 (e.le l1) q1 fun i M2 ι2 v2 H2 l2 w2 r2 ⟨kk,us,z,j,eo,em,ei,ej,q2⟩=>by
  subst eo ei
  cases r2 with
  |p r2 =>
  cases r2
  have r1':=r1.le l2
  cases r1' with
  |m ek =>
  obtain⟨vs,h1,h2⟩:=w2.obj kk _ _ ek em
  have hm:=List.mem_of_getElem? ek
  refine⟨_,vs,z,j,rfl,rfl,h1,by rw[h2.len]; exact ej,k _ _ ι2 _ _ ((l1.trans l2).trans (.put hm)) (w2.put (mo:=.lst (us.set j u)) ek ⟨_,upd_same, ?_⟩) (e.le ((l1.trans l2).trans (.put hm))) q2⟩
  exact RepUs.le (.put hm) (Paired.put (r.le (l1.trans l2)) j h2)
def jg (bs:List Bool) (n i:Nat):Bool:=match bs[i]? with
 |some b => !b
 |none=>decide (i<bs.length+n)
theorem jW {bs:List Bool} {n i:Nat} {σ:St} (hl:σ.length=bs.length) (h:jg bs n i=true):(vD bs n σ)[i]?=some none:=by
 unfold jg at h
 unfold vD
 have hz:((bs.zip σ).map (fun p=>if p.1 then p.2 else none)).length=bs.length:=by simp[hl]
 cases e:bs[i]? with
 |some b =>
  rw[e] at h
  have hi:=(List.getElem?_eq_some_iff.mp e).1
  rw[List.getElem?_append_left (by rw[hz]; exact hi),List.getElem?_map]
  have hb:b=false:=by simpa using h
  have e2:(bs.zip σ)[i]?=some (b,σ[i]'(by omega)):=by
   rw[List.getElem?_eq_getElem (by simp[hl]; exact hi)]
   simp
   exact(List.getElem?_eq_some_iff.mp e).2
  rw[e2,hb]
  rfl
 |none =>
  rw[e] at h
  have hi:=List.getElem?_eq_none_iff.mp e
  simp at h
  rw[List.getElem?_append_right (by rw[hz]; exact hi),hz,List.getElem?_replicate]
  rw[if_pos (by omega)]
def LGx (bs:List Bool) (n:Nat) (g:TG) (ug:UG):Prop:=∀(A:Addr->Prop) (ι:List Addr) (σ:St) (H:Hp) (ρ:UEnv) (M:MM) (v:V) (u:U) (Qu:UEnv->MM->Prop) (Q:St->Hp->Prop),σ.length=bs.length->Wd A ι H M->EnvR A ι H (vD bs n σ) ρ->RepU A ι H v u->ug u ρ M Qu ->
 (∀ρ' σ',EnvR A ι H σ' ρ'->ExtS (vD bs n σ) σ'->σ'.length=(vD bs n σ).length->Qu ρ' M->Q σ' H)->g v (vD bs n σ) H Q
theorem lgx_name {bs:List Bool} (i:Nat) (h:jg bs n i=true:=by rfl):LGx bs n (qZ i) (Jh i):=fun A ι σ H ρ M v u Qu Q hl w e r q k =>
 k _ _ (e.put i r) ((ExtS.refl _).put (jW hl h)) (by simp) q
theorem Kw {bs:List Bool} (i j:Nat) (h:jg bs n i=true:=by rfl) (h2:jg bs n j=true:=by rfl):LGx bs n (gTup K 2 (zn (qZ i) (zn (qZ j) gNil))) (QK i j):=fun A ι σ H ρ M v u Qu Q hl w e r ⟨a,b,ei,q⟩ k=>by
 obtain⟨p,vs,rfl,h1,h2⟩:=zm w r ei
 obtain⟨x,y,rfl,r1,r2⟩:=rep2 h2
 exact Qk h1 (k _ _ ((e.put i r1).put j r2) (((ExtS.refl _).put (jW hl h)).put (jW hl ‹_›)) (by simp) q)
theorem lt_yes:LT tYes (fun _ M Q=>Q true M):=fun A ι σ H ρ M Qu Q w e q k=>k true M ι H (.refl _ _) w q
abbrev uYes:UT:=fun _ M Q=>Q true M
def QC (it:UIt) (ug:UG) (ut:UT) (ue:UE) (ρ0:UEnv) (M1:MM) (Q:UK):Prop:=it.n<=sizeLine/\∃Iv:Nat->List T->MM->Prop,Iv 0 [] M1 /\
 (∀i acc M2,i<it.n->acc.length<=i->Iv i acc M2->it.ok M2/\∀u,it.item i u->ug u ρ0 M2 fun ρ4 M4=>ut ρ4 M4 fun b M5=>if b=true then ue ρ4 M5 fun z M6=>∃t,z=.p t/\Iv (i+1) (acc++[t]) M6 else Iv (i+1) acc M5) /\
 (∀acc M2,Iv it.n acc M2->it.ok M2/\Q (.p (.lst acc)) M2)
def kL (ui:UI) (bs:List Bool) (n:Nat) (ug:UG) (ut:UT) (ue:UE):UE:=fun ρ M Q=>ui ρ M fun it M1=>ρ.length=bs.length/\QC it ug ut ue (Qg bs n ρ) M1 Q
theorem Wd.addA (w:Wd A ι H M) {p:Addr} {o:HO} (h:H p=none):Wd (fun x=>A x\/x=p) ι (upd H p o) M:=by
 have w2:=w.fresh (o:=o) h
 have hm:∀x o',¬Av A ι x->(upd H p o) x=some o'->H x≠none->(upd H p o) x=some o'/\¬Av (fun x=>A x\/x=p) ι x:=fun x o' hx e hs=>⟨e,fun z=>by
  rcases z with(z|z)|z
  ·exact hx (.inl z)
  ·subst z; exact hs h
  ·exact hx (.inr z)⟩
 have hl:Lea A ι H (fun x=>A x\/x=p) ι (upd H p o):=⟨⟨[],by simp⟩,fun x o' hx e=>hm x o' hx (qX h e) (by rw[e]; simp),fun x fs hx e=>⟨hx,qX h e⟩⟩
 refine⟨w.nd,w.len,fun x hx=>?_,fun x hx z=>?_,fun k a ob e1 e2=>?_⟩
 ·rcases hx with hx|hx
  ·exact w2.dom x hx
  ·rw[hx,upd_same]; simp
 ·rcases z with z|z
  ·exact w.na x hx z
  ·exact w.nin h (by rw[<-z]; exact hx)
 ·have r:=w.obj k a ob e1 e2
  have ea:upd H p o a=H a:=upd_ne fun z=>by
   obtain⟨q,hq⟩:=r.some
   rw[z,h] at hq; cases hq
  cases ob with
  |lst=>obtain⟨vs,e,r⟩:=r; exact⟨vs,by rw[ea]; exact e,Paired.mapP r fun _ _ q=>q.lea hl⟩
  |tup=>obtain⟨vs,e,r⟩:=r; exact⟨vs,by rw[ea]; exact e,Paired.mapP r fun _ _ q=>q.lea hl⟩
  |ins =>
   obtain⟨dx,gs,e,ed,nd,r⟩:=r
   exact⟨dx,gs,by rw[ea]; exact e,qX h ed,nd,Paired.mapP r fun _ _ q=>⟨q.1,q.2.lea hl⟩⟩
  |dK=>obtain⟨gs,e,r⟩:=r; exact⟨gs,by rw[ea]; exact e,Paired.mapP r fun _ _ q=>⟨q.1,q.2.lea hl⟩⟩
theorem Wd.lessA (w:Wd A' ι H M) (h:∀x,A x->A' x):Wd A ι H M:=by
 have hl:Lea A' ι H A ι H:=⟨⟨[],by simp⟩,fun x o hx e=>⟨e,fun z=>hx (z.elim (fun z=>.inl (h x z)) .inr)⟩,fun x fs hx e=>⟨hx,e⟩⟩
 refine⟨w.nd,w.len,fun x hx=>w.dom x (h x hx),fun x hx z=>w.na x hx (h x z),fun k a ob e1 e2=>?_⟩
 have r:=w.obj k a ob e1 e2
 cases ob with
 |lst=>obtain⟨vs,e,r⟩:=r; exact⟨vs,e,Paired.mapP r fun _ _ q=>q.lea hl⟩
 |tup=>obtain⟨vs,e,r⟩:=r; exact⟨vs,e,Paired.mapP r fun _ _ q=>q.lea hl⟩
 |ins=>obtain⟨dx,gs,e,ed,nd,r⟩:=r; exact⟨dx,gs,e,ed,nd,Paired.mapP r fun _ _ q=>⟨q.1,q.2.lea hl⟩⟩
 |dK=>obtain⟨gs,e,r⟩:=r; exact⟨gs,e,Paired.mapP r fun _ _ q=>⟨q.1,q.2.lea hl⟩⟩
theorem Wd.updA (w:Wd A ι H M) {p:Addr} {o:HO} {ys:List V} (ha:A p) (hp:H p=some (.lst ys)):Lea A ι H A ι (upd H p o)/\Wd A ι (upd H p o) M:=by
 have hl:Lea A ι H A ι (upd H p o):=⟨⟨[],by simp⟩,fun x o' hx e=>⟨by rw[upd_ne fun z=>hx (.inl (by rw[z]; exact ha))]; exact e,hx⟩,fun x fs hx e=>⟨hx,by rw[upd_ne fun z=>by rw[z,hp] at e; cases e]; exact e⟩⟩
 refine⟨hl,w.nd,w.len,fun x hx=>?_,w.na,fun k a ob e1 e2=>?_⟩
 ·by_cases z:x=p
  ·rw[z,upd_same]; simp
  ·rw[upd_ne z]; exact w.dom x hx
 ·have r:=w.obj k a ob e1 e2
  have ea:upd H p o a=H a:=upd_ne fun z=>w.na a (List.mem_of_getElem? e1) (by rw[z]; exact ha)
  cases ob with
  |lst=>obtain⟨vs,e,r⟩:=r; exact⟨vs,by rw[ea]; exact e,Paired.mapP r fun _ _ q=>q.lea hl⟩
  |tup=>obtain⟨vs,e,r⟩:=r; exact⟨vs,by rw[ea]; exact e,Paired.mapP r fun _ _ q=>q.lea hl⟩
  |ins =>
   obtain⟨dx,gs,e,ed,nd,r⟩:=r
   exact⟨dx,gs,by rw[ea]; exact e,by rw[upd_ne fun z=>by rw[z,hp] at ed; cases ed]; exact ed,nd,Paired.mapP r fun _ _ q=>⟨q.1,q.2.lea hl⟩⟩
  |dK=>obtain⟨gs,e,r⟩:=r; exact⟨gs,by rw[ea]; exact e,Paired.mapP r fun _ _ q=>⟨q.1,q.2.lea hl⟩⟩
theorem Le.updF {p:Addr} {o:HO} (l:Le ι H ι' H') (h:H p=none):Le ι H ι' (upd H' p o):=⟨l.ext,fun x o' e n=>by rw[upd_ne (qL e h)]; exact l.fr x o' e n,fun x e=>by
 by_cases z:x=p
 ·rw[z,upd_same]; simp
 ·rw[upd_ne z]; exact l.al x e⟩
theorem le_comp {wi:TI} {ui:UI} {bs:List Bool} {g:TG} {ug:UG} (hi:LI wi ui) (hg:LGx bs n g ug) (ht:LT tt ut) (he:LE te ue):LE (xu wi bs n g tt te) (kL ui bs n ug ut ue):=by
 intro A ι σ H ρ M Qu Q w e q k
 refine hi A ι σ H ρ M _ _ w e q fun it M1 ι1 J H1 l1 w1 hJ q1 acc hacc=>?_
 obtain⟨hlen,hsz,Iv,I0,It,Id⟩:=q1
 have hσ:σ.length=bs.length:=by rw[<-hlen]; exact e.len
 have e1:=e.le l1
 have na:¬Av A ι1 acc:=w1.nA hacc
 have key:∀ι2 H2,Le ι1 H1 ι2 H2->(∀x∈ι2,¬(A x\/x=acc))->Lea A ι1 H1 (fun x=>A x\/x=acc) ι2 H2:=fun ι2 H2 l h=>by
  refine⟨let⟨n,e,_⟩:=l.ext; ⟨n,e⟩,fun x o hx ex=>?_,l.xd⟩
  obtain⟨a1,a2⟩:=l.av hx ex
  refine⟨a1,fun z=>?_⟩
  rcases z with(z|z)|z
  ·exact a2 (.inl z)
  ·rw[z,hacc] at ex; cases ex
  ·exact a2 (.inr z)
 refine⟨fun i m H2=>m=it.n-i/\i<=it.n/\∃ι2 M2 at' ys,Le ι1 H1 ι2 H2/\Wd (fun x=>A x\/x=acc) ι2 H2 M2/\H2 acc=some (.lst ys)/\RepTs (Av (fun x=>A x\/x=acc) ι2) H2 ys at'/\at'.length<=i/\Iv i at' M2,
  ⟨it.n,by simp,Nat.zero_le _,ι1,M1, [], [], .fresh hacc,w1.addA hacc,upd_same, .nil,Nat.le_refl _,I0⟩, ?_⟩
 rintro i m H2 ⟨rfl,hin,ι2,M2,at',ys,l2,w2,hys,rys,hat,I2⟩
 have lea:=key ι2 H2 l2 w2.na
 by_cases hlt:i<it.n
 ·obtain⟨ok,step⟩:=It i at' M2 hlt hat I2
  obtain⟨jgo,jy⟩:=(hJ _ ι2 H2 M2 i lea w2 ok).1 hlt
  refine .inr ⟨jgo,fun H'=>∃ι2 M2 at' ys,Le ι1 H1 ι2 H'/\Wd (fun x=>A x\/x=acc) ι2 H' M2/\H' acc=some (.lst ys)/\RepTs (Av (fun x=>A x\/x=acc) ι2) H' ys at'/\at'.length<=i+1/\Iv (i+1) at' M2,fun H' h=>⟨it.n-(i+1),by omega,rfl,hlt,h⟩,fun x H3 y=>?_⟩
  obtain⟨u,hu,l3,w3,r3⟩:=jy x H3 y
  have l13:=l2.trans l3
  have nacc:∀{ι':List Addr} {H':Hp} {M':MM},Wd (fun x=>A x\/x=acc) ι' H' M'->acc∉ι':=fun w z=>w.na acc z (.inr rfl)
  have ys3:H3 acc=some (.lst ys):=l3.fr _ _ hys (nacc w2)
  have env3:EnvR (fun x=>A x\/x=acc) ι2 H3 (vD bs n σ) (Qg bs n ρ):=(e1.mask).lea (key ι2 H3 l13 w3.na)
  refine hg _ ι2 σ H3 _ M2 x u _ _ hσ w3 env3 r3 (step u hu) fun ρ4 σ4 e4 x4 len4 q4=>⟨⟨x4,len4⟩, ?_⟩
  refine ht _ ι2 σ4 H3 ρ4 M2 _ _ w3 e4 q4 fun b M5 ι5 H5 l5 w5 q5=>?_
  have ys5:H5 acc=some (.lst ys):=l5.fr _ _ ys3 (nacc w3)
  have rys5:RepTs (Av (fun x=>A x\/x=acc) ι5) H5 ys at':=Paired.mapP rys fun _ _ q=>(q.le l3).le l5
  cases b with
  |false=>exact⟨ι5,M5,at',ys,l13.trans l5,w5,ys5,rys5,Nat.le_succ_of_le hat,q5⟩
  |true =>
   refine he _ ι5 σ4 H5 ρ4 M5 _ _ w5 (e4.le l5) q5 fun z M6 ι6 zv H6 l6 w6 r6 q6=>?_
   obtain⟨t,rfl,q6⟩:=q6
   have ys6:H6 acc=some (.lst ys):=l6.fr _ _ ys5 (nacc w5)
   refine⟨ys,ys6, ?_,ι6,M6,at'++[t],ys++[zv],((l13.trans l5).trans l6).updF hacc,(w6.updA (.inr rfl) ys6).2,upd_same, ?_,by rw[List.length_append,List.length_singleton]; omega,q6⟩
   ·rw[rys.len]; omega
   ·have hl:=(w6.updA (o:=.lst (ys++[zv])) (.inr rfl) ys6).1
    cases r6 with
    |p r6=>exact Paired.app (Paired.mapP rys5 fun _ _ q=>(q.le l6).mono hl.av) (.cons (r6.mono hl.av) .nil)
 ·have ei:i=it.n:=by omega
  subst ei
  obtain⟨ok,fin⟩:=Id at' M2 I2
  refine .inl ⟨(hJ _ ι2 H2 M2 _ lea w2 ok).2 rfl,k _ M2 ι2 _ H2 (l1.trans l2) (w2.lessA fun x hx=>.inl hx) (.p (.lstP (fun z=>?_) hys (Paired.mapP rys fun _ _ q=>q.mono fun x o hx ex=>⟨ex,fun z=>hx (z.elim (fun z=>.inl (.inl z)) .inr)⟩))) fin⟩
  rcases z with z|z
  ·exact na (.inl z)
  ·exact w2.na acc z (.inr rfl)
end
section
variable {ta:TE} {ua ub:UE} {tt:TT} {ut:UT} {tl:TA} {ul:UA} {n:Nat} {A:Addr->Prop} {H H' H1 H2:Hp} {ι ι' ι1 ι2:List Addr} {M M':MM} {v:V} {u:U} {t:T} {σ:St} {ρ:UEnv}
structure UEnds where
 nx:UEnv->MM->Prop
 rt:UK
 bk:UEnv->MM->Prop:=fun _ _=>False
 ct:UEnv->MM->Prop:=fun _ _=>False
abbrev US:=UEnds->UEnv->MM->Prop
structure EndsR (A:Addr->Prop) (ι0:List Addr) (H0:Hp) (E:UEnds) (D:Ends):Prop where
 nx:∀ι σ H ρ M,Le ι0 H0 ι H->Wd A ι H M->EnvR A ι H σ ρ->E.nx ρ M->D.nx σ H
 rt:∀ι v H u M,Le ι0 H0 ι H->Wd A ι H M->RepU A ι H v u->E.rt u M->D.rt v H
 bk:∀ι σ H ρ M,Le ι0 H0 ι H->Wd A ι H M->EnvR A ι H σ ρ->E.bk ρ M->D.bk σ H
 ct:∀ι σ H ρ M,Le ι0 H0 ι H->Wd A ι H M->EnvR A ι H σ ρ->E.ct ρ M->D.ct σ H
theorem EndsR.le {E:UEnds} {D:Ends} (l:Le ι H ι' H') (r:EndsR A ι H E D):EndsR A ι' H' E D :=
 ⟨fun _ _ _ _ _ h=>r.nx _ _ _ _ _ (l.trans h),fun _ _ _ _ _ h=>r.rt _ _ _ _ _ (l.trans h),fun _ _ _ _ _ h=>r.bk _ _ _ _ _ (l.trans h),fun _ _ _ _ _ h=>r.ct _ _ _ _ _ (l.trans h)⟩
def LS (ts:TS) (us:US):Prop:=∀(A:Addr->Prop) (ι:List Addr) (σ:St) (H:Hp) (ρ:UEnv) (M:MM) (D:Ends) (E:UEnds),Wd A ι H M->EnvR A ι H σ ρ->EndsR A ι H E D->us E ρ M->ts D σ H
variable {ts ts':TS} {us us':US}
def uNext:US:=fun E ρ M=>E.nx ρ M
def uSeq (a b:US):US:=fun E ρ M=>a { E with nx:=b E } ρ M
def uDrop (ua:UE):US:=fun E ρ M=>ua ρ M fun _ M1=>E.nx ρ M1
def uRet (ua:UE):US:=fun E ρ M=>ua ρ M E.rt
def uRetN:US:=fun E ρ M=>E.rt (.p .non) M
def uIfS (c:UT) (a b:US):US:=fun E ρ M=>c ρ M fun k M1=>if k=true then a E ρ M1 else b E ρ M1
def uAsg (ua:UE) (g:UG):US:=fun E ρ M=>ua ρ M fun x M1=>g x ρ M1 E.nx
theorem ls_next:LS kM uNext:=fun A ι σ H ρ M D E w e r q=>r.nx ι σ H ρ M (.refl _ _) w e q
theorem ls_seq (ha:LS ts us) (hb:LS ts' us'):LS (tSeq ts ts') (uSeq us us'):=fun A ι σ H ρ M D E w e r q =>
 ha A ι σ H ρ M _ { E with nx:=us' E } w e ⟨fun ι1 σ1 H1 ρ1 M1 l w1 e1 q1=>hb A ι1 σ1 H1 ρ1 M1 D E w1 e1 (r.le l) q1,r.rt,r.bk,r.ct⟩ q
theorem ls_drop (ha:LE ta ua):LS (QR ta) (uDrop ua):=fun A ι σ H ρ M D E w e r q =>
 ha A ι σ H ρ M _ _ w e q fun x M1 ι1 v H1 l1 w1 r1 q1=>r.nx ι1 σ H1 ρ M1 l1 w1 (e.le l1) q1
theorem ls_ret (ha:LE ta ua):LS (tRet ta) (uRet ua):=fun A ι σ H ρ M D E w e r q =>
 ha A ι σ H ρ M _ _ w e q fun x M1 ι1 v H1 l1 w1 r1 q1=>r.rt ι1 v H1 x M1 l1 w1 r1 q1
theorem ls_if (hc:LT tt ut) (ha:LS ts us) (hb:LS ts' us'):LS (tIfS tt ts ts') (uIfS ut us us'):=fun A ι σ H ρ M D E w e r q =>
 hc A ι σ H ρ M _ _ w e q fun c M1 ι1 H1 l1 w1 q1=>by
  cases c with
  |true=>exact ha A ι1 σ H1 ρ M1 D E w1 (e.le l1) (r.le l1) q1
  |false=>exact hb A ι1 σ H1 ρ M1 D E w1 (e.le l1) (r.le l1) q1
theorem ls_asg {g:TG} {ug:UG} (ha:LE ta ua) (hg:LG g ug):LS (tAsg ta g) (uAsg ua ug):=fun A ι σ H ρ M D E w e r q =>
 ha A ι σ H ρ M _ _ w e q fun x M1 ι1 v H1 l1 w1 r1 q1=>hg A ι1 σ H1 ρ M1 v x _ _ w1 (e.le l1) r1 q1 fun ρ2 M2 ι2 σ2 H2 l2 w2 e2 q2=>r.nx ι2 σ2 H2 ρ2 M2 (l1.trans l2) w2 e2 q2
def UFor (it:UIt) (ug:UG) (ub:US) (E:UEnds) (ρ:UEnv) (M1:MM):Prop:=∃Iv:Nat->UEnv->MM->Prop,Iv 0 ρ M1 /\
 (∀i ρ2 M2,i<it.n->Iv i ρ2 M2->it.ok M2/\∀u,it.item i u->ug u ρ2 M2 fun ρ3 M3=>ub { E with nx:=Iv (i+1),ct:=Iv (i+1),bk:=E.nx } ρ3 M3) /\
 (∀ρ2 M2,Iv it.n ρ2 M2->it.ok M2/\E.nx ρ2 M2)
def uFor (ui:UI) (ug:UG) (ub:US):US:=fun E ρ M=>ui ρ M fun it M1=>UFor it ug ub E ρ M1
theorem ls_for {wi:TI} {ui:UI} {g:TG} {ug:UG} (hi:LI wi ui) (hg:LG g ug) (hb:LS ts us):LS (tFor wi g ts) (uFor ui ug us):=by
 intro A ι σ H ρ M D E w e r q
 refine hi A ι σ H ρ M _ _ w e q fun it M1 ι1 J H1 l1 w1 hJ q1=>?_
 obtain⟨Iv,I0,It,Id⟩:=q1
 have r1:=r.le l1
 refine⟨fun i m σ2 H2=>m=it.n-i/\i<=it.n/\∃ι2 ρ2 M2,Le ι1 H1 ι2 H2/\Wd A ι2 H2 M2/\EnvR A ι2 H2 σ2 ρ2/\Iv i ρ2 M2,⟨it.n,by simp,Nat.zero_le _,ι1,ρ,M1, .refl _ _,w1,e.le l1,I0⟩, ?_⟩
 rintro i m σ2 H2 ⟨rfl,hin,ι2,ρ2,M2,l2,w2,e2,I2⟩
 by_cases hlt:i<it.n
 ·obtain⟨ok,step⟩:=It i ρ2 M2 hlt I2
  obtain⟨jgo,jy⟩:=(hJ A ι2 H2 M2 i l2.lea w2 ok).1 hlt
  refine .inr ⟨jgo,fun σ' H'=>∃ι2 ρ2 M2,Le ι1 H1 ι2 H'/\Wd A ι2 H' M2/\EnvR A ι2 H' σ' ρ2/\Iv (i+1) ρ2 M2,fun σ' H' h=>⟨it.n-(i+1),by omega,rfl,hlt,h⟩,fun x H3 y=>?_⟩
  obtain⟨u,hu,l3,w3,r3⟩:=jy x H3 y
  refine hg A ι2 σ2 H3 ρ2 M2 x u _ _ w3 (e2.le l3) r3 (step u hu) fun ρ4 M4 ι4 σ4 H4 l4 w4 e4 q4=>?_
  have l14:=(l2.trans l3).trans l4
  exact hb A ι4 σ4 H4 ρ4 M4 _ { E with nx:=Iv (i+1),ct:=Iv (i+1),bk:=E.nx } w4 e4 ⟨fun ι5 σ5 H5 ρ5 M5 l5 w5 e5 q5=>⟨ι5,ρ5,M5,l14.trans l5,w5,e5,q5⟩,(r1.le l14).rt,(r1.le l14).nx,fun ι5 σ5 H5 ρ5 M5 l5 w5 e5 q5=>⟨ι5,ρ5,M5,l14.trans l5,w5,e5,q5⟩⟩ q4
 ·have ei:i=it.n:=by omega
  subst ei
  obtain⟨ok,fin⟩:=Id ρ2 M2 I2
  exact .inl ⟨(hJ A ι2 H2 M2 _ l2.lea w2 ok).2 rfl,r1.nx ι2 σ2 H2 ρ2 M2 l2 w2 e2 fin⟩
def MeL (r:V->List V->Hp->VK->Prop) (s:List U->List U->(U->List U->Prop)->Prop):Prop:=∀(A:Addr->Prop) (ι:List Addr) (H:Hp) (M:MM) (k:Nat) (a:Addr) (xs ys:List V) (us ws:List U) (Qs:U->List U->Prop) (Q:VK),Wd A ι H M->ι[k]?=some a->H a=some (.lst xs)->M[k]?=some (.lst us)->RepUs A ι H xs us->RepUs A ι H ys ws->s us ws Qs ->
 (∀z us' v xs',RepUs A ι H xs' us'->RepU A ι H v z->Qs z us'->Q v (upd H a (.lst xs')))->r (.ref a) ys H Q
def uMe (s:List U->List U->(U->List U->Prop)->Prop) (uo:UE) (ul:UA):UE:=fun ρ M Q=>uo ρ M fun o M1=>∃k,o=.m k/\(∃zs,M1[k]?=some (.lst zs))/\ul ρ M1 fun ws M2=>∃us,M2[k]?=some (.lst us)/\s us ws fun z us'=>Q z (M2.set k (.lst us'))
theorem le_me {r:V->List V->Hp->VK->Prop} {s:List U->List U->(U->List U->Prop)->Prop} (h:MeL r s) (ha:LE ta ua) (hl:LA n tl ul):LE (tLM r ta tl) (uMe s ua ul):=fun A ι σ H ρ M Qu Q w e q k =>
 ha A ι σ H ρ M _ _ w e q fun o M1 ι1 v H1 l1 w1 r1 ⟨kk,eo,⟨zs,hz⟩,q1⟩=>by
  subst eo
  cases r1 with
  |m ek =>
  rename_i a
  obtain⟨xs1,h1,_⟩:=w1.obj kk a _ ek hz
  refine⟨a,xs1,rfl,h1,hl A ι1 σ H1 ρ M1 _ _ w1 (e.le l1) q1 fun ws M2 ι2 ys H2 l2 w2 hn r2 q2=>?_⟩
  obtain⟨us,hus,q2⟩:=q2
  have ek2:ι2[kk]?=some a:=by
   obtain⟨nn,rfl,_⟩:=l2.ext
   rw[List.getElem?_append_left (List.getElem?_eq_some_iff.mp ek).1]; exact ek
  obtain⟨xs2,h3,h4⟩:=w2.obj kk a _ ek2 hus
  have hm:=List.mem_of_getElem? ek2
  exact h A ι2 H2 M2 kk a xs2 ys us ws _ Q w2 ek2 h3 hus h4 r2 q2 fun z us' zv xs' rx rz qz=>k z _ ι2 zv _ ((l1.trans l2).trans (.put hm)) (w2.put (mo:=.lst us') ek2 ⟨xs',upd_same,RepUs.le (.put hm) rx⟩) (rz.le (.put hm)) qz
def JE:List U->List U->(U->List U->Prop)->Prop:=fun us ws Q=>∃y,ws=[y]/\us.length<sizeLine/\Q (.p .non) (us++[y])
theorem XV:MeL JN JE:=fun A ι H M k a xs ys us ws Qs Q w ek h1 h2 rx ry ⟨y,ey,hz,q⟩ kk=>by
 subst ey
 cases ry with
 |cons r q' =>
 cases q'
 exact⟨a,xs,_,rfl,rfl,h1,by rw[rx.len]; exact hz,kk _ _ _ _ (rx.app (.cons r .nil)) (.p .non) q⟩
def spU (G:List U->MM->UK->Prop):Sp:=fun vs H Q _=>∃A ι M us Qu,Wd A ι H M/\RepUs A ι H vs us/\G us M Qu/\∀u M' ι' v H',Le ι H ι' H'->Wd A ι' H' M'->RepU A ι' H' v u->Qu u M'->Q v H'
def uCall (G:List U->MM->UK->Prop) (ul:UA):UE:=fun ρ M Q=>ul ρ M fun us M1=>G us M1 Q
theorem le_callU {G:List U->MM->UK->Prop} {E:XK} (ha:LA n tl ul):LE (xw (spU G) [] E tl) (uCall G ul):=fun A ι σ H ρ M Qu Q w e q k =>
 ha A ι σ H ρ M _ _ w e q fun us M1 ι1 vs H1 l1 w1 hn r1 q1=>by
  rw[List.append_nil]
  exact⟨A,ι1,M1,us,_,w1,r1,q1,fun u M2 ι2 v H2 l2 w2 r2 q2=>k u M2 ι2 v H2 (l1.trans l2) w2 r2 q2⟩
def spP (G:List T->(T->Prop)->Prop):Sp:=fun vs H Q _=>∃A ts Qt,(∀x,A x->H x≠none)/\RepTs A H vs ts/\G ts Qt/\∀t v H',Same H H'->RepT A H' v t->Qt t->Q v H'
def Jl (G:List T->(T->Prop)->Prop) (ul:UA):UE:=fun ρ M Q=>ul ρ M fun us M1=>∃ts,vM us=some ts/\G ts fun t=>Q (.p t) M1
def uCallS (G:List T->(T->Prop)->Prop) (ul:UA):UE:=fun ρ M Q=>ul ρ M fun us M1=>∃ts,sns M1 us=some ts/\G ts fun t=>(∃x,vt t=some x)/\Q (.p t) M1
theorem Same.le (s:Same H H'):Le ι H ι H':=⟨⟨[],by simp,by simp⟩,fun x o e _=>s x o e,fun x e=>by
 cases q:H x with
 |none=>exact absurd q e
 |some o=>rw[s x o q]; simp⟩
theorem Wd.same (w:Wd A ι H M) (s:Same H H'):Wd A ι H' M :=
 ⟨w.nd,w.len,fun x hx=>(Same.le (ι:=ι) s).al x (w.dom x hx),w.na,fun k a ob e1 e2=>(w.obj k a ob e1 e2).le' s.le (by
  obtain⟨o,ho⟩:=(w.obj k a ob e1 e2).some
  rw[ho,s _ _ ho]) fun x ex=>by rw[ex,s _ _ ex]⟩
theorem Wd.domAv (w:Wd A ι H M):∀x,Av A ι x->H x≠none:=fun x h=>by
 rcases h with h|h
 ·exact w.dom x h
 ·obtain⟨o,ho⟩:=w.mem_some h
  rw[ho]; simp
theorem le_callP {G:List T->(T->Prop)->Prop} {E:XK} (ha:LA n tl ul):LE (xw (spP G) [] E tl) (Jl G ul):=fun A ι σ H ρ M Qu Q w e q k =>
 ha A ι σ H ρ M _ _ w e q fun us M1 ι1 vs H1 l1 w1 hn r1 ⟨ts,et,q1⟩=>by
  rw[List.append_nil]
  rw[vY et] at r1
  exact⟨Av A ι1,ts,_,w1.domAv,r1.pures,q1,fun t v H2 s r2 q2=>k _ M1 ι1 v H2 (l1.trans s.le) (w1.same s) (.p r2) q2⟩
def frzs (f:U->Option T):List U->Option (List T)
 | []=>some []
 |u::r=>match f u,frzs f r with
  |some t,some ts=>some (t::ts)
  |_,_=>none
def frzN:Nat->MM->U->Option T
 |_,_, .p t=>some t
 |0,_, .m _=>none
 |_,_, .x _ _ _=>none
 |n+1,M, .m k=>match M[k]? with
  |some (.lst us)=>(frzs (frzN n M) us).map T.lst
  |some (.tup us)=>(frzs (frzN n M) us).map T.tup
  |_=>none
theorem Xd {f:U->Option T} {vs:List V} {us:List U} {ts:List T} (r:RepUs A ι H vs us) (h:∀v u t,RepU A ι H v u->f u=some t->RepT A H v t) (e:frzs f us=some ts):RepTs A H vs ts:=by
 induction r generalizing ts with
 |nil=>simp[frzs] at e; subst e; exact .nil
 |cons r q ih =>
  simp only[frzs] at e
  split at e
  ·rename_i h1 h2
   simp at e; subst e
   exact .cons (h _ _ _ r h1) (ih h2)
  ·cases e
theorem Za (w:Wd A ι H M):∀{n:Nat} {v:V} {u:U} {t:T},RepU A ι H v u->frzN n M u=some t->RepT A H v t
 |n,v, .p t',t, .p r,e=>by
  cases n<;>simp[frzN] at e<;>subst e<;>exact r.mono fun x o hx ex=>⟨ex,fun z=>hx (.inl z)⟩
 |0,v, .m k,t,r,e=>by simp[frzN] at e
 |n,v, .x a d q,t,r,e=>by cases n<;>simp[frzN] at e
 |n+1,v, .m k,t,r,e=>by
  cases r with
  |m q =>
  obtain⟨o,h1,h2⟩:=w.al q
  have hna:=w.na _ (List.mem_of_getElem? q)
  simp only[frzN,h1] at e
  cases o with
  |lst us =>
   simp at e
   obtain⟨ts,e1,rfl⟩:=e
   obtain⟨vs,h3,h4⟩:=h2
   exact .lstP hna h3 (Xd h4 (fun v u t r e=>Za w r e) e1)
  |tup us =>
   simp at e
   obtain⟨ts,e1,rfl⟩:=e
   obtain⟨vs,h3,h4⟩:=h2
   exact .tupP hna h3 (Xd h4 (fun v u t r e=>Za w r e) e1)
  |ins=>simp at e
  |dK=>simp at e
@[simp] theorem frzN_p {n:Nat} {M:MM} {t:T}:frzN n M (.p t)=some t:=by cases n<;>rfl
def zD (N:List Str) (us:List U):UEnv:=us.map some++List.replicate (N.length-us.length) none
theorem zC {N:List Str} {vs:List V} {us:List U} (r:RepUs A ι H vs us):EnvR A ι H (start N vs) (zD N us):=by
 unfold start zD
 refine Paired.app ?_ ?_
 ·exact Paired.mapR (f:=some) (F:=fun s u=>∃v,s=some v/\RepU A ι H v u) (fun a b q u e=>by cases e; exact q) (by
   induction r with
   |nil=>exact .nil
   |cons r q ih=>exact .cons ⟨_,rfl,r⟩ ih)
 ·rw[r.len]
  generalize N.length-us.length=m
  induction m with
  |zero=>exact .nil
  |succ m ih=>exact .cons (fun u e=>by cases e) ih
end
section
variable {P:Program} {w:World} {K:PySem.W.Frag} {mg:Str->Option Value} {base:Heap}
theorem Fun.okU {x qual:Str} {st:Stmt} {f:Addr} {fd:FuncData} {N ps:List Str} {k:Nat} {G:List U->MM->UK->Prop} (F:Fun K x qual st f fd) (S:FnScope N ps (qc st)) (len:∀us M Qu,G us M Qu->us.length=ps.length)
  (hbody:∀(cdv:Value) (A:Around) (outer:List Env) (s:Shared) (H:Hp) (E:XK),Room k (A.deeper (envOfC qual (qc st) s.heap.objs.size f cdv)) ->
   ∃t,PSs (cxOf CX0 P w K mg base N qual (qc st) f cdv A outer s H E).nox (qh st) t/\∃u,LS t u/\∀us M Qu,G us M Qu->u { nx:=fun _ M'=>Qu (.p .non) M',rt:=Qu } (zD N us) M):FnOk P w K mg base CX0 (k+1) f fd ps (spU G):=by
 refine F.ok S (fun vs H Q E h=>?_) (fun cdv A outer s H vs Q E hr h=>?_)
 ·obtain⟨A,ι,M,us,Qu,w1,r,g,_⟩:=h
  rw[r.len]; exact len us M Qu g
 ·obtain⟨B,ι,M,us,Qu,w1,r,g,kk⟩:=h
  obtain⟨t,ht,u,hu,hb⟩:=hbody cdv A outer s H E hr
  refine⟨t,ht,hu B ι _ H _ M _ { nx:=fun _ M'=>Qu (.p .non) M',rt:=Qu } w1 (zC r) ⟨fun ι1 σ1 H1 ρ1 M1 l1 w1 e1 q1=>kk _ M1 ι1 _ H1 l1 w1 (.p .non) q1,fun ι1 v H1 z M1 l1 w1 r1 q1=>kk z M1 ι1 v H1 l1 w1 r1 q1,fun _ _ _ _ _ _ _ _ q=>q.elim,fun _ _ _ _ _ _ _ _ q=>q.elim⟩ (hb us M Qu g)⟩
theorem Fun.okP {x qual:Str} {st:Stmt} {f:Addr} {fd:FuncData} {N ps:List Str} {k:Nat} {G:List T->(T->Prop)->Prop} (F:Fun K x qual st f fd) (S:FnScope N ps (qc st)) (len:∀ts Qt,G ts Qt->ts.length=ps.length)
  (hbody:∀(cdv:Value) (A:Around) (outer:List Env) (s:Shared) (H:Hp) (E:XK),Room k (A.deeper (envOfC qual (qc st) s.heap.objs.size f cdv)) ->
   ∃t,PSs (cxOf CX0 P w K mg base N qual (qc st) f cdv A outer s H E).nox (qh st) t/\∃u,LS t u/\∀ts Qt,G ts Qt->u { nx:=fun _ _=>Qt .non,rt:=fun z M'=>∃t,frzN 4 M' z=some t/\Qt t } (zD N (ts.map U.p)) []):FnOk P w K mg base CX0 (k+1) f fd ps (spP G):=by
 refine F.ok S (fun vs H Q E h=>?_) (fun cdv A outer s H vs Q E hr h=>?_)
 ·obtain⟨A,ts,Qt,hd,r,g,_⟩:=h
  rw[r.len]; exact len ts Qt g
 ·obtain⟨B,ts,Qt,hd,r,g,kk⟩:=h
  obtain⟨t,ht,u,hu,hb⟩:=hbody cdv A outer s H E hr
  have w0:Wd B [] H []:=⟨List.nodup_nil,rfl,hd,fun x hx=>by simp at hx,fun k a o e _=>by simp at e⟩
  have same:∀{ι1:List Addr} {H1:Hp},Le [] H ι1 H1->Same H H1:=fun l b o e=>l.fr b o e (by simp)
  have r0:RepUs B [] H vs (ts.map U.p):=RepTs.ups (Paired.mapP r fun _ _ q=>q.mono fun x o hx ex=>⟨ex,fun z=>z.elim hx (by simp)⟩)
  refine⟨t,ht,hu B [] _ H _ [] _ { nx:=fun _ _=>Qt .non,rt:=fun z M'=>∃t,frzN 4 M' z=some t/\Qt t } w0 (zC r0) ⟨fun ι1 σ1 H1 ρ1 M1 l1 w1 e1 q1=>kk _ _ H1 (same l1) .non q1,fun ι1 v H1 z M1 l1 w1 r1 ⟨t1,et,q1⟩=>kk t1 v H1 (same l1) (Za w1 r1 et) q1,fun _ _ _ _ _ _ _ _ q=>q.elim,fun _ _ _ _ _ _ _ _ q=>q.elim⟩ (hb ts Qt g)⟩
end
section
variable {ua ub uc:UE} {ut:UT} {ul:UA} {us us':US} {n:Nat} {M M1:MM} {u:U} {t:T} {ρ:UEnv} {Q:UK} {QB:Bool->MM->Prop} {E:UEnds} {ug:UG}
def OpS (s:T->T->(T->Prop)->Prop) (M:MM) (x y:U) (Q:UK):Prop:=∃a b,sn M x=some a/\sn M y=some b/\s a b fun t=>Q (.p t) M
theorem rd_op {s:T->T->(T->Prop)->Prop}:uOp s ua ub ρ M Q=ua ρ M fun x M1=>ub ρ M1 fun y M2=>OpS s M2 x y Q:=rfl
theorem rd_opS {s:T->T->(T->Prop)->Prop} {a b:T}:OpS s M (.p a) (.p b) Q=s a b fun t=>Q (.p t) M :=
 propext ⟨fun⟨_,_,e1,e2,h⟩=>by cases e1; cases e2; exact h,fun h=>⟨a,b,rfl,rfl,h⟩⟩
theorem rd_sI {C:Int->Int->Prop} {g:Int->Int->T} {i j:Int} {Q:T->Prop}:sI C g (.int i) (.int j) Q=(C i j/\Q (g i j)) :=
 propext ⟨fun⟨_,_,e1,e2,h⟩=>by cases e1; cases e2; exact h,fun h=>⟨i,j,rfl,rfl,h⟩⟩
theorem rd_sI0 {g:Int->Int->T} {i j:Int} {Q:T->Prop}:sI0 g (.int i) (.int j) Q=Q (g i j) :=
 propext ⟨fun⟨_,_,e1,e2,h⟩=>by cases e1; cases e2; exact h,fun h=>⟨i,j,rfl,rfl,h⟩⟩
theorem rd_eqI {i j:Int} {Q:T->Prop}:sEq false (.int i) (.int j) Q=Q (.bl (decide (i=j))):=by
 refine propext ⟨fun⟨x,y,e1,e2,_,h⟩=>?_,fun h=>⟨_,_,rfl,rfl,rfl, ?_⟩⟩
 ·simp[vt] at e1 e2; subst e1 e2; simpa using h
 ·simpa using h
theorem rd_neI {i j:Int} {Q:T->Prop}:sEq true (.int i) (.int j) Q=Q (.bl (!decide (i=j))):=by
 refine propext ⟨fun⟨x,y,e1,e2,_,h⟩=>?_,fun h=>⟨_,_,rfl,rfl,rfl, ?_⟩⟩
 ·simp[vt] at e1 e2; subst e1 e2; simpa using h
 ·simpa using h
theorem rd_eqS {i j:Str} {Q:T->Prop}:sEq false (.str i) (.str j) Q=Q (.bl (decide (i=j))):=by
 refine propext ⟨fun⟨x,y,e1,e2,_,h⟩=>?_,fun h=>⟨_,_,rfl,rfl,rfl, ?_⟩⟩
 ·simp[vt] at e1 e2; subst e1 e2; simpa using h
 ·simpa using h
theorem rd_neS {i j:Str} {Q:T->Prop}:sEq true (.str i) (.str j) Q=Q (.bl (!decide (i=j))):=by
 refine propext ⟨fun⟨x,y,e1,e2,_,h⟩=>?_,fun h=>⟨_,_,rfl,rfl,rfl, ?_⟩⟩
 ·simp[vt] at e1 e2; subst e1 e2; simpa using h
 ·simpa using h
theorem rd_eqB {i j:Bool} {Q:T->Prop}:sEq false (.bl i) (.bl j) Q=Q (.bl (decide (i=j))):=by
 refine propext ⟨fun⟨x,y,e1,e2,_,h⟩=>?_,fun h=>⟨_,_,rfl,rfl,rfl, ?_⟩⟩
 ·simp[vt] at e1 e2; subst e1 e2; simpa using h
 ·simpa using h
theorem rd_neB {i j:Bool} {Q:T->Prop}:sEq true (.bl i) (.bl j) Q=Q (.bl (!decide (i=j))):=by
 refine propext ⟨fun⟨x,y,e1,e2,_,h⟩=>?_,fun h=>⟨_,_,rfl,rfl,rfl, ?_⟩⟩
 ·simp[vt] at e1 e2; subst e1 e2; simpa using h
 ·simpa using h
def VarS (o:Option (Option U)) (M:MM) (Q:UK):Prop:=∃u,o=some (some u)/\Q u M
theorem rd_var {i:Nat}:uVar i ρ M Q=VarS ρ[i]? M Q:=rfl
theorem rd_varS:VarS (some (some u)) M Q=Q u M:=propext ⟨fun⟨_,e,h⟩=>by cases e; exact h,fun h=>⟨u,rfl,h⟩⟩
def IntS (x:U) (R:Int->Prop):Prop:=∃i,x=.p (.int i)/\R i
theorem rd_intS {i:Int} {R:Int->Prop}:IntS (.p (.int i)) R=R i:=propext ⟨fun⟨_,e,h⟩=>by cases e; exact h,fun h=>⟨i,rfl,h⟩⟩
def BlS (x:U) (R:Bool->Prop):Prop:=∃b,x=.p (.bl b)/\R b
theorem rd_blS {b:Bool} {R:Bool->Prop}:BlS (.p (.bl b)) R=R b:=propext ⟨fun⟨_,e,h⟩=>by cases e; exact h,fun h=>⟨b,rfl,h⟩⟩
theorem rd_neg:uNeg ua ρ M Q=ua ρ M fun x M1=>IntS x fun i=>Q (.p (.int (-i))) M1:=rfl
theorem rd_bits:uBits ua ρ M Q=ua ρ M fun x M1=>IntS x fun i=>Q (.p (.int (Builtin.Int.intBits i))) M1:=rfl
theorem rd_b:uB ua ρ M QB=ua ρ M fun x M1=>BlS x fun b=>QB b M1:=rfl
theorem rd_andV:uAndV ua ub ρ M Q=ua ρ M fun x M1=>BlS x fun c=>if c=true then ub ρ M1 Q else Q (.p (.bl false)) M1:=rfl
theorem rd_orV:uOrV ua ub ρ M Q=ua ρ M fun x M1=>BlS x fun c=>if c=true then Q (.p (.bl true)) M1 else ub ρ M1 Q:=rfl
theorem rd_notV:uNotV ua ρ M Q=ua ρ M fun x M1=>BlS x fun c=>Q (.p (.bl (!c))) M1:=rfl
def ChS (s':T->T->(T->Prop)->Prop) (uc:UE) (ρ:UEnv) (M:MM) (y:U) (Q:UK) (z:T):Prop:=∃k,z=.bl k/\if k=true then uc ρ M fun c M3=>OpS s' M3 y c Q else Q (.p (.bl false)) M
theorem rd_chain {s s':T->T->(T->Prop)->Prop}:Zx s s' ua ub uc ρ M Q=ua ρ M fun x M1=>ub ρ M1 fun y M2=>OpS s M2 x y fun z _=>∃t,z=.p t/\ChS s' uc ρ M2 y Q t :=
 propext (by
  have e:∀(x y:U) (M2:MM),(∃a b,sn M2 x=some a/\sn M2 y=some b/\s a b fun z=>∃k,z=.bl k/\if k=true then uc ρ M2 fun c M3=>∃b' c',sn M3 y=some b'/\sn M3 c=some c'/\s' b' c' fun t=>Q (.p t) M3 else Q (.p (.bl false)) M2)=(OpS s M2 x y fun z _=>∃t,z=.p t/\ChS s' uc ρ M2 y Q t):=fun x y M2=>by
   unfold OpS ChS
   have:∀z:T,(∃t,U.p z=.p t/\∃k,t=.bl k/\if k=true then uc ρ M2 fun c M3=>OpS s' M3 y c Q else Q (.p (.bl false)) M2)=(∃k,z=.bl k/\if k=true then uc ρ M2 fun c M3=>∃b' c',sn M3 y=some b'/\sn M3 c=some c'/\s' b' c' fun t=>Q (.p t) M3 else Q (.p (.bl false)) M2):=fun z =>
    propext ⟨fun⟨t,e,h⟩=>by cases e; exact h,fun h=>⟨z,rfl,h⟩⟩
   simp only[this]
  unfold Zx
  simp only[e])
theorem rd_chP {s':T->T->(T->Prop)->Prop} {y:U} {b:Bool}:(∃t,U.p (.bl b)=.p t/\ChS s' uc ρ M y Q t)=if b=true then uc ρ M fun c M3=>OpS s' M3 y c Q else Q (.p (.bl false)) M :=
 propext ⟨fun⟨t,e,k,e2,h⟩=>by cases e; cases e2; exact h,fun h=>⟨_,rfl,b,rfl,h⟩⟩
def PurS (us:List U) (R:List T->Prop):Prop:=∃ts,vM us=some ts/\R ts
theorem JH {ts:List T} {R:List T->Prop}:PurS (ts.map U.p) R=R ts:=propext ⟨fun⟨_,e,h⟩=>by rw[xh] at e; cases e; exact h,fun h=>⟨ts,xh ts,h⟩⟩
theorem rd_pur0 {R:List T->Prop}:PurS [] R=R []:=JH (ts:=[])
theorem rd_purC {a:T} {us:List U} {R:List T->Prop}:PurS (.p a::us) R=PurS us fun ts=>R (a::ts):=by
 refine propext ⟨fun⟨ts,e,h⟩=>?_,fun⟨ts,e,h⟩=>⟨a::ts,by simp[vM,e],h⟩⟩
 simp[vM] at e
 obtain⟨r,e1,rfl⟩:=e
 exact⟨r,e1,h⟩
theorem rd_tup:uTup ul ρ M Q=ul ρ M fun us M1=>PurS us fun ts=>Q (.p (.tup ts)) M1:=rfl
theorem rd_lst:uLst ul ρ M Q=ul ρ M fun us M1=>PurS us fun ts=>Q (.p (.lst ts)) M1:=rfl
def IxS (it:MM->U->Option (List U)) (M:MM) (x y:U) (Q:UK):Prop:=∃us i z,it M x=some us/\y=.p (.int i)/\atI us i=some z/\Q z M
theorem rd_ix {it:MM->U->Option (List U)}:uIx it ua ub ρ M Q=ua ρ M fun x M1=>ub ρ M1 fun y M2=>IxS it M2 x y Q:=rfl
theorem ix_at {it:MM->U->Option (List U)} {x:U} {us:List U} {i:Int} {z:U} (h1:it M x=some us) (h2:atI us i=some z) (q:Q z M):IxS it M x (.p (.int i)) Q:=⟨us,i,z,h1,rfl,h2,q⟩
theorem Yt {ts:List T} {i:Int} {t:T} (h:atI ts i=some t):atI (ts.map U.p) i=some (.p t):=by
 unfold atI at h ⊢
 rw[List.length_map]
 cases e:ixN ts.length i with
 |none=>rw[e] at h; cases h
 |some j=>rw[e] at h; simp at h ⊢; rw[h]
theorem zf {ts:List T} {i:Int} {t:T} (h:atI ts i=some t) (q:Q (.p t) M):IxS qV M (.p (.lst ts)) (.p (.int i)) Q:=ix_at rfl (Yt h) q
theorem ixt_at {ts:List T} {i:Int} {t:T} (h:atI ts i=some t) (q:Q (.p t) M):IxS vi M (.p (.tup ts)) (.p (.int i)) Q:=ix_at rfl (Yt h) q
def SnsS (M:MM) (us:List U) (R:List T->Prop):Prop:=∃ts,sns M us=some ts/\R ts
theorem rd_sns0 {R:List T->Prop}:SnsS M [] R=R []:=propext ⟨fun⟨_,e,h⟩=>by cases e; exact h,fun h=>⟨[],rfl,h⟩⟩
theorem rd_snsC {a:T} {us:List U} {R:List T->Prop}:SnsS M (.p a::us) R=SnsS M us fun ts=>R (a::ts):=by
 refine propext ⟨fun⟨ts,e,h⟩=>?_,fun⟨ts,e,h⟩=>⟨a::ts,by simp[sns,sn,e],h⟩⟩
 simp only[sns,sn] at e
 cases q:sns M us with
 |none=>rw[q] at e; cases e
 |some r=>rw[q] at e; simp at e; subst e; exact⟨r,q,h⟩
theorem rd_cb {s:List T->(T->Prop)->Prop}:uCb s ul ρ M Q=ul ρ M fun us M1=>SnsS M1 us fun ts=>s ts fun t=>Q (.p t) M1:=rfl
theorem rd_abs' {i:Int} {Q:T->Prop}:sAbs [.int i] Q=Q (.int (if i<0 then -i else i)):=propext ⟨fun⟨_,e,h⟩=>by cases e; exact h,fun h=>⟨i,rfl,h⟩⟩
theorem rd_min' {i j:Int} {Q:T->Prop}:sMin [.int i, .int j] Q=Q (.int (if j<i then j else i)):=propext ⟨fun⟨_,_,e,h⟩=>by cases e; exact h,fun h=>⟨i,j,rfl,h⟩⟩
theorem rd_max' {i j:Int} {Q:T->Prop}:sMax [.int i, .int j] Q=Q (.int (if j>i then j else i)):=propext ⟨fun⟨_,_,e,h⟩=>by cases e; exact h,fun h=>⟨i,j,rfl,h⟩⟩
theorem rd_int' {i:Int} {Q:T->Prop}:sInt [.int i] Q=Q (.int i):=by
 refine propext ⟨fun h=>?_,fun h=>Or.inl ⟨i,rfl,h⟩⟩
 rcases h with⟨_,e,h⟩|⟨_,e,h⟩
 ·cases e; exact h
 ·cases e
theorem rd_intB {k:Bool} {Q:T->Prop}:sInt [.bl k] Q=Q (.int (if k then 1 else 0)):=by
 refine propext ⟨fun h=>?_,fun h=>Or.inr ⟨k,rfl,h⟩⟩
 rcases h with⟨_,e,h⟩|⟨_,e,h⟩
 ·cases e
 ·cases e; exact h
def LenS (it:MM->U->Option (List U)) (M:MM) (us:List U) (Q:UK):Prop:=∃x ys,us=[x]/\it M x=some ys/\Q (.p (.int ys.length)) M
theorem rd_len {it:MM->U->Option (List U)}:uLen it ul ρ M Q=ul ρ M fun us M1=>LenS it M1 us Q:=rfl
theorem rd_lenP {ts:List T}:LenS qV M [.p (.lst ts)] Q=Q (.p (.int ts.length)) M :=
 propext ⟨fun⟨_,_,e1,e2,h⟩=>by cases e1; cases e2; rw[List.length_map] at h; exact h,fun h=>⟨_,_,rfl,rfl,by rw[List.length_map]; exact h⟩⟩
theorem KB {k:Nat} {us:List U} (e:M[k]?=some (.lst us)) (h:Q (.p (.int us.length)) M):LenS qV M [.m k] Q:=⟨_,_,rfl,by simp[qV,e],h⟩
def SlS (M:MM) (x:U) (l h:Option Int) (Q:UK):Prop:=∃ts,sn M x=some (.lst ts)/\Q (.p (.lst (cutT ts l h))) M
theorem rd_sl {u1 u2:UO}:uSl ua u1 u2 ρ M Q=ua ρ M fun x M1=>u1 ρ M1 fun l M2=>u2 ρ M2 fun h M3=>SlS M3 x l h Q:=rfl
theorem rd_slS {ts:List T} {l h:Option Int}:SlS M (.p (.lst ts)) l h Q=Q (.p (.lst (cutT ts l h))) M:=propext ⟨fun⟨_,e,h⟩=>by cases e; exact h,fun h=>⟨ts,rfl,h⟩⟩
theorem rd_part {QO:Option Int->MM->Prop}:uPart ua ρ M QO=ua ρ M fun x M1=>IntS x fun i=>QO (some i) M1:=rfl
theorem JI {QO:Option Int->MM->Prop}:VI ρ M QO=QO none M:=rfl
theorem rd_cat {xs ys:List T} {Q:T->Prop}:sCat (.lst xs) (.lst ys) Q=(xs.length+ys.length<=sizeLine/\Q (.lst (xs++ys))):=propext ⟨fun⟨_,_,e1,e2,h⟩=>by cases e1; cases e2; exact h,fun h=>⟨xs,ys,rfl,rfl,h⟩⟩
theorem rd_str {i j:Str} {Q:T->Prop}:sStr (.str i) (.str j) Q=(i.length+j.length<=sizeLine/\Q (.str (i++j))):=propext ⟨fun⟨_,_,e1,e2,h⟩=>by cases e1; cases e2; exact h,fun h=>⟨i,j,rfl,rfl,h⟩⟩
def itU (x:U) (us:List U):UIt:=⟨us.length,fun M=>qV M x=some us,fun i z=>us[i]?=some z⟩
def IterS (M:MM) (x:U) (R:UIt->MM->Prop):Prop:=∃us,qV M x=some us/\R (itU x us) M
theorem rd_iter {R:UIt->MM->Prop}:uIter ua ρ M R=ua ρ M fun x M1=>IterS M1 x R:=rfl
theorem rd_iterP {ts:List T} {R:UIt->MM->Prop}:IterS M (.p (.lst ts)) R=R (itU (.p (.lst ts)) (ts.map U.p)) M:=propext ⟨fun⟨_,e,h⟩=>by cases e; exact h,fun h=>⟨_,rfl,h⟩⟩
def itR0 (n:Nat):UIt:=⟨n,fun _=>True,fun i z=>z=.p (.int i)⟩
def RngS (us:List U) (M:MM) (R:UIt->MM->Prop):Prop:=∃j:Int,us=[.p (.int j)] /\ -(2^62)<=j/\j<2^62/\R (itR0 j.toNat) M
theorem rd_rng1 {R:UIt->MM->Prop}:uRng1 ul ρ M R=ul ρ M fun us M1=>RngS us M1 R:=rfl
theorem ZK {j:Int} {R:UIt->MM->Prop} (h1 : -(2^62)<=j) (h2:j<2^62) (q:R (itR0 j.toNat) M):RngS [.p (.int j)] M R:=⟨j,rfl,h1,h2,q⟩
theorem Zt {m:Nat} {ub:US} (Iv:Nat->UEnv->MM->Prop) (h0:Iv 0 ρ M) (hs:∀(i:Nat) ρ2 M2,i<m->Iv i ρ2 M2->ug (.p (.int i)) ρ2 M2 fun ρ3 M3=>ub { E with nx:=Iv (i+1),ct:=Iv (i+1),bk:=E.nx } ρ3 M3) (hd:∀ρ2 M2,Iv m ρ2 M2->E.nx ρ2 M2):UFor (itR0 m) ug ub E ρ M :=
 ⟨Iv,h0,fun i ρ2 M2 hi h=>⟨trivial,fun u hu=>by cases(show u=_ from hu); exact hs i ρ2 M2 hi h⟩,fun ρ2 M2 h=>⟨trivial,hd ρ2 M2 h⟩⟩
theorem xW {ts:List T} {ρ0:UEnv} (hz:ts.length<=sizeLine) (Iv:Nat->List T->MM->Prop) (h0:Iv 0 [] M) (hs:∀i t acc M2,ts[i]?=some t->acc.length<=i->Iv i acc M2->ug (.p t) ρ0 M2 fun ρ4 M4=>ut ρ4 M4 fun b M5=>if b=true then ua ρ4 M5 fun z M6=>∃t,z=.p t/\Iv (i+1) (acc++[t]) M6 else Iv (i+1) acc M5) (hd:∀acc M2,Iv ts.length acc M2->Q (.p (.lst acc)) M2):QC (itU (.p (.lst ts)) (ts.map U.p)) ug ut ua ρ0 M Q:=by
 refine⟨by simpa[itU] using hz,Iv,h0,fun i acc M2 hi ha h=>⟨rfl,fun u hu=>?_⟩,fun acc M2 h=>⟨rfl,hd acc M2 (by simpa[itU] using h)⟩⟩
 have hu:(ts.map U.p)[i]?=some u:=hu
 rw[List.getElem?_map] at hu
 cases e:ts[i]? with
 |none=>rw[e] at hu; cases hu
 |some t=>rw[e] at hu; cases hu; exact hs i t acc M2 e ha h
theorem QJ {m:Nat} {ρ0:UEnv} (hz:m<=sizeLine) (Iv:Nat->List T->MM->Prop) (h0:Iv 0 [] M) (hs:∀(i:Nat) acc M2,i<m->acc.length<=i->Iv i acc M2->ug (.p (.int i)) ρ0 M2 fun ρ4 M4=>ut ρ4 M4 fun b M5=>if b=true then ua ρ4 M5 fun z M6=>∃t,z=.p t/\Iv (i+1) (acc++[t]) M6 else Iv (i+1) acc M5) (hd:∀acc M2,Iv m acc M2->Q (.p (.lst acc)) M2):QC (itR0 m) ug ut ua ρ0 M Q :=
 ⟨hz,Iv,h0,fun i acc M2 hi ha h=>⟨trivial,fun u hu=>by cases(show u=_ from hu); exact hs i acc M2 hi ha h⟩,fun acc M2 h=>⟨trivial,hd acc M2 h⟩⟩
def T2S (M:MM) (u:U) (R:U->U->Prop):Prop:=∃a b,vi M u=some [a,b]/\R a b
def T3S (M:MM) (u:U) (R:U->U->U->Prop):Prop:=∃a b c,vi M u=some [a,b,c]/\R a b c
theorem rd_name2 {i j:Nat} {R:UEnv->MM->Prop}:QK i j u ρ M R=T2S M u fun a b=>R ((ρ.set i (some a)).set j (some b)) M:=rfl
theorem rd_name3 {i j k:Nat} {R:UEnv->MM->Prop}:uName3 i j k u ρ M R=T3S M u fun a b c=>R (((ρ.set i (some a)).set j (some b)).set k (some c)) M:=rfl
theorem rd_t2 {a b:T} {R:U->U->Prop}:T2S M (.p (.tup [a,b])) R=R (.p a) (.p b):=propext ⟨fun⟨_,_,e,h⟩=>by cases e; exact h,fun h=>⟨_,_,rfl,h⟩⟩
theorem rd_t3 {a b c:T} {R:U->U->U->Prop}:T3S M (.p (.tup [a,b,c])) R=R (.p a) (.p b) (.p c):=propext ⟨fun⟨_,_,_,e,h⟩=>by cases e; exact h,fun h=>⟨_,_,_,rfl,h⟩⟩
theorem rd_callP {G:List T->(T->Prop)->Prop}:Jl G ul ρ M Q=ul ρ M fun us M1=>PurS us fun ts=>G ts fun t=>Q (.p t) M1:=rfl
theorem rd_callS {G:List T->(T->Prop)->Prop}:uCallS G ul ρ M Q=ul ρ M fun us M1=>SnsS M1 us fun ts=>G ts fun t=>(∃x,vt t=some x)/\Q (.p t) M1:=rfl
theorem rd_callU {G:List U->MM->UK->Prop}:uCall G ul ρ M Q=ul ρ M fun us M1=>G us M1 Q:=rfl
def MeS (s:List U->List U->(U->List U->Prop)->Prop) (ul:UA) (ρ:UEnv) (M:MM) (o:U) (Q:UK):Prop:=∃k,o=.m k/\(∃zs,M[k]?=some (.lst zs))/\ul ρ M fun ws M2=>∃us,M2[k]?=some (.lst us)/\s us ws fun z us'=>Q z (M2.set k (.lst us'))
theorem rd_me {s:List U->List U->(U->List U->Prop)->Prop}:uMe s ua ul ρ M Q=ua ρ M fun o M1=>MeS s ul ρ M1 o Q:=rfl
theorem me_at {s:List U->List U->(U->List U->Prop)->Prop} {k:Nat} {zs:List U} (e:M[k]?=some (.lst zs)) (h:ul ρ M fun ws M2=>∃us,M2[k]?=some (.lst us)/\s us ws fun z us'=>Q z (M2.set k (.lst us'))):MeS s ul ρ M (.m k) Q:=⟨k,rfl,⟨zs,e⟩,h⟩
theorem rd_app {us:List U} {y:U} {Q:U->List U->Prop}:JE us [y] Q=(us.length<sizeLine/\Q (.p .non) (us++[y])):=propext ⟨fun⟨_,e,h⟩=>by cases e; exact h,fun h=>⟨y,rfl,h⟩⟩
theorem ss {α:Type} {a:α} {R:α->Prop}:(∃x,some a=some x/\R x)=R a:=propext ⟨fun⟨_,e,h⟩=>by cases e; exact h,fun h=>⟨a,rfl,h⟩⟩
end
inductive EqT:Nat->T->T->Bool->Prop
 |flat {n:Nat} {a b:T} {x y:V}:vt a=some x->vt b=some y->EqT n a b (eqV x y)
 |tup {n:Nat} {xs ys:List T} {e:Nat->Bool}:(∀(j:Nat) x y,xs[j]?=some x->ys[j]?=some y->EqT n x y (e j))->EqT (n+1) (.tup xs) (.tup ys) ((List.range (min xs.length ys.length)).all e&&xs.length==ys.length)
 |lst {n:Nat} {xs ys:List T} {e:Nat->Bool}:xs.length=ys.length->(∀(j:Nat) x y,xs[j]?=some x->ys[j]?=some y->EqT n x y (e j))->EqT (n+1) (.lst xs) (.lst ys) ((List.range xs.length).all e)
 |lstN {n:Nat} {xs ys:List T}:xs.length≠ys.length->EqT (n+1) (.lst xs) (.lst ys) false
section
variable {A:Addr->Prop} {H:Hp} {ι:List Addr} {M M':MM} {v:V} {u:U} {t:T} {K:PySem.W.Frag} {n:Nat}
theorem RepT.inj {a b:T} (r:RepT A H v a):RepT A H v b->a=b:=by
 induction r generalizing b with
 |non=>intro q; cases q; rfl
 |bl=>intro q; cases q; rfl
 |int=>intro q; cases q; rfl
 |str=>intro q; cases q; rfl
 |tup na e l r ih =>
  intro q
  cases q with
  |tup na' e' l' r' =>
   rw[e] at e'; cases e'
   congr 1
   refine List.ext_getElem (by omega) fun i h1 h2=>?_
   have h3:=h1
   rw[<-l] at h3
   exact ih i _ _ (List.getElem?_eq_getElem h3) (List.getElem?_eq_getElem h1) (r' i _ _ (List.getElem?_eq_getElem h3) (List.getElem?_eq_getElem h2))
  |lst na' e' l' r'=>rw[e] at e'; cases e'
 |lst na e l r ih =>
  intro q
  cases q with
  |lst na' e' l' r' =>
   rw[e] at e'; cases e'
   congr 1
   refine List.ext_getElem (by omega) fun i h1 h2=>?_
   have h3:=h1
   rw[<-l] at h3
   exact ih i _ _ (List.getElem?_eq_getElem h3) (List.getElem?_eq_getElem h1) (r' i _ _ (List.getElem?_eq_getElem h3) (List.getElem?_eq_getElem h2))
  |tup na' e' l' r'=>rw[e] at e'; cases e'
theorem eqV_self:∀{x:V} {t:T},vt t=some x->eqV x x=true:=fun {x t} h=>by cases QD h<;>simp[eqV]
theorem EqT.self {a b:T} {r:Bool} (h:EqT n a b r):a=b->r=true:=by
 induction h with
 |flat h1 h2=>intro e; subst e; rw[h1] at h2; cases h2; exact eqV_self h1
 | @tup n xs ys e hh ih =>
  intro q
  cases q
  simp only[Nat.min_self,beq_self_eq_true,Bool.and_true,List.all_eq_true,List.mem_range]
  intro j hj
  exact ih j _ _ (List.getElem?_eq_getElem hj) (List.getElem?_eq_getElem hj) rfl
 | @lst n xs ys e hl hh ih =>
  intro q
  cases q
  simp only[List.all_eq_true,List.mem_range]
  intro j hj
  exact ih j _ _ (List.getElem?_eq_getElem hj) (List.getElem?_eq_getElem hj) rfl
 |lstN hl=>intro q; cases q; exact absurd rfl hl
theorem EqT.de {a b:T} {r:Bool} (h:EqT n a b r):∀{x y:V},RepT A H x a->RepT A H y b->DE K H n x y r:=by
 induction h with
 | @flat n a b x0 y0 h1 h2 =>
  intro x y r1 r2
  cases(RepV.of r1).sc (y:=.non) h1; cases(RepV.of r2).sc (y:=.non) h2
  exact .flat (by cases QD h1<;>rfl) (by cases QD h2<;>rfl)
 | @tup n xs ys e hh ih =>
  intro x y r1 r2
  obtain⟨p,vs,rfl,_,h1,q1⟩:=r1.tup_inv
  obtain⟨p2,vs2,rfl,_,h2,q2⟩:=r2.tup_inv
  by_cases hp:p=p2
  ·subst hp
   have:=(EqT.tup (n:=n) hh).self (r1.inj r2)
   rw[this]; exact .same
  ·have:=DE.tup (K:=K) (H:=H) (n:=n) (e:=e) hp (SqT.of h1) (SqT.of h2) fun j x y hx hy=>by
    obtain⟨a,ha,ra⟩:=Paired.getL q1 hx
    obtain⟨b,hb,rb⟩:=Paired.getL q2 hy
    exact ih j a b ha hb ra rb
   rw[q1.len,q2.len] at this
   exact this
 | @lst n xs ys e hl hh ih =>
  intro x y r1 r2
  obtain⟨p,vs,rfl,_,h1,q1⟩:=r1.lst_inv
  obtain⟨p2,vs2,rfl,_,h2,q2⟩:=r2.lst_inv
  by_cases hp:p=p2
  ·subst hp
   have:=(EqT.lst (n:=n) hl hh).self (r1.inj r2)
   rw[this]; exact .same
  ·have:=DE.lst (K:=K) (H:=H) (n:=n) (e:=e) hp (SqL.of h1) (SqL.of h2) (by rw[q1.len,q2.len,hl]) fun j x y hx hy=>by
    obtain⟨a,ha,ra⟩:=Paired.getL q1 hx
    obtain⟨b,hb,rb⟩:=Paired.getL q2 hy
    exact ih j a b ha hb ra rb
   rw[q1.len] at this
   exact this
 | @lstN n xs ys hl =>
  intro x y r1 r2
  obtain⟨p,vs,rfl,_,h1,q1⟩:=r1.lst_inv
  obtain⟨p2,vs2,rfl,_,h2,q2⟩:=r2.lst_inv
  by_cases hp:p=p2
  ·subst hp
   have:=r1.inj r2
   cases this
   exact absurd rfl hl
  ·exact .lstN hp (SqL.of h1) (SqL.of h2) (by rw[q1.len,q2.len]; exact hl)
def sEqL (neg:Bool):T->T->(T->Prop)->Prop:=fun a b Q=>∃xs ys,a=.lst xs/\b=.lst ys/\((xs.length≠ys.length/\Q (.bl neg))\/(xs.length=ys.length/\∃e:Nat->Bool,(∀(j:Nat) x y,xs[j]?=some x->ys[j]?=some y->EqT 20 x y (e j))/\Q (.bl (if neg then !(List.range xs.length).all e else(List.range xs.length).all e))))
theorem VU:OpL (rEqL K) (sEqL false):=fun A ι H M x y a b Qs Q w r1 r2 ⟨xs,ys,ea,eb,h⟩ k=>by
 subst ea eb
 obtain⟨p,vs,rfl,h1,q1⟩:=r1.lst_inv
 obtain⟨p2,vs2,rfl,h2,q2⟩:=r2.lst_inv
 refine⟨p,p2,vs,vs2,rfl,rfl,SqL.of h1,SqL.of h2, ?_⟩
 rcases h with⟨hl,q⟩|⟨hl,e,he,q⟩
 ·exact .inl ⟨by rw[q1.len,q2.len]; exact hl,k _ ι _ H (.refl _ _) w (.bl _) q⟩
 ·refine .inr ⟨by rw[q1.len,q2.len]; exact hl,e,fun j x y hx hy=>?_,by rw[q1.len]; exact k _ ι _ H (.refl _ _) w (.bl _) q⟩
  obtain⟨a,ha,ra⟩:=Paired.getL q1 hx
  obtain⟨b,hb,rb⟩:=Paired.getL q2 hy
  exact(he j a b ha hb).de ra rb
theorem opl_neL:OpL (rNeL K) (sEqL true):=fun A ι H M x y a b Qs Q w r1 r2 ⟨xs,ys,ea,eb,h⟩ k=>by
 subst ea eb
 obtain⟨p,vs,rfl,h1,q1⟩:=r1.lst_inv
 obtain⟨p2,vs2,rfl,h2,q2⟩:=r2.lst_inv
 refine⟨p,p2,vs,vs2,rfl,rfl,SqL.of h1,SqL.of h2, ?_⟩
 rcases h with⟨hl,q⟩|⟨hl,e,he,q⟩
 ·exact .inl ⟨by rw[q1.len,q2.len]; exact hl,k _ ι _ H (.refl _ _) w (.bl _) q⟩
 ·refine .inr ⟨by rw[q1.len,q2.len]; exact hl,e,fun j x y hx hy=>?_,by rw[q1.len]; exact k _ ι _ H (.refl _ _) w (.bl _) q⟩
  obtain⟨a,ha,ra⟩:=Paired.getL q1 hx
  obtain⟨b,hb,rb⟩:=Paired.getL q2 hy
  exact(he j a b ha hb).de ra rb
abbrev intsT (ns:List Int):T:=.lst (ns.map T.int)
theorem eqNil {neg:Bool} {xs:List T} {Q:T->Prop} (q:Q (.bl (if neg then !xs.isEmpty else xs.isEmpty))):sEqL neg (.lst xs) (.lst []) Q:=by
 refine⟨_,_,rfl,rfl, ?_⟩
 cases xs with
 |nil=>exact .inr ⟨rfl,fun _=>true,fun j x y hx=>by simp at hx,by simpa using q⟩
 |cons x xs=>exact .inl ⟨by simp,by cases neg<;>simpa using q⟩
def sRep:T->T->(T->Prop)->Prop:=fun a b Q=>∃xs k,a=.lst xs/\b=.int k /\ -(2^63)<=k/\k<2^63/\xs.length*k.toNat<=sizeLine/\Q (.lst (List.replicate k.toNat xs).flatten)
theorem J4:OpL rRep sRep:=fun A ι H M x y a b Qs Q w r1 r2 ⟨xs,kk,ea,eb,k0,k1,hz,q⟩ k=>by
 subst ea eb
 obtain⟨p,vs,rfl,h1,q1⟩:=r1.lst_inv
 cases r2.int_inv
 exact⟨p,kk,vs,rfl,rfl,h1,k0,k1,by rw[q1.len]; exact hz,fun l hl=>k _ ι _ _ (.fresh hl) (w.fresh hl) (zp w hl (kw q1 _)) q⟩
def frzB (b:Nat):Nat->MM->U->Option T
 |_,_, .p t=>some t
 |0,_, .m _=>none
 |_,_, .x _ _ _=>none
 |n+1,M, .m k=>if b<=k then match M[k]? with
  |some (.lst us)=>(frzs (frzB b n M) us).map T.lst
  |some (.tup us)=>(frzs (frzB b n M) us).map T.tup
  |_=>none else none
@[simp] theorem frzB_p {b n:Nat} {M:MM} {t:T}:frzB b n M (.p t)=some t:=by cases n<;>rfl
theorem Vm {A':Addr->Prop} {f:U->Option T} {vs:List V} {us:List U} {ts:List T} (r:RepUs A ι H vs us) (h:∀v u t,RepU A ι H v u->f u=some t->RepT A' H v t) (e:frzs f us=some ts):RepTs A' H vs ts:=by
 induction r generalizing ts with
 |nil=>simp[frzs] at e; subst e; exact .nil
 |cons r q ih =>
  simp only[frzs] at e
  split at e
  ·rename_i h1 h2
   simp at e; subst e
   exact .cons (h _ _ _ r h1) (ih h2)
  ·cases e
theorem Qo {m:List Addr} (w:Wd A (ι++m) H M):∀{n:Nat} {v:V} {u:U} {t:T},RepU A (ι++m) H v u->frzB ι.length n M u=some t->RepT (Av A ι) H v t
 |n,v, .p t',t, .p r,e=>by
  rw[frzB_p] at e; cases e
  exact r.mono fun x o hx ex=>⟨ex,fun z=>hx (z.elim .inl fun z=>.inr (List.mem_append_left _ z))⟩
 |0,v, .m k,t,r,e=>by simp[frzB] at e
 |n,v, .x a d q,t,r,e=>by cases n<;>simp[frzB] at e
 |n+1,v, .m k,t,r,e=>by
  cases r with
  |m q =>
  rename_i a
  obtain⟨o,h1,h2⟩:=w.al q
  simp only[frzB,h1] at e
  split at e
  ·rename_i hk
   have hna:¬Av A ι a:=fun z=>by
    rcases z with z|z
    ·exact w.na _ (List.mem_of_getElem? q) z
    ·rw[List.getElem?_append_right hk] at q
     have hd:=(List.nodup_append.mp w.nd).2.2
     exact hd a z a (List.mem_of_getElem? q) rfl
   cases o with
   |lst us =>
    simp at e
    obtain⟨ts,e1,rfl⟩:=e
    obtain⟨vs,h3,h4⟩:=h2
    exact .lstP hna h3 (Vm h4 (fun v u t r e=>Qo w r e) e1)
   |tup us =>
    simp at e
    obtain⟨ts,e1,rfl⟩:=e
    obtain⟨vs,h3,h4⟩:=h2
    exact .tupP hna h3 (Vm h4 (fun v u t r e=>Qo w r e) e1)
   |ins=>simp at e
   |dK=>simp at e
  ·cases e
def PurO (o:MO):Prop:=∃ts:List T,o=.lst (ts.map U.p)
def zh (M M':MM):Prop:=∀(i:Nat) o,i<M.length->M'[i]?=some o->M[i]?=some o\/PurO o
theorem RepU.less {m:List Addr} {v0:V} {H0:Hp} (r:RepU A (ι++m) H v u) (r0:RepU A ι H0 v0 u):RepU A ι H v u:=by
 cases r with
 |p r=>exact .p (r.mono fun x o hx ex=>⟨ex,fun z=>hx (z.elim .inl fun z=>.inr (List.mem_append_left _ z))⟩)
 |m e =>
  cases r0 with
  |m e0 =>
   rw[List.getElem?_append_left (List.getElem?_eq_some_iff.mp e0).1] at e
   exact .m e
 | @x a d q h =>
  refine .x ?_
  cases q with
  |none=>exact h
  |some n =>
   obtain⟨x0,e,ni,hx⟩:=h
   exact⟨x0,e,fun z=>ni (List.mem_append_left _ z),hx⟩
theorem vZ {α β:Type} {F G L:α->β->Prop} (h:∀a a0 b,F a b->G a0 b->L a b):∀{l l0:List α} {r:List β},Paired F l r->Paired G l0 r->Paired L l r
 |_,_,_, .nil, .nil=>.nil
 |_,_,_, .cons p q, .cons p0 q0=>.cons (h _ _ _ p p0) (vZ h q q0)
theorem ObjR.less {m:List Addr} {a a0:Addr} {o:MO} {H0:Hp} (r:ObjR A (ι++m) H a o) (r0:ObjR A ι H0 a0 o):ObjR A ι H a o:=by
 cases o with
 |lst=>obtain⟨vs,e,r⟩:=r; obtain⟨_,_,r0⟩:=r0; exact⟨vs,e,vZ (fun _ _ _ p q=>p.less q) r r0⟩
 |tup=>obtain⟨vs,e,r⟩:=r; obtain⟨_,_,r0⟩:=r0; exact⟨vs,e,vZ (fun _ _ _ p q=>p.less q) r r0⟩
 |ins=>obtain⟨dx,gs,e,ed,nd,r⟩:=r; obtain⟨_,_,_,_,_,r0⟩:=r0; exact⟨dx,gs,e,ed,fun z=>nd (List.mem_append_left _ z),vZ (fun _ _ _ p q=>⟨p.1,p.2.less q.2⟩) r r0⟩
 |dK=>obtain⟨gs,e,r⟩:=r; obtain⟨_,_,r0⟩:=r0; exact⟨gs,e,vZ (fun _ _ _ p q=>⟨p.1,p.2.less q.2⟩) r r0⟩
theorem Wd.trim {m:List Addr} {H0:Hp} (w:Wd A (ι++m) H M') (w0:Wd A ι H0 M) (h:zh M M'):Wd A ι H (M'.take M.length):=by
 have hl:M.length<=M'.length:=by
  have:=w.len; rw[List.length_append,w0.len] at this; omega
 refine⟨(List.nodup_append.mp w.nd).1,by rw[List.length_take,Nat.min_eq_left hl]; exact w0.len,w.dom,fun x hx=>w.na x (List.mem_append_left _ hx),fun k a o e1 e2=>?_⟩
 have hk:=(List.getElem?_eq_some_iff.mp e1).1
 rw[List.getElem?_take_of_lt (by rw[<-w0.len]; exact hk)] at e2
 have r:=w.obj k a o (by rw[List.getElem?_append_left hk]; exact e1) e2
 rcases h k o (by rw[<-w0.len]; exact hk) e2 with z|⟨ts,rfl⟩
 ·exact r.less (w0.obj k a o e1 z)
 ·obtain⟨vs,e,q⟩:=r
  refine⟨vs,e, ?_⟩
  have q2:=q.pures
  exact RepTs.ups (Paired.mapP q2 fun _ _ q=>q.mono fun x o hx ex=>⟨ex,fun z=>hx (z.elim .inl fun z=>.inr (List.mem_append_left _ z))⟩)
end
section
variable {P:Program} {w:World} {K:PySem.W.Frag} {mg:Str->Option Value} {base:Heap}
theorem Fun.okV {x qual:Str} {st:Stmt} {f:Addr} {fd:FuncData} {N ps:List Str} {k:Nat} {G:List U->MM->UK->Prop} (F:Fun K x qual st f fd) (S:FnScope N ps (qc st)) (len:∀us M Qu,G us M Qu->us.length=ps.length)
  (hbody:∀(cdv:Value) (A:Around) (outer:List Env) (s:Shared) (H:Hp) (E:XK),Room k (A.deeper (envOfC qual (qc st) s.heap.objs.size f cdv)) ->
   ∃t,PSs (cxOf CX0 P w K mg base N qual (qc st) f cdv A outer s H E).nox (qh st) t/\∃u,LS t u/\∀us M Qu,G us M Qu->u { nx:=fun _ M'=>zh M M'/\Qu (.p .non) (M'.take M.length),rt:=fun z M'=>zh M M'/\∃t,frzB M.length 4 M' z=some t/\Qu (.p t) (M'.take M.length) } (zD N us) M):FnOk P w K mg base CX0 (k+1) f fd ps (spU G):=by
 refine F.ok S (fun vs H Q E h=>?_) (fun cdv A outer s H vs Q E hr h=>?_)
 ·obtain⟨A,ι,M,us,Qu,w1,r,g,_⟩:=h
  rw[r.len]; exact len us M Qu g
 ·obtain⟨B,ι,M,us,Qu,w1,r,g,kk⟩:=h
  obtain⟨t,ht,u,hu,hb⟩:=hbody cdv A outer s H E hr
  have less:∀{ι1:List Addr} {H1:Hp},Le ι H ι1 H1->Le ι H ι H1:=fun l=>⟨⟨[],by simp,by simp⟩,l.fr,l.al⟩
  refine⟨t,ht,hu B ι _ H _ M _ { nx:=fun _ M'=>zh M M'/\Qu (.p .non) (M'.take M.length),rt:=fun z M'=>zh M M'/\∃t,frzB M.length 4 M' z=some t/\Qu (.p t) (M'.take M.length) } w1 (zC r) ⟨fun ι1 σ1 H1 ρ1 M1 l1 w2 e1 q1=>?_,fun ι1 v H1 z M1 l1 w2 r1 q1=>?_,fun _ _ _ _ _ _ _ _ q=>q.elim,fun _ _ _ _ _ _ _ _ q=>q.elim⟩ (hb us M Qu g)⟩
  ·obtain⟨tr,q⟩:=q1
   obtain⟨m,rfl,_⟩:=id l1.ext
   exact kk _ _ ι _ H1 (less l1) (w2.trim w1 tr) (.p .non) q
  ·obtain⟨tr,t1,et,q⟩:=q1
   obtain⟨m,rfl,_⟩:=id l1.ext
   rw[<-w1.len] at et
   exact kk _ _ ι v H1 (less l1) (w2.trim w1 tr) (.p (Qo w2 r1 et)) q
end
section
variable {ta tb:TE} {ua ub uc:UE} {ul:UA} {A:Addr->Prop} {H H':Hp} {ι ι':List Addr} {M M':MM} {v:V} {u:U} {σ:St} {ρ:UEnv}
def keyU:Key->U
 |.inl i=>.p (.int i)
 |.inr x=>.p (.str x)
def valU (kvs:List (Key×U)) (k:Key):Option U:=(kvs.find? fun kv=>decide (kv.1=k)).map (·.2)
def putU (kvs:List (Key×U)) (k:Key) (y:U):List (Key×U):=if kvs.any (fun kv=>decide (kv.1=k)) then kvs.map (fun kv=>if kv.1=k then(kv.1,y) else kv) else kvs++[(k,y)]
def Vg (kvs more:List (Key×U)):List (Key×U):=more.foldl (fun acc kv=>putU acc kv.1 kv.2) kvs
abbrev KR (A:Addr->Prop) (ι:List Addr) (H:Hp):List (Key×V)->List (Key×U)->Prop:=Paired fun(g:Key×V) (f:Key×U)=>g.1=f.1/\RepU A ι H g.2 f.2
theorem Jb {gs:List (Key×V)} {kvs:List (Key×U)} {k:Key} (r:KR A ι H gs kvs):match valU kvs k with|some u=>∃v,valV gs k=some v/\RepU A ι H v u|none=>valV gs k=none:=by
 induction r with
 |nil=>rfl
 | @cons g f gs kvs p q ih =>
  obtain⟨e,r⟩:=p
  unfold valU valV at ih ⊢
  simp only[List.find?_cons]
  by_cases h:f.1=k
  ·rw[e]
   simp only[h,decide_true]
   exact⟨_,rfl,r⟩
  ·rw[e]
   simp only[h,decide_false]
   exact ih
theorem any_rep {gs:List (Key×V)} {kvs:List (Key×U)} {k:Key} (r:KR A ι H gs kvs):(gs.any fun kv=>decide (kv.1=k))=(kvs.any fun kv=>decide (kv.1=k)):=by
 induction r with
 |nil=>rfl
 |cons p q ih=>rw[List.any_cons,List.any_cons,ih,p.1]
theorem V2 {gs:List (Key×V)} {kvs:List (Key×U)} {k:Key} (r:KR A ι H gs kvs) (rv:RepU A ι H v u):KR A ι H (gs.map fun kv=>if kv.1=k then(kv.1,v) else kv) (kvs.map fun kv=>if kv.1=k then(kv.1,u) else kv):=by
 induction r with
 |nil=>exact .nil
 | @cons g f gs kvs p q ih =>
  refine .cons ?_ ih
  show(if g.1=k then(g.1,v) else g).1=(if f.1=k then(f.1,u) else f).1/\RepU A ι H (if g.1=k then(g.1,v) else g).2 (if f.1=k then(f.1,u) else f).2
  by_cases h:f.1=k
  ·rw[if_pos h,if_pos (p.1.trans h)]; exact⟨p.1,rv⟩
  ·rw[if_neg h,if_neg (fun z=>h (p.1.symm.trans z))]; exact p
theorem put_rep {gs:List (Key×V)} {kvs:List (Key×U)} {k:Key} (r:KR A ι H gs kvs) (rv:RepU A ι H v u):KR A ι H (putK gs k v) (putU kvs k u):=by
 unfold putK putU
 rw[any_rep r]
 split
 ·exact V2 r rv
 ·exact r.app (.cons ⟨rfl,rv⟩ .nil)
theorem Kp {more:List (Key×V)} {moreU:List (Key×U)} (q:KR A ι H more moreU):∀{gs:List (Key×V)} {kvs:List (Key×U)},KR A ι H gs kvs->KR A ι H (jV gs more) (Vg kvs moreU):=by
 unfold jV Vg
 induction q with
 |nil=>intro gs kvs r; exact r
 |cons p q ih =>
  intro gs kvs r
  rw[List.foldl_cons,List.foldl_cons,p.1]
  exact ih (put_rep r p.2)
inductive LPs:List (TE×TE)->List (UE×UE)->Prop
 |nil:LPs [] []
 |cons {tk tv:TE} {uk uv:UE} {ts:List (TE×TE)} {us:List (UE×UE)}:LE tk uk->LE tv uv->LPs ts us->LPs ((tk,tv)::ts) ((uk,uv)::us)
def Zu:List (UE×UE)->UEnv->MM->(List (U×U)->MM->Prop)->Prop
 | [],_,M,Q=>Q [] M
 | (k,v)::r,ρ,M,Q=>k ρ M fun x M1=>v ρ M1 fun y M2=>Zu r ρ M2 fun ps M3=>Q ((x,y)::ps) M3
theorem lps_run {trs:List (TE×TE)} {urs:List (UE×UE)} (h:LPs trs urs):∀(A:Addr->Prop) (ι:List Addr) (σ:St) (H:Hp) (ρ:UEnv) (M:MM) (Qu:List (U×U)->MM->Prop) (Q:List (V×V)->Hp->Prop),Wd A ι H M->EnvR A ι H σ ρ->Zu urs ρ M Qu ->
  (∀us M' ι' vs H',Le ι H ι' H'->Wd A ι' H' M'->Paired (fun(x:V×V) (y:U×U)=>RepU A ι' H' x.1 y.1/\RepU A ι' H' x.2 y.2) vs us->Qu us M'->Q vs H')->ZC trs σ H Q:=by
 induction h with
 |nil=>intro A ι σ H ρ M Qu Q w e q k; exact k [] M ι [] H (.refl _ _) w .nil q
 |cons h1 h2 h3 ih =>
  intro A ι σ H ρ M Qu Q w e q k
  refine h1 A ι σ H ρ M _ _ w e q fun x M1 ι1 v1 H1 l1 w1 r1 q1=>?_
  refine h2 A ι1 σ H1 ρ M1 _ _ w1 (e.le l1) q1 fun y M2 ι2 v2 H2 l2 w2 r2 q2=>?_
  refine ih A ι2 σ H2 ρ M2 _ _ w2 (e.le (l1.trans l2)) q2 fun us M3 ι3 vs H3 l3 w3 r3 q3=>?_
  exact k _ M3 ι3 _ H3 ((l1.trans l2).trans l3) w3 (.cons ⟨(r1.le l2).le l3,r2.le l3⟩ r3) q3
def uDisp (urs:List (UE×UE)):UE:=fun ρ M Q=>Zu urs ρ (M++[.dK []]) fun ps M2=>M2[M.length]?=some (.dK [])/\∃kvs:List (Key×U),ps=kvs.map (fun kv=>(keyU kv.1,kv.2))/\kvs.length<=15/\Q (.m M.length) (M2.set M.length (.dK (Vg [] kvs)))
theorem V6 {k:Key} (r:RepU A ι H v (keyU k)):v=kV k:=by
 cases k with
 |inl i=>cases r with|p r=>cases r; rfl
 |inr x=>cases r with|p r=>cases r; rfl
theorem KD:∀{kvs:List (Key×U)} {vs:List (V×V)},Paired (fun(x:V×V) (y:U×U)=>RepU A ι H x.1 y.1/\RepU A ι H x.2 y.2) vs (kvs.map fun kv=>(keyU kv.1,kv.2))->∃gs:List (Key×V),vs=gs.map (fun kv=>(kV kv.1,kv.2))/\KR A ι H gs kvs
 | [],_, .nil=>⟨[],rfl, .nil⟩
 |kv::kvs,(a,b)::_, .cons p q=>by
  obtain⟨gs,rfl,r⟩:=KD (kvs:=kvs) q
  refine⟨(kv.1,b)::gs, ?_, .cons ⟨rfl,p.2⟩ r⟩
  rw[List.map_cons]
  have:=V6 p.1
  simp only at this
  rw[this]
theorem le_disp {trs:List (TE×TE)} {urs:List (UE×UE)} (h:LPs trs urs):LE (tDisp trs) (uDisp urs):=by
 intro A ι σ H ρ M Qu Q w e q k p hp
 have w1:Wd A (ι++[p]) (upd H p (.dK [])) (M++[.dK []]):=w.push hp ⟨[],upd_same, .nil⟩
 have l1:Le ι H (ι++[p]) (upd H p (.dK [])):=.push hp
 refine lps_run h A _ σ _ ρ _ _ _ w1 (e.le l1) q fun us M2 ι2 vs H2 l2 w2 r2 q2=>?_
 obtain⟨hm,kvs,rfl,hl,q2⟩:=q2
 have ep:ι2[M.length]?=some p:=by
  obtain⟨nn,rfl,_⟩:=l2.ext
  rw[List.getElem?_append_left (by rw[List.length_append,w.len]; simp), <-w.len]
  exact xR
 obtain⟨gs0,h1,h2⟩:=w2.obj _ p _ ep hm
 cases h2
 obtain⟨gs,rfl,rk⟩:=KD r2
 have hmem:=List.mem_of_getElem? ep
 refine⟨h1,gs,rfl,by rw[rk.len]; exact hl,k _ _ ι2 _ _ ((l1.trans l2).trans (.put hmem)) (w2.put (mo:=.dK (Vg [] kvs)) ep ⟨_,upd_same, ?_⟩) (.m ep) q2⟩
 exact Paired.mapP (Kp rk .nil) fun _ _ q=>⟨q.1,q.2.le (.put hmem)⟩
def DGetS (M:MM) (x y:U) (Q:UK):Prop:=∃k kvs key w,x=.m k/\M[k]?=some (.dK kvs)/\y=keyU key/\valU kvs key=some w/\Q w M
def uDGet (ua ub:UE):UE:=fun ρ M Q=>ua ρ M fun x M1=>ub ρ M1 fun y M2=>DGetS M2 x y Q
theorem le_dget (ha:LE ta ua) (hb:LE tb ub):LE (tDGet ta tb) (uDGet ua ub):=fun A ι σ H ρ M Qu Q w e q k =>
 ha A ι σ H ρ M _ _ w e q fun x M1 ι1 v H1 l1 w1 r1 q1=>hb A ι1 σ H1 ρ M1 _ _ w1 (e.le l1) q1 fun y M2 ι2 v2 H2 l2 w2 r2 ⟨kk,kvs,key,z,ex,em,ey,ez,q2⟩=>by
  subst ex ey
  have r1':=r1.le l2
  cases r1' with
  |m ek =>
  obtain⟨gs,h1,h2⟩:=w2.obj kk _ _ ek em
  have hv:=Jb (k:=key) h2
  rw[ez] at hv
  obtain⟨x',hx,rx⟩:=hv
  refine⟨_,x',rfl, ?_,k z M2 ι2 x' H2 (l1.trans l2) w2 rx q2⟩
  have:=DGet.k (k:=key) h1
  rw[hx] at this
  rw[V6 r2]
  exact this
theorem rd_dget {Q:UK}:uDGet ua ub ρ M Q=ua ρ M fun x M1=>ub ρ M1 fun y M2=>DGetS M2 x y Q:=rfl
theorem Xf {k:Nat} {kvs:List (Key×U)} {x:Str} {w:U} {Q:UK} (h1:M[k]?=some (.dK kvs)) (h2:valU kvs (.inr x)=some w) (q:Q w M):DGetS M (.m k) (.p (.str x)) Q:=⟨k,kvs, .inr x,w,rfl,h1,rfl,h2,q⟩
def uIfC (c:UT) (t1 t2:T):UE:=fun ρ M Q=>c ρ M fun b M1=>Q (.p (if b=true then t1 else t2)) M1
theorem iteT_int {c:Prop} [Decidable c] {a b:Int}:(if c then T.int a else T.int b)=T.int (if c then a else b):=by split<;>rfl
theorem iteT_str {c:Prop} [Decidable c] {a b:Str}:(if c then T.str a else T.str b)=T.str (if c then a else b):=by split<;>rfl
def itV (x:U) (us:List U):UIt:=⟨us.length,fun M=>qV M x=some us,fun i z=>us[us.length-1-i]?=some z⟩
def RevS (us:List U) (M:MM) (R:UIt->MM->Prop):Prop:=∃x ys,us=[x]/\qV M x=some ys/\R (itV x ys) M
theorem rd_rev {R:UIt->MM->Prop}:uRev ul ρ M R=ul ρ M fun us M1=>RevS us M1 R:=rfl
theorem rd_revP {ts:List T} {R:UIt->MM->Prop}:RevS [.p (.lst ts)] M R=R (itV (.p (.lst ts)) (ts.map U.p)) M:=propext ⟨fun⟨_,_,e1,e2,h⟩=>by cases e1; cases e2; exact h,fun h=>⟨_,_,rfl,rfl,h⟩⟩
theorem rd_ch {s':T->T->(T->Prop)->Prop} {y:U} {b:Bool} {Q:UK}:ChS s' uc ρ M y Q (.bl b)=if b=true then uc ρ M fun c M3=>OpS s' M3 y c Q else Q (.p (.bl false)) M :=
 propext ⟨fun⟨k,e,h⟩=>by cases e; exact h,fun h=>⟨b,rfl,h⟩⟩
end
section
variable {ta:TE} {ua ub:UE} {ul:UA} {A:Addr->Prop} {H:Hp} {ι:List Addr} {M:MM} {v:V} {t:T} {σ:St} {ρ:UEnv} {K:PySem.W.Frag}
def KTu (K:PySem.W.Frag) (p:Addr) (vs:List V):Prop:=∀H,SqT K H p vs
theorem Tup3.kt {mg:Str->Option Value} {nm:Str} {p:Addr} {x y z:Str} (T3:Tup3 K mg nm p x y z):KTu K p [.str x, .str y, .str z]:=T3.sq
def uIxK (ts:List T) (ub:UE):UE:=fun ρ M Q=>ub ρ M fun y M1=>IntS y fun i=>∃t,atI ts i=some t/\Q (.p t) M1
def uInK (neg:Bool) (vs:List V) (ua:UE):UE:=fun ρ M Q=>ua ρ M fun x M1=>∃a,x=.p a/\∃y,vt a=some y/\Q (.p (.bl (if neg then !inV y vs else inV y vs))) M1
theorem le_inK {p:Addr} {vs:List V} {neg:Bool} (h:KTu K p vs) (hf:vs.all jb=true) (ha:LE ta ua):LE (tOp (rIn K neg) ta (tC (.ref p))) (uInK neg vs ua):=fun A ι σ H ρ M Qu Q w e q k =>
 ha A ι σ H ρ M _ _ w e q fun x M1 ι1 v1 H1 l1 w1 r1 ⟨a,ex,y,ey,q1⟩=>by
  subst ex
  cases r1 with
  |p r =>
  cases(RepV.of r).sc (y:=.non) ey
  exact⟨p,vs,rfl, .inr (h H1),(by cases QD ey<;>rfl),hf,k _ M1 ι1 _ H1 l1 w1 (.p (.bl _)) q1⟩
inductive TyC where
 |int|bool|str|list|tuple
def TyC.name:TyC->String
 |.int => "int" |.bool => "bool" |.str => "str" |.list => "list" |.tuple => "tuple"
def isT:T->TyC->Bool
 |.int _, .int=>true
 |.bl _, .int=>true
 |.bl _, .bool=>true
 |.str _, .str=>true
 |.lst _, .list=>true
 |.tup _, .tuple=>true
 |_,_=>false
def isU (M:MM):U->TyC->Option Bool
 |.p t,c=>some (isT t c)
 |.m k,c=>match M[k]? with
  |some (.lst _)=>some (isT (.lst []) c)
  |some (.tup _)=>some (isT (.tup []) c)
  |_=>none
 |.x _ _ _,_=>none
def uIsi (c:TyC) (ua:UE):UE:=fun ρ M Q=>ua ρ M fun x M1=>∃b,isU M1 x c=some b/\Q (.p (.bl b)) M1
def uIsi2 (c d:TyC) (ua:UE):UE:=fun ρ M Q=>ua ρ M fun x M1=>∃b,isU M1 x c=some b/\∃b',isU M1 x d=some b'/\Q (.p (.bl (b||b'))) M1
def sEqTu (neg:Bool):T->T->(T->Prop)->Prop:=fun a b Q=>∃xs ys,∃e:Nat->Bool,a=.tup xs/\b=.tup ys/\(∀(j:Nat) x y,xs[j]?=some x->ys[j]?=some y->EqT 20 x y (e j))/\Q (.bl (if neg then !((List.range (min xs.length ys.length)).all e&&xs.length==ys.length) else((List.range (min xs.length ys.length)).all e&&xs.length==ys.length)))
def uDNew:UE:=fun _ M Q=>Q (.m M.length) (M++[.dK []])
def DInS (neg:Bool) (M:MM) (y x:U) (Q:UK):Prop:=∃k kvs key,x=.m k/\M[k]?=some (.dK kvs)/\y=keyU key/\Q (.p (.bl (if neg then !(valU kvs key).isSome else(valU kvs key).isSome))) M
def uDIn (neg:Bool) (ua ub:UE):UE:=fun ρ M Q=>ua ρ M fun y M1=>ub ρ M1 fun x M2=>DInS neg M2 y x Q
def DPutS (M:MM) (x y v:U) (R:MM->Prop):Prop:=∃k kvs key,x=.m k/\M[k]?=some (.dK kvs)/\y=keyU key/\kvs.length<sizeLine/\R (M.set k (.dK (putU kvs key v)))
def uDPut (ud uy uv:UE):US:=fun E ρ M=>uv ρ M fun v M1=>ud ρ M1 fun x M2=>uy ρ M2 fun y M3=>DPutS M3 x y v fun M4=>E.nx ρ M4
theorem rd_din {neg:Bool} {Q:UK}:uDIn neg ua ub ρ M Q=ua ρ M fun y M1=>ub ρ M1 fun x M2=>DInS neg M2 y x Q:=rfl
theorem rd_dput {ud uy uv:UE} {E:UEnds}:uDPut ud uy uv E ρ M=uv ρ M fun v M1=>ud ρ M1 fun x M2=>uy ρ M2 fun y M3=>DPutS M3 x y v fun M4=>E.nx ρ M4:=rfl
def IdxS (us:List U) (xs:List Str) (M:MM) (Q:UK):Prop:=∃(t:Str) (j:Nat),us=[.p (.str t)]/\xs[j]?=some t/\(∀m,m<j->xs[m]?≠some t)/\Q (.p (.int j)) M
def uIdxK (xs:List Str) (ul:UA):UE:=fun ρ M Q=>ul ρ M fun us M1=>IdxS us xs M1 Q
theorem rd_idxK {xs:List Str} {Q:UK}:uIdxK xs ul ρ M Q=ul ρ M fun us M1=>IdxS us xs M1 Q:=rfl
end
section
variable {ul:UA} {n:Nat} {M:MM} {u:U} {ρ:UEnv}
def LRng2S (us:List U) (M:MM) (Q:UK):Prop:=∃(i j:Int) (n:Nat),us=[.p (.int i), .p (.int j)] /\ -(2^62)<=i/\j<2^62/\j=i+n/\n<=1000000/\Q (.p (.lst ((List.range n).map fun k:Nat=>T.int (i+k)))) M
def uLRng2 (ul:UA):UE:=fun ρ M Q=>ul ρ M fun us M1=>LRng2S us M1 Q
theorem rd_lrng2 {Q:UK}:uLRng2 ul ρ M Q=ul ρ M fun us M1=>LRng2S us M1 Q:=rfl
theorem K3 {neg:Bool} {ns ms:List Bool} {Q:T->Prop} (q:Q (.bl (if neg then !decide (ns=ms) else decide (ns=ms)))):sEqL neg (.lst (ns.map T.bl)) (.lst (ms.map T.bl)) Q:=by
 refine⟨_,_,rfl,rfl, ?_⟩
 simp only[List.length_map]
 by_cases hl:ns.length=ms.length
 ·refine .inr ⟨hl,fun j=>ns[j]?==ms[j]?,fun j x y hx hy=>?_,by rw[Yu hl]; exact q⟩
  rw[List.getElem?_map] at hx hy
  cases e1:ns[j]? with
  |none=>rw[e1] at hx; cases hx
  |some i =>
   cases e2:ms[j]? with
   |none=>rw[e2] at hy; cases hy
   |some k =>
    rw[e1] at hx; rw[e2] at hy
    cases hx; cases hy
    have:=EqT.flat (n:=20) (a:=.bl i) (b:=.bl k) rfl rfl
    have e3:eqV (.bl i) (.bl k)=(ns[j]?==ms[j]?):=by rw[e1,e2]; cases i<;>cases k<;>rfl
    rw[e3] at this
    exact this
 ·refine .inl ⟨hl, ?_⟩
  have:decide (ns=ms)=false:=decide_eq_false fun z=>hl (by rw[z])
  rw[this] at q
  cases neg<;>simpa using q
theorem gdIx {it:MM->U->Option (List U)} {x y:U} {Q:UK} (h:IxS it M x y Q):IxS it M x y Q:=h
theorem gdT2 {u:U} {R:U->U->Prop} (h:T2S M u R):T2S M u R:=h
theorem gdT3 {u:U} {R:U->U->U->Prop} (h:T3S M u R):T3S M u R:=h
theorem gdMe {s:List U->List U->(U->List U->Prop)->Prop} {o:U} {Q:UK} (h:MeS s ul ρ M o Q):MeS s ul ρ M o Q:=h
theorem gdLen {it:MM->U->Option (List U)} {us:List U} {Q:UK} (h:LenS it M us Q):LenS it M us Q:=h
end
section
variable {ua ub uv:UE} {ul:UA} {M:MM} {v:V} {u:U} {ρ:UEnv} {K:PySem.W.Frag} {f m:Str} {C:Addr}
def putFU (f:Str) (v:U):List (Str×U)->List (Str×U)
 | []=>[(f,v)]
 | (g,x)::r=>if g=f then(g,v)::r else(g,x)::putFU f v r
def FldS (K:PySem.W.Frag) (f:Str) (x:U) (M:MM) (Q:UK):Prop:=∃k C fs u,x=.m k/\M[k]?=some (.ins C fs)/\Cls K C/\NoAttr K C f/\fs.lookup f=some u/\Q u M
def uFld (K:PySem.W.Frag) (ua:UE) (f:Str):UE:=fun ρ M Q=>ua ρ M fun x M1=>FldS K f x M1 Q
def Yy (K:PySem.W.Frag) (f:Str) (x y:U) (M:MM) (R:MM->Prop):Prop:=∃k C fs,x=.m k/\M[k]?=some (.ins C fs)/\Cls K C/\NoAttr K C f/\fs.length<1000/\R (M.set k (.ins C (putFU f y fs)))
def uFldPut (K:PySem.W.Frag) (ua uv:UE) (f:Str):US:=fun E ρ M=>uv ρ M fun y M1=>ua ρ M1 fun x M2=>Yy K f x y M2 fun M3=>E.nx ρ M3
def MethS (C:Addr) (m:Str) (x:U) (M:MM) (R:Prop):Prop:=∃k fs,x=.m k/\M[k]?=some (.ins C fs)/\fs.lookup m=none/\R
def uMeth (C:Addr) (m:Str) (G:List U->MM->UK->Prop) (ua:UE) (ul:UA):UE:=fun ρ M Q=>ua ρ M fun x M1=>MethS C m x M1 (ul ρ M1 fun us M2=>G (x::us) M2 Q)
def uMake (C:Addr) (G:List U->MM->UK->Prop) (ul:UA):UE:=fun ρ M Q=>ul ρ M fun us M1=>G (.m M1.length::us) (M1++[.ins C []]) fun v M2=>v=.p .non/\Q (.m M1.length) M2
def RepNS (M:MM) (x y:U) (Q:UK):Prop:=∃xs k,x=.p (.lst xs)/\y=.p (.int k) /\ -(2^63)<=k/\k<2^63/\xs.length*k.toNat<=sizeLine/\Q (.m M.length) (M++[.lst ((List.replicate k.toNat xs).flatten.map U.p)])
def uRepNew (ua ub:UE):UE:=fun ρ M Q=>ua ρ M fun x M1=>ub ρ M1 fun y M2=>RepNS M2 x y Q
def SubS (M:MM) (o i u:U) (R:MM->Prop):Prop:=∃k us z j,o=.m k/\M[k]?=some (.lst us)/\i=.p (.int z)/\ixN us.length z=some j/\R (M.set k (.lst (us.set j u)))
theorem rd_sub {Q:UEnv->MM->Prop}:uSub ua ub u ρ M Q=ua ρ M fun o M1=>ub ρ M1 fun i M2=>SubS M2 o i u fun M3=>Q ρ M3:=rfl
def uName4 (i j k l:Nat):UG:=fun u ρ M Q=>∃a b c d,vi M u=some [a,b,c,d]/\Q ((((ρ.set i (some a)).set j (some b)).set k (some c)).set l (some d)) M
def T4S (M:MM) (u:U) (R:U->U->U->U->Prop):Prop:=∃a b c d,vi M u=some [a,b,c,d]/\R a b c d
theorem rd_name4 {i j k l:Nat} {R:UEnv->MM->Prop}:uName4 i j k l u ρ M R=T4S M u fun a b c d=>R ((((ρ.set i (some a)).set j (some b)).set k (some c)).set l (some d)) M:=rfl
theorem rd_t4 {a b c d:T} {R:U->U->U->U->Prop}:T4S M (.p (.tup [a,b,c,d])) R=R (.p a) (.p b) (.p c) (.p d):=propext ⟨fun⟨_,_,_,_,e,h⟩=>by cases e; exact h,fun h=>⟨_,_,_,_,rfl,h⟩⟩
def P2S (us:List U) (R:U->U->Prop):Prop:=∃a b,us=[a,b]/\R a b
def P3S (us:List U) (R:U->U->U->Prop):Prop:=∃a b c,us=[a,b,c]/\R a b c
def uPar (i j:Nat) (ul:UA):US:=fun E ρ M=>ul ρ M fun us M1=>P2S us fun a b=>E.nx ((ρ.set i (some a)).set j (some b)) M1
def uPar3 (i j k:Nat) (ul:UA):US:=fun E ρ M=>ul ρ M fun us M1=>P3S us fun a b c=>E.nx (((ρ.set i (some a)).set j (some b)).set k (some c)) M1
theorem rd_par {i j:Nat} {E:UEnds}:uPar i j ul E ρ M=ul ρ M fun us M1=>P2S us fun a b=>E.nx ((ρ.set i (some a)).set j (some b)) M1:=rfl
theorem rd_par3 {i j k:Nat} {E:UEnds}:uPar3 i j k ul E ρ M=ul ρ M fun us M1=>P3S us fun a b c=>E.nx (((ρ.set i (some a)).set j (some b)).set k (some c)) M1:=rfl
theorem rd_p2 {a b:U} {R:U->U->Prop}:P2S [a,b] R=R a b:=propext ⟨fun⟨_,_,e,h⟩=>by cases e; exact h,fun h=>⟨a,b,rfl,h⟩⟩
theorem rd_p3 {a b c:U} {R:U->U->U->Prop}:P3S [a,b,c] R=R a b c:=propext ⟨fun⟨_,_,_,e,h⟩=>by cases e; exact h,fun h=>⟨a,b,c,rfl,h⟩⟩
theorem rd_fld {Q:UK}:uFld K ua f ρ M Q=ua ρ M fun x M1=>FldS K f x M1 Q:=rfl
theorem JJ {E:UEnds}:uFldPut K ua uv f E ρ M=uv ρ M fun y M1=>ua ρ M1 fun x M2=>Yy K f x y M2 fun M3=>E.nx ρ M3:=rfl
theorem rd_meth {G:List U->MM->UK->Prop} {Q:UK}:uMeth C m G ua ul ρ M Q=ua ρ M fun x M1=>MethS C m x M1 (ul ρ M1 fun us M2=>G (x::us) M2 Q):=rfl
theorem rd_make {G:List U->MM->UK->Prop} {Q:UK}:uMake C G ul ρ M Q=ul ρ M fun us M1=>G (.m M1.length::us) (M1++[.ins C []]) fun v M2=>v=.p .non/\Q (.m M1.length) M2:=rfl
theorem JG {Q:UK}:uRepNew ua ub ρ M Q=ua ρ M fun x M1=>ub ρ M1 fun y M2=>RepNS M2 x y Q:=rfl
end
section
variable {P:Program} {w:World} {K:PySem.W.Frag} {mg:Str->Option Value} {base:Heap}
def gNo:List U->MM->UK->Prop:=fun _ _ _=>False
theorem FnOk.no {k:Nat} {f:Addr} {fd:FuncData} {ps:List Str}:FnOk P w K mg base CX0 k f fd ps (spU gNo) :=
 ⟨fun vs H Q E ⟨_,_,_,_,_,_,_,h,_⟩=>h.elim,fun _ _ _ _ _ _ _ _ _ _ _ _ _ ⟨_,_,_,_,_,_,_,h,_⟩=>h.elim⟩
end
structure ZE (a:TE) (b:UE):Prop where
 h:LE a b
structure ZT (a:TT) (b:UT):Prop where
 h:LT a b
structure ZA (n:Nat) (a:TA) (b:UA):Prop where
 h:LA n a b
structure ZO (a:TO) (b:UO):Prop where
 h:LO a b
structure ZI (a:TI) (b:UI):Prop where
 h:LI a b
structure ZG (a:TG) (b:UG):Prop where
 h:LG a b
structure ZX (bs:List Bool) (n:Nat) (a:TG) (b:UG):Prop where
 h:LGx bs n a b
structure ZS (a:TS) (b:US):Prop where
 h:LS a b
structure ZP (a:List (TE×TE)) (b:List (UE×UE)):Prop where
 h:LPs a b
theorem cp_nil:ZP [] []:=⟨.nil⟩
theorem Zi {tk tv:TE} {uk uv:UE} {ts:List (TE×TE)} {us:List (UE×UE)} (a:ZE tk uk) (b:ZE tv uv) (c:ZP ts us):ZP ((tk,tv)::ts) ((uk,uv)::us):=⟨.cons a.h b.h c.h⟩
theorem ce_disp {trs:List (TE×TE)} {urs:List (UE×UE)} (h:ZP trs urs):ZE (tDisp trs) (uDisp urs):=⟨le_disp h.h⟩
section
theorem qb (i:Nat):ZE (tVar i) (uVar i):=⟨le_var i⟩
end
section
theorem ce_c {v:V} {t:T} (h:Sc v t):ZE (tC v) (uC t):=⟨le_c h⟩
end
section
theorem qf  : ZA 0 tNil uNil:=⟨la_nil ⟩
end
section
variable {ta:TE} {ua:UE} {tl:TA} {ul:UA} {n:Nat}
theorem qa (ha:ZE ta ua) (hl:ZA n tl ul):ZA (n+1) (zr ta tl) (uCons ua ul):=⟨la_cons ha.h hl.h⟩
end
section
variable {ta tb:TE} {ua ub:UE}
theorem qm {r:R2} {s:T->T->(T->Prop)->Prop} (h:OpL r s) (ha:ZE ta ua) (hb:ZE tb ub):ZE (tOp r ta tb) (uOp s ua ub):=⟨le_op h ha.h hb.h⟩
end
section
variable {ta:TE} {ua:UE}
variable {H:Hp}
theorem Yl (ha:ZE ta ua):ZE (tOp (fun x y H Q=>y=.non/\Q (.bl (decide (x=.non))) H) ta (tC .non)) (uIsN false ua):=⟨le_isN ha.h⟩
end
section
variable {ta:TE} {ua:UE}
theorem ct_b (ha:ZE ta ua):ZT (tB ta) (uB ua):=⟨lt_b ha.h⟩
end
section
variable {ta:TE} {ua:UE}
theorem qy (ha:ZE ta ua):ZT (jn ta) (uB ua):=⟨lt_test ha.h⟩
end
section
variable {tt tt':TT} {ut ut':UT}
theorem Yd (ha:ZT tt ut) (hb:ZT tt' ut'):ZT (tAnd tt tt') (uAnd ut ut'):=⟨lt_and ha.h hb.h⟩
end
section
variable {tt tt':TT} {ut ut':UT}
theorem X4 (ha:ZT tt ut) (hb:ZT tt' ut'):ZT (tOr tt tt') (uOr ut ut'):=⟨lt_or ha.h hb.h⟩
end
section
variable {tt:TT} {ut:UT}
theorem j4 (ha:ZT tt ut):ZT (tNot tt) (uNot ut):=⟨lt_not ha.h⟩
end
section
variable {ta tb:TE} {ua ub:UE}
theorem Zk (ha:ZE ta ua) (hb:ZE tb ub):ZE (QU ta tb) (uAndV ua ub):=⟨le_andV ha.h hb.h⟩
end
section
variable {ta tb:TE} {ua ub:UE} {tt:TT} {ut:UT}
theorem ce_if (hc:ZT tt ut) (ha:ZE ta ua) (hb:ZE tb ub):ZE (tIf tt ta tb) (uIf ut ua ub):=⟨le_if hc.h ha.h hb.h⟩
end
section
variable {ta tb tc:TE} {ua ub uc:UE}
theorem Qy {r r':R2} {s s':T->T->(T->Prop)->Prop} (h:OpL r s) (h':OpL r' s') (ha:ZE ta ua) (hb:ZE tb ub) (hc:ZE tc uc):ZE (jh r r' ta tb tc) (Zx s s' ua ub uc):=⟨le_chain h h' ha.h hb.h hc.h⟩
end
section
variable {tl:TA} {ul:UA} {n:Nat}
theorem ce_tup (ha:ZA n tl ul) (hn:n<=1000:=by decide):ZE (tTup tl) (uTup ul):=⟨le_tup ha.h hn⟩
end
section
variable {tl:TA} {ul:UA} {n:Nat}
theorem vx (ha:ZA n tl ul) (hn:n<=1000:=by decide):ZE (tLst tl) (uLst ul):=⟨le_lst ha.h hn⟩
end
section
variable {tl:TA} {ul:UA} {n:Nat}
theorem ce_new (ha:ZA n tl ul) (hn:n<=1000:=by decide):ZE (tLst tl) (uNew ul):=⟨le_new ha.h hn⟩
end
section
variable {ta tb:TE} {ua ub:UE}
theorem vJ {K:PySem.W.Frag} (ha:ZE ta ua) (hb:ZE tb ub):ZE (tOp (rIxL K) ta tb) (uIx qV ua ub):=⟨le_ixL ha.h hb.h⟩
end
section
variable {tl:TA} {ul:UA} {n:Nat}
theorem xG {r:List V->Hp->VK->Prop} {s:List T->(T->Prop)->Prop} (h:CbL r s) (ha:ZA n tl ul):ZE (tCB r tl) (uCb s ul):=⟨le_cb h ha.h⟩
end
section
variable {tl:TA} {ul:UA} {n:Nat}
theorem kC (ha:ZA n tl ul):ZE (tCB rLenL tl) (uLen qV ul):=⟨le_len ha.h⟩
end
section
theorem vb  : ZO zB VI:=⟨lo_none ⟩
end
section
variable {ta:TE} {ua:UE}
theorem va (ha:ZE ta ua):ZO (QQ ta) (uPart ua):=⟨lo_some ha.h⟩
end
section
variable {ta:TE} {ua:UE}
theorem j6 {K:PySem.W.Frag} {t1 t2:TO} {u1 u2:UO} (ha:ZE ta ua) (h1:ZO t1 u1) (h2:ZO t2 u2):ZE (tSl (rSlL K) ta t1 t2) (uSl ua u1 u2):=⟨le_sl ha.h h1.h h2.h⟩
end
section
variable {ta:TE} {ua:UE} {K:PySem.W.Frag}
theorem Qx (ha:ZE ta ua):ZI (X0 K ta) (uIter ua):=⟨li_list ha.h⟩
end
section
variable {ta:TE} {ua:UE} {K:PySem.W.Frag}
theorem ci_tup (ha:ZE ta ua):ZI (iTup K ta) (Jj ua):=⟨li_tup ha.h⟩
end
section
variable {tl:TA} {ul:UA} {n:Nat}
theorem Qw (ha:ZA n tl ul):ZI (KQ tl) (uRng1 ul):=⟨li_rng1 ha.h⟩
end
section
theorem qp (i:Nat):ZG (qZ i) (Jh i):=⟨lg_name i⟩
end
section
variable {K:PySem.W.Frag}
theorem cg_name2 (i j:Nat):ZG (gTup K 2 (zn (qZ i) (zn (qZ j) gNil))) (QK i j):=⟨lg_name2 i j⟩
end
section
variable {ta tb:TE} {ua ub:UE}
theorem cg_sub (ha:ZE ta ua) (hb:ZE tb ub):ZG (gSub ta tb rSetL) (uSub ua ub):=⟨lg_sub ha.h hb.h⟩
end
section
variable {n:Nat}
theorem vq {bs:List Bool} (i:Nat) (h:jg bs n i=true:=by rfl):ZX bs n (qZ i) (Jh i):=⟨lgx_name i h⟩
end
section
variable {n:Nat} {K:PySem.W.Frag}
theorem Yi {bs:List Bool} (i j:Nat) (h:jg bs n i=true:=by rfl) (h2:jg bs n j=true:=by rfl):ZX bs n (gTup K 2 (zn (qZ i) (zn (qZ j) gNil))) (QK i j):=⟨Kw i j h h2⟩
end
section
variable {M:MM}
theorem xz  : ZT tYes (fun _ M Q=>Q true M):=⟨lt_yes ⟩
end
section
variable {te:TE} {ue:UE} {tt:TT} {ut:UT} {n:Nat}
theorem zx {wi:TI} {ui:UI} {bs:List Bool} {g:TG} {ug:UG} (hi:ZI wi ui) (hg:ZX bs n g ug) (ht:ZT tt ut) (he:ZE te ue):ZE (xu wi bs n g tt te) (kL ui bs n ug ut ue):=⟨le_comp hi.h hg.h ht.h he.h⟩
end
section
theorem qJ  : ZS kM uNext:=⟨ls_next ⟩
end
section
variable {ts ts':TS} {us us':US}
theorem ql (ha:ZS ts us) (hb:ZS ts' us'):ZS (tSeq ts ts') (uSeq us us'):=⟨ls_seq ha.h hb.h⟩
end
section
variable {ta:TE} {ua:UE}
theorem Yg (ha:ZE ta ua):ZS (QR ta) (uDrop ua):=⟨ls_drop ha.h⟩
end
section
variable {ta:TE} {ua:UE}
theorem qN (ha:ZE ta ua):ZS (tRet ta) (uRet ua):=⟨ls_ret ha.h⟩
end
section
variable {tt:TT} {ut:UT}
variable {ts ts':TS} {us us':US}
theorem vI (hc:ZT tt ut) (ha:ZS ts us) (hb:ZS ts' us'):ZS (tIfS tt ts ts') (uIfS ut us us'):=⟨ls_if hc.h ha.h hb.h⟩
end
section
variable {ta:TE} {ua:UE}
theorem qA {g:TG} {ug:UG} (ha:ZE ta ua) (hg:ZG g ug):ZS (tAsg ta g) (uAsg ua ug):=⟨ls_asg ha.h hg.h⟩
end
section
variable {ts:TS} {us:US}
theorem Ye {wi:TI} {ui:UI} {g:TG} {ug:UG} (hi:ZI wi ui) (hg:ZG g ug) (hb:ZS ts us):ZS (tFor wi g ts) (uFor ui ug us):=⟨ls_for hi.h hg.h hb.h⟩
end
section
variable {ta:TE} {ua:UE} {tl:TA} {ul:UA} {n:Nat}
theorem ce_me {r:V->List V->Hp->VK->Prop} {s:List U->List U->(U->List U->Prop)->Prop} (h:MeL r s) (ha:ZE ta ua) (hl:ZA n tl ul):ZE (tLM r ta tl) (uMe s ua ul):=⟨le_me h ha.h hl.h⟩
end
section
variable {tl:TA} {ul:UA} {n:Nat}
theorem qj {G:List U->MM->UK->Prop} {E:XK} (ha:ZA n tl ul):ZE (xw (spU G) [] E tl) (uCall G ul):=⟨le_callU ha.h⟩
end
section
variable {tl:TA} {ul:UA} {n:Nat}
theorem vO {G:List T->(T->Prop)->Prop} {E:XK} (ha:ZA n tl ul):ZE (xw (spP G) [] E tl) (Jl G ul):=⟨le_callP ha.h⟩
end
section
variable {ta tb:TE} {ua ub:UE}
theorem Ym (ha:ZE ta ua) (hb:ZE tb ub):ZE (tDGet ta tb) (uDGet ua ub):=⟨le_dget ha.h hb.h⟩
end
section
variable {ta:TE} {ua:UE} {K:PySem.W.Frag}
theorem ce_inK {p:Addr} {vs:List V} {neg:Bool} (h:KTu K p vs) (hf:vs.all jb=true) (ha:ZE ta ua):ZE (tOp (rIn K neg) ta (tC (.ref p))) (uInK neg vs ua):=⟨le_inK h hf ha.h⟩
end
section
variable {P:Program} {w:World} {K:PySem.W.Frag} {mg:Str->Option Value} {base:Heap}
theorem Fun.okQ {x qual:Str} {st:Stmt} {f:Addr} {fd:FuncData} {N ps:List Str} {k:Nat} {sp:Sp} (F:Fun K x qual st f fd) (S:FnScope N ps (qc st)) (len:∀vs H Q E,sp vs H Q E->vs.length=ps.length)
  (hbody:∀(cdv:Value) (A:Around) (outer:List Env) (s:Shared) (H:Hp) (vs:List V) (Q:VK) (E:XK),Room k (A.deeper (envOfC qual (qc st) s.heap.objs.size f cdv))->sp vs H Q E ->
   ∃t,QSs (cxOf CX0 P w K mg base N qual (qc st) f cdv A outer s H E).nox (qh st) t/\t { nx:=fun _ H'=>Q .non H',rt:=Q } (start N vs) H):FnOk P w K mg base CX0 (k+1) f fd ps sp :=
 F.ok S len fun cdv A outer s H vs Q E hr hsp=>by
  obtain⟨t,h,q⟩:=hbody cdv A outer s H vs Q E hr hsp
  exact⟨t,h.h,q⟩
theorem Fun.zU {x qual:Str} {st:Stmt} {f:Addr} {fd:FuncData} {N ps:List Str} {k:Nat} {G:List U->MM->UK->Prop} (F:Fun K x qual st f fd) (S:FnScope N ps (qc st)) (len:∀us M Qu,G us M Qu->us.length=ps.length)
  (hbody:∀(cdv:Value) (A:Around) (outer:List Env) (s:Shared) (H:Hp) (E:XK),Room k (A.deeper (envOfC qual (qc st) s.heap.objs.size f cdv)) ->
   ∃t,QSs (cxOf CX0 P w K mg base N qual (qc st) f cdv A outer s H E).nox (qh st) t/\∃u,ZS t u/\∀us M Qu,G us M Qu->u { nx:=fun _ M'=>Qu (.p .non) M',rt:=Qu } (zD N us) M):FnOk P w K mg base CX0 (k+1) f fd ps (spU G) :=
 F.okU S len fun cdv A outer s H E hr=>by
  obtain⟨t,h,u,hu,q⟩:=hbody cdv A outer s H E hr
  exact⟨t,h.h,u,hu.h,q⟩
theorem Fun.zV {x qual:Str} {st:Stmt} {f:Addr} {fd:FuncData} {N ps:List Str} {k:Nat} {G:List U->MM->UK->Prop} (F:Fun K x qual st f fd) (S:FnScope N ps (qc st)) (len:∀us M Qu,G us M Qu->us.length=ps.length)
  (hbody:∀(cdv:Value) (A:Around) (outer:List Env) (s:Shared) (H:Hp) (E:XK),Room k (A.deeper (envOfC qual (qc st) s.heap.objs.size f cdv)) ->
   ∃t,QSs (cxOf CX0 P w K mg base N qual (qc st) f cdv A outer s H E).nox (qh st) t/\∃u,ZS t u/\∀us M M1 Qu,M1=M->G us M Qu->u { nx:=fun _ M'=>zh M M'/\Qu (.p .non) (M'.take M.length),rt:=fun z M'=>zh M M'/\∃t,frzB M.length 4 M' z=some t/\Qu (.p t) (M'.take M.length) } (zD N us) M1):FnOk P w K mg base CX0 (k+1) f fd ps (spU G) :=
 F.okV S len fun cdv A outer s H E hr=>by
  obtain⟨t,h,u,hu,q⟩:=hbody cdv A outer s H E hr
  exact⟨t,h.h,u,hu.h,fun us M Qu g=>q us M M Qu rfl g⟩
theorem Fun.zP {x qual:Str} {st:Stmt} {f:Addr} {fd:FuncData} {N ps:List Str} {k:Nat} {G:List T->(T->Prop)->Prop} (F:Fun K x qual st f fd) (S:FnScope N ps (qc st)) (len:∀ts Qt,G ts Qt->ts.length=ps.length)
  (hbody:∀(cdv:Value) (A:Around) (outer:List Env) (s:Shared) (H:Hp) (E:XK),Room k (A.deeper (envOfC qual (qc st) s.heap.objs.size f cdv)) ->
   ∃t,QSs (cxOf CX0 P w K mg base N qual (qc st) f cdv A outer s H E).nox (qh st) t/\∃u,ZS t u/\∀ts Qt,G ts Qt->u { nx:=fun _ _=>Qt .non,rt:=fun z M'=>∃t,frzN 4 M' z=some t/\Qt t } (zD N (ts.map U.p)) []):FnOk P w K mg base CX0 (k+1) f fd ps (spP G) :=
 F.okP S len fun cdv A outer s H E hr=>by
  obtain⟨t,h,u,hu,q⟩:=hbody cdv A outer s H E hr
  exact⟨t,h.h,u,hu.h,q⟩
end
abbrev UX:=Str->Option Int->MM->Prop
def pT:Option Int->T
 |none=>.non
 |some n=>.int n
theorem pT_rep {A:Addr->Prop} {H:Hp}:∀p:Option Int,RepT A H (pV p) (pT p)
 |none=>.non
 |some _=>.int _
theorem J3 {A:Addr->Prop} {H:Hp} {v:V}:∀{p:Option Int},RepT A H v (pT p)->v=pV p
 |none,r=>by cases r; rfl
 |some _,r=>by cases r; rfl
abbrev UXe:=UEnv->MM->UK->UX->Prop
def spX (mg:Str->Option Value) (G:List U->MM->UK->UX->Prop):Sp:=fun vs H Q E=>∃A ι M us Qu Xu,Wd A ι H M/\RepUs A ι H vs us/\G us M Qu Xu /\
 (∀u M' ι' v H',Le ι H ι' H'->Wd A ι' H' M'->RepU A ι' H' v u->Qu u M'->Q v H')/\∀nm p C d M' ι' H',mg nm=some C->PartIs d H' p->Le ι H ι' H'->Wd A ι' H' M'->Xu nm p M'->E C d H'
structure ZXe (mg:Str->Option Value) (tx:TX) (ux:UXe):Prop where
 h:∀(A:Addr->Prop) (ι:List Addr) (σ:St) (H:Hp) (ρ:UEnv) (M:MM) (Qu:UK) (Xu:UX) (Q:VK) (E:XK),Wd A ι H M->EnvR A ι H σ ρ->ux ρ M Qu Xu ->
  (∀u M' ι' v H',Le ι H ι' H'->Wd A ι' H' M'->RepU A ι' H' v u->Qu u M'->Q v H')->(∀nm p C d M' ι' H',mg nm=some C->PartIs d H' p->Le ι H ι' H'->Wd A ι' H' M'->Xu nm p M'->E C d H')->tx σ H Q E
section
variable {mg:Str->Option Value} {tx:TX} {ux:UXe} {ua:UE} {tl:TA} {ul:UA} {n:Nat} {tb:TS} {us ub:US} {C:Addr} {m:Str}
def ze (G:List U->MM->UK->UX->Prop) (ul:UA):UXe:=fun ρ M Q X=>ul ρ M fun us M1=>G us M1 Q X
theorem jd {G:List U->MM->UK->UX->Prop} (ha:ZA n tl ul):ZXe mg (tCallX (spX mg G) tl) (ze G ul):=⟨fun A ι σ H ρ M Qu Xu Q E w e q k kx =>
 ha.h A ι σ H ρ M _ _ w e q fun us M1 ι1 vs H1 l1 w1 hn r1 q1 =>
  ⟨A,ι1,M1,us,_,_,w1,r1,q1,fun u M2 ι2 v H2 l2 w2 r2 q2=>k u M2 ι2 v H2 (l1.trans l2) w2 r2 q2,fun nm p C d M2 ι2 H2 hm hp l2 w2 q2=>kx nm p C d M2 ι2 H2 hm hp (l1.trans l2) w2 q2⟩⟩
def je (C:Addr) (m:Str) (G:List U->MM->UK->UX->Prop) (ua:UE) (ul:UA):UXe:=fun ρ M Q X=>ua ρ M fun x M1=>MethS C m x M1 (ul ρ M1 fun us M2=>G (x::us) M2 Q X)
def tagU (nm:Str) (p:Option Int) (ρ:UEnv):UEnv:=some (.p (.str nm))::some (.p (pT p))::ρ
theorem VJ {A:Addr->Prop} {ι:List Addr} {H:Hp} {σ:St} {ρ:UEnv} {nm:Str} {p:Option Int} (e:EnvR A ι H σ ρ):EnvR A ι H (some (.str nm)::some (pV p)::σ) (tagU nm p ρ):=.cons (fun u q=>by cases q; exact⟨_,rfl, .p (.str _)⟩) (.cons (fun u q=>by cases q; exact⟨_,rfl, .p (pT_rep p)⟩) e)
def jf (ux:UXe):US:=fun E ρ M=>ux ρ M (fun _ M1=>E.nx ρ M1) fun nm p M1=>E.bk (tagU nm p ρ) M1
def xI (ux:UXe):US:=fun E ρ M=>ux ρ M E.rt fun nm p M1=>E.bk (tagU nm p ρ) M1
theorem Qv (h:ZXe mg tx ux):ZS (tRetX tx mg) (xI ux):=⟨fun A ι σ H ρ M D E w e r q =>
 h.h A ι σ H ρ M _ _ _ _ w e q (fun x M1 ι1 v H1 l1 w1 r1 q1=>r.rt ι1 v H1 x M1 l1 w1 r1 q1) fun nm p C d M1 ι1 H1 hm hp l1 w1 q1=>⟨nm,p,hm,hp,r.bk ι1 _ H1 _ M1 l1 w1 (VJ (e.le l1)) q1⟩⟩
def kK (i:Nat) (ux:UXe):US:=fun E ρ M=>ux ρ M (fun x M1=>E.nx (ρ.set i (some x)) M1) fun nm p M1=>E.bk (tagU nm p ρ) M1
theorem cs_setX {i:Nat} (h:ZXe mg tx ux):ZS (tSetX i tx mg) (kK i ux):=⟨fun A ι σ H ρ M D E w e r q =>
 h.h A ι σ H ρ M _ _ _ _ w e q (fun x M1 ι1 v H1 l1 w1 r1 q1=>r.nx ι1 _ H1 _ M1 l1 w1 ((e.le l1).put i r1) q1) fun nm p C d M1 ι1 H1 hm hp l1 w1 q1=>⟨nm,p,hm,hp,r.bk ι1 _ H1 _ M1 l1 w1 (VJ (e.le l1)) q1⟩⟩
def xJ (x:Str) (ul:UA):US:=fun E ρ M=>ul ρ M fun us M1=>us.length<=sizeLine/\E.bk (tagU x none ρ) M1
theorem jH {x:Str} (h:ZA n tl ul):ZS (tRaise x tl) (xJ x ul):=⟨fun A ι σ H ρ M D E w e r q =>
 h.h A ι σ H ρ M _ _ w e q fun us M1 ι1 vs H1 l1 w1 hn r1 ⟨hl,q1⟩=>⟨by rw[r1.len]; exact hl,r.bk ι1 _ H1 _ M1 l1 w1 (VJ (p:=none) (e.le l1)) q1⟩⟩
def zA (x:Str) (ul:UA):US:=fun E ρ M=>ul ρ M fun us M1=>∃k,us=[.p (.int k)]/\smallI k/\E.bk (tagU x (some k) ρ) M1
def uTry (n:Nat) (ub:US) (l:List (Str×(Option Int->US))):US:=fun E ρ M=>ub { E with bk:=fun τ M'=>∃nm p ρ' u,τ=tagU nm p ρ'/\ρ'.length=n/\l.lookup nm=some u/\u p E ρ' M' } ρ M
structure ZHs (l:List (Str×(Option Int->TS))) (l':List (Str×(Option Int->US))):Prop where
 h:∀nm u,l'.lookup nm=some u->∃t,l.lookup nm=some t/\∀p,LS (t p) (u p)
theorem zh_nil:ZHs [] []:=⟨fun nm u e=>by simp at e⟩
theorem zh_cons {x:Str} {t:Option Int->TS} {u:Option Int->US} {l:List (Str×(Option Int->TS))} {l':List (Str×(Option Int->US))} (h:∀p,ZS (t p) (u p)) (hr:ZHs l l'):ZHs ((x,t)::l) ((x,u)::l'):=⟨fun nm v e=>by
 rw[List.lookup_cons] at e ⊢
 cases hx:(nm==x) with
 |true=>rw[hx] at e; cases e; exact⟨t,rfl,fun p=>(h p).h⟩
 |false=>rw[hx] at e; exact hr.h nm v e⟩
theorem cs_try {l:List (Str×(Option Int->TS))} {l':List (Str×(Option Int->US))} (hb:ZS tb ub) (hl:ZHs l l'):ZS (tTry n tb l) (uTry n ub l'):=⟨fun A ι σ H ρ M D E w e r q =>
 hb.h A ι σ H ρ M _ { E with bk:=fun τ M'=>∃nm p ρ' u,τ=tagU nm p ρ'/\ρ'.length=n/\l'.lookup nm=some u/\u p E ρ' M' } w e ⟨r.nx,r.rt,fun ι1 σ1 H1 ρ1 M1 l1 w1 e1 q1=>by
  obtain⟨nm,p,ρ',u,rfl,hn,hu,q1⟩:=q1
  obtain⟨t,ht,lk⟩:=hl.h nm u hu
  cases e1 with
  |cons a b =>
  cases b with
  |cons a2 b =>
  obtain⟨v,rfl,rv⟩:=a _ rfl
  obtain⟨v2,rfl,rv2⟩:=a2 _ rfl
  cases rv with
  |p rv =>
  cases rv
  cases rv2 with
  |p rv2 =>
  cases J3 rv2
  exact⟨nm,p,_,t,rfl,by rw[b.length]; exact hn,ht,lk p A ι1 _ H1 ρ' M1 D E w1 b (r.le l1) q1⟩,r.ct⟩ q⟩
end
section
variable {P:Program} {w:World} {K:PySem.W.Frag} {mg:Str->Option Value} {base:Heap}
def endX (n:Nat) (Qu:UK) (Xu:UX):UEnds:={ nx:=fun _ M'=>Qu (.p .non) M',rt:=Qu,bk:=fun τ M'=>∃nm p ρ,τ=tagU nm p ρ/\ρ.length=n/\Xu nm p M' }
theorem Fun.zX {x qual:Str} {st:Stmt} {f:Addr} {fd:FuncData} {N ps:List Str} {k:Nat} {G:List U->MM->UK->UX->Prop} (F:Fun K x qual st f fd) (S:FnScope N ps (qc st)) (len:∀us M Qu Xu,G us M Qu Xu->us.length=ps.length)
  (hbody:∀(cdv:Value) (A:Around) (outer:List Env) (s:Shared) (H:Hp) (E:XK),Room k (A.deeper (envOfC qual (qc st) s.heap.objs.size f cdv)) ->
   ∃t,QXs True (cxOf (CXe P w) P w K mg base N qual (qc st) f cdv A outer s H E) (qh st) t/\∃u,ZS t u/\∀us M Qu Xu,G us M Qu Xu->u (endX N.length Qu Xu) (zD N us) M):FnOk P w K mg base (CXe P w) (k+1) f fd ps (spX mg G):=by
 refine F.okX S (fun vs H Q E h=>?_) (fun cdv A outer s H vs Q E hr h=>?_)
 ·obtain⟨A,ι,M,us,Qu,Xu,w1,r,g,_⟩:=h
  rw[r.len]; exact len us M Qu Xu g
 ·obtain⟨B,ι,M,us,Qu,Xu,w1,r,g,kk,kx⟩:=h
  obtain⟨t,ht,u,hu,hb⟩:=hbody cdv A outer s H E hr
  refine⟨t,ht,hu.h B ι _ H _ M _ (endX N.length Qu Xu) w1 (zC r) ⟨fun ι1 σ1 H1 ρ1 M1 l1 w1 e1 q1=>kk _ M1 ι1 _ H1 l1 w1 (.p .non) q1,fun ι1 v H1 z M1 l1 w1 r1 q1=>kk z M1 ι1 v H1 l1 w1 r1 q1,fun ι1 σ1 H1 ρ1 M1 l1 w1 e1 q1=>?_,fun _ _ _ _ _ _ _ _ q=>q.elim⟩ (hb us M Qu Xu g)⟩
  obtain⟨nm,p,ρ,rfl,hn,q1⟩:=q1
  cases e1 with
  |cons a b =>
  cases b with
  |cons a2 b =>
  obtain⟨v,rfl,rv⟩:=a _ rfl
  obtain⟨v2,rfl,rv2⟩:=a2 _ rfl
  cases rv with
  |p rv =>
  cases rv
  cases rv2 with
  |p rv2 =>
  cases J3 rv2
  exact⟨nm,p,_,rfl,by rw[b.length]; exact hn,fun C d hm hp=>kx nm p C d M1 ι1 H1 hm hp l1 w1 q1⟩
end
theorem hh_nil {X:Cx} {hs:List ExceptHandler}:∀nm t C,([]:List (Str×(Option Int->TS))).lookup nm=some t->X.mg nm=some C->∀p,QH X hs C p (t p):=fun nm t C e _=>by simp at e
theorem hh_cons {X:Cx} {hs:List ExceptHandler} {x:Str} {C:Value} {t:Option Int->TS} {l:List (Str×(Option Int->TS))} (hb:X.mg x=some C) (h:∀p,QH X hs C p (t p)) (hr:∀nm t C,l.lookup nm=some t->X.mg nm=some C->∀p,QH X hs C p (t p)) :
  ∀nm t' C',((x,t)::l).lookup nm=some t'->X.mg nm=some C'->∀p,QH X hs C' p (t' p):=fun nm t' C' e hm=>by
 rw[List.lookup_cons] at e
 cases hx:(nm==x) with
 |true =>
  rw[hx] at e
  cases e
  rw[eq_of_beq hx,hb] at hm
  cases hm
  exact h
 |false=>rw[hx] at e; exact hr nm t' C' e hm
theorem Paired.app {α β:Type} {F:α->β->Prop}:∀{a c:List α} {b d:List β},Paired F a b->Paired F c d->Paired F (a++c) (b++d)
 |_,_,_,_, .nil,h=>h
 |_,_,_,_, .cons x y,h=>.cons x (Paired.app y h)
section
variable {K:PySem.W.Frag} {ux:UXe} {ug:UG} {f:Str}
def QL (K:PySem.W.Frag) (ux:UXe) (f:Str):UXe:=fun ρ M Q X=>ux ρ M (fun x M1=>FldS K f x M1 Q) X
def QN (ux:UXe) (ug:UG):US:=fun E ρ M=>ux ρ M (fun x M1=>ug x ρ M1 E.nx) fun nm p M1=>E.bk (tagU nm p ρ) M1
end
section
variable {K:PySem.W.Frag} {ua:UE}
theorem op_catTK {X:Cx} (h:X.K=K):OpR X (binaryOp .Add) (rCatT K):=h▸op_catT
def sCatT:T->T->(T->Prop)->Prop:=fun a b Q=>∃xs ys,a=.tup xs/\b=.tup ys/\xs≠[]/\ys≠[]/\xs.length+ys.length<=sizeLine/\Q (.tup (xs++ys))
theorem opl_catT:OpL (rCatT K) sCatT:=fun A ι H M x y a b Qs Q w r1 r2 ⟨xs,ys,ea,eb,nx,ny,hz,q⟩ k=>by
 subst ea eb
 obtain⟨p,vs,rfl,h1,q1⟩:=r1.tup_inv
 obtain⟨p2,vs2,rfl,h2,q2⟩:=r2.tup_inv
 have l1:=q1.len
 have l2:=q2.len
 refine⟨p,p2,vs,vs2,rfl,rfl,SqT.of h1,SqT.of h2,fun z=>nx (List.length_eq_zero_iff.mp (by rw[<-l1,z]; rfl)),by rw[l1,l2]; exact hz,fun z=>absurd (List.length_eq_zero_iff.mp (by rw[<-l2,z]; rfl)) ny,fun _ p hp=>k _ ι _ _ (.fresh hp) (w.fresh hp) (zo w hp (q1.app q2)) q⟩
def SlTS (M:MM) (x:U) (l h:Option Int) (Q:UK):Prop:=∃ts,sn M x=some (.tup ts)/\¬(HT.sIx ts.length 0 l=0/\HT.sIx ts.length ts.length h=ts.length)/\Q (.p (.tup (cutT ts l h))) M
def uSlT (ua:UE) (ul uh:UO):UE:=fun ρ M Q=>ua ρ M fun x M1=>ul ρ M1 fun l M2=>uh ρ M2 fun h M3=>SlTS M3 x l h Q
theorem rd_slT {u1 u2:UO} {ρ:UEnv} {M:MM} {Q:UK}:uSlT ua u1 u2 ρ M Q=ua ρ M fun x M1=>u1 ρ M1 fun l M2=>u2 ρ M2 fun h M3=>SlTS M3 x l h Q:=rfl
end
abbrev Cx.named (X:Cx) (a:Addr) (oe:Obj):Cx:={ X.caught a with pn:=X.pn++[(a,oe)] }
structure ExcOb (C:Addr) (d:Option Addr) (oe:Obj):Prop where
 c:oe.cls=.ref C
 d:oe.dict=d
 v:∃vs,oe.data=.fields vs
def tAsG (i:Nat) (tb:Addr->Option Addr->TS) (q:Option Int):TS:=fun D σ H=>∀a d,PartIs d H q->tb a d { D with nx:=fun σ' H'=>D.nx (σ'.set i none) H',bk:=fun _ _=>False,ct:=fun σ' H'=>D.ct (σ'.set i none) H' } (σ.set i (some (.ref a))) H
section
variable {X:Cx} {outer:List Env} {C:Addr} {Cx:Value} {x e:Str} {p pos:Pos} {hs:List ExceptHandler} {i:Nat}
theorem qh_gen {b0:Stmt} {suite:List Stmt} {tb:Addr->Option Addr->TS} {q:Option Int} (Y:Body X outer) (hm:X.mg x=some Cx) (he:PySem.W.exmOne X.K (.ref C) Cx=some true) (hN:X.N.Nodup) (hi:X.N[i]?=some e) (hie:X.env.scope.names.lookup e=some .local)
  (hb:∀a d oe,ExcOb C d oe->QSs (X.named a oe) (b0::suite) (tb a d)) (hg:Gl X x:=by rfl) (hdb:(x==("__debug__" : Str))=false:=by decide) :
  QH X (.ExceptHandler (some (.Name x p)) (some e) (b0::suite) pos::hs) (.ref C) q (tAsG i tb q):=⟨fun pins σ H1 s1 d H' s a D I F hq h=>by
 have J:=F.inv I
 refine wpAny_handleBy_cons (codeAny_handlers_test (xD (X:=X.caught a) (J.caught a) hg hm ?_ hdb)) (by intro q; cases q)
 refine PySem.W.exm_one J.kIn F.ty he _ _ _ s (fun _ _ z=>z) ?_
 show codeAny _ _ _ _ s
 refine codeAny_handlers_suite_as ?_
 obtain⟨B,a0,fl,st⟩:=F.step
 refine wpAny_mono (DK.any (zR _ _) (lands_againW fl (Q:=fun _ s2=>(Heap.FlyingW B X.stack a (.ref C) a0 s2.heap/\s.heap.UpToSlots s2.heap)/\∃h',s2={ s with heap:=h' }) (E:=fun _ _=>False) fun h' x1 x4=>⟨⟨x1,x4⟩,h',rfl⟩)) (fun _ s2 z=>?_) fun _ _ q=>q.1.elim
 obtain⟨⟨⟨fl',up⟩,h',rfl⟩,kd⟩:=z
 have F2:=st h' fl' up kd
 obtain⟨n1,n2,oe,vs,hoe,hcl,hdi,hda⟩:=F2.new
 have J2:=F2.pinned Y I hoe hda
 refine wpAny_mono (E:=fun _ _=>False) (xL J2 hN hi (.inl hie) (v:=.ref a) (u:=.ref a) rfl (Q:=fun _ s3=>Inv X (pins++[(a,oe)]) (σ.set i (some (.ref a))) H' s3) (fun s3 I3=>I3) (.inr hie)) (fun _ s3 I3=>?_) fun _ _ z=>z.elim
 have I4:=I3.caught a
 have I5:Inv (X.named a oe) pins (σ.set i (some (.ref a))) H' s3:=⟨⟨I4.ok.mod,I4.ok.kind,I4.ok.glob,I4.ok.blt,I4.ok.above,I4.ok.inj,I4.ok.has,I4.ok.cab,I4.ok.hd,I4.ok.frames,I4.ok.stk,I4.ok.exf,I4.ok.bs,I4.ok.bsz,I4.ok.noex,I4.ok.exfs,I4.ok.funs,I4.ok.frf⟩,I4.os,I4.bare,I4.base,I4.loc,I4.cell,I4.free,I4.freeC,fun p hp=>I4.pin p (by
  rcases List.mem_append.mp hp with z|z
  ·rcases List.mem_append.mp z with z|z
   ·exact List.mem_append_left _ z
   ·exact List.mem_append_right _ (List.mem_append_right _ z)
  ·exact List.mem_append_right _ (List.mem_append_left _ z)),I4.hok,I4.len⟩
 have back:∀{σ' H2 s4},Inv (X.named a oe) pins σ' H2 s4->Inv X pins σ' H2 s4:=fun I6=>⟨I.ok,I6.os,I6.bare,I6.base,I6.loc,I6.cell,I6.free,I6.freeC,fun p hp=>I6.pin p (by
  rcases List.mem_append.mp hp with z|z
  ·exact List.mem_append_left _ (List.mem_append_left _ z)
  ·exact List.mem_append_right _ z),I6.hok,I6.len⟩
 refine wpAny_mono ((hb a d oe ⟨hcl,hdi,vs,hda⟩).h pins s3 _ H' _ I5 (h a d hq)) (fun f s4 z=>?_) fun _ _ z=>z.elim
 cases f with
 |next =>
  obtain⟨σ',H2,I6,q⟩:=z
  show wpAny _ _ _ _ _ _
  exact jT (back I6) hN hi hie fun s9 I9=>⟨_,H2,I9,q⟩
 |cont =>
  obtain⟨σ',H2,I6,q⟩:=z
  show wpAny _ _ _ _ _ _
  exact jT (back I6) hN hi hie fun s9 I9=>⟨_,H2,I9,q⟩
 |brk =>
  obtain⟨σ',H2,I6,q⟩:=z
  exact q.elim
 |ret u =>
  obtain⟨v,σ',H2,I6,r,q⟩:=z
  show wpAny _ _ _ _ _ _
  exact jT (back I6) hN hi hie fun s9 I9=>⟨v,_,H2,I9,r,q⟩⟩
end
section
variable {A:Addr->Prop} {ι:List Addr} {H:Hp} {M:MM} {a:Addr} {d:Option Addr} {i:Nat}
theorem Wd.not_xd (w:Wd A ι H M) {a:Addr} {fs:List (Str×V)} (h:a∈ι):H a≠some (.xd fs):=fun z=>by
 obtain⟨k,e⟩:=List.getElem?_of_mem h
 obtain⟨o,_,r⟩:=w.al e
 cases o with
 |lst=>obtain⟨vs,e,_⟩:=r; rw[z] at e; cases e
 |tup=>obtain⟨vs,e,_⟩:=r; rw[z] at e; cases e
 |ins=>obtain⟨_,_,e,_⟩:=r; rw[z] at e; cases e
 |dK=>obtain⟨_,e,_⟩:=r; rw[z] at e; cases e
theorem PartIs.x (w:Wd A ι H M) {q:Option Int} (h:PartIs d H q):PartX ι H d q:=by
 cases q with
 |none=>exact h
 |some n =>
  obtain⟨x0,e,hx⟩:=h
  exact⟨x0,e,fun z=>w.not_xd z hx,hx⟩
def uAsG (i:Nat) (ub:Addr->Option Addr->US) (q:Option Int):US:=fun E ρ M=>∀a d,ub a d { E with nx:=fun ρ' M'=>E.nx (ρ'.set i none) M',bk:=fun _ _=>False,ct:=fun ρ' M'=>E.ct (ρ'.set i none) M' } (ρ.set i (some (.x a d q))) M
theorem cs_asG {tb:Addr->Option Addr->TS} {ub:Addr->Option Addr->US} {q:Option Int} (h:∀a d,ZS (tb a d) (ub a d)):ZS (tAsG i tb q) (uAsG i ub q):=⟨fun A ι σ H ρ M D E w e r z a d hp=>by
 have gone:∀{ι1:List Addr} {σ1:St} {H1:Hp} {ρ1:UEnv},EnvR A ι1 H1 σ1 ρ1->EnvR A ι1 H1 (σ1.set i none) (ρ1.set i none):=fun e1=>Paired.put (fun w z=>by cases z) i e1
 exact(h a d).h A ι _ H _ M _ { E with nx:=fun ρ' M'=>E.nx (ρ'.set i none) M',bk:=fun _ _=>False,ct:=fun ρ' M'=>E.ct (ρ'.set i none) M' } w (EnvR.put e i (.x (hp.x w))) ⟨fun ι1 σ1 H1 ρ1 M1 l1 w1 e1 q1=>r.nx ι1 _ H1 _ M1 l1 w1 (gone e1) q1,r.rt,fun _ _ _ _ _ _ _ _ q=>q.elim,fun ι1 σ1 H1 ρ1 M1 l1 w1 e1 q1=>r.ct ι1 _ H1 _ M1 l1 w1 (gone e1) q1⟩ (z a d)⟩
end
end L2
namespace PySem.W
open PySem PySem.Spec PyProof.Rows
section
variable {prog:Program} {w:World} {A:Around} {E:Value->Shared->Prop} {s:Shared} {K:Frag} {x C:Addr} {ox:Obj} {od:Option Obj}
theorem classX {Q:Option Value->Shared->Prop} (X:K.In s.heap) (I:InstAt s.heap x ox C od) (hga:findIn K (.ref C) "__getattribute__" = some (some (.builtin "BaseException.__getattribute__")))
  (hgt:findIn K (.ref C) "__getattr__" = some none) (hm:mroIn K C (.type "BaseException")=some true) (hdct:hasDictIn K C=true) (ha:findIn K (.ref C) "__class__" = some (some (.builtin "object.__class__")))
  (hn:specialIn K (.builtin "object.__class__") "__get__" = some (some (.builtin "getset_descriptor.__get__"))) (htk:takesIn K (.builtin "object.__class__")=some true) (hmo:mroIn K C (.type "object")=some true)
  (h:Q (some (.ref C)) { s with toks:=s.toks+1 }):wpAny (model prog w) A (getAttr? (.ref x) "__class__") Q E s:=by
 have hf:findObj K C od "__class__" = some (.bind (.builtin "getset_descriptor.__get__") (.builtin "object.__class__")):=by
  obtain⟨cd,hc,_⟩:=any_some hdct
  unfold findObj
  rw[hc,Option.bind_some,ha,Option.bind_some]
  simp[hn,htk]
 obtain⟨hp,g,d,t,os⟩:=s
 have L0:=I.type (M:=model prog w)
 have L1:=looks_findIn (M:=model prog w) X hga
 have L2:=looks_findIn (M:=model prog w) X hgt
 have L3:=looks_find (M:=model prog w) X I hf
 have L4:=looks_mroIn (M:=model prog w) X hm
 have FB:=PySem.F.excAttr_ValueError
 have f3:=FB.ga.bind (.ref x)
 have hx2:(Value.builtin "BaseException.__getattribute__" == Value.builtin "object.__getattribute__")=false:=by decide +kernel
 have hx1:(onTheHeap (Value.ref C)&&Value.builtin "BaseException.__getattribute__" == Value.builtin "object.__getattribute__")=false:=by rw[hx2]; rfl
 have ha2:=F.args_bexc_ga (.ref x) (.str "__class__" t)
 have hk:builtinKind "BaseException.__getattribute__" = some .slot:=by decide +kernel
 have hsplit:splitId "BaseException.__getattribute__" = some ("BaseException", "__getattribute__"):=by decide +kernel
 unfold getAttr? getAttrBy? getAttrBy
 refine wpAny_bind (wpAny_mkText (wpAny_bind (wpAny_attempt (wpAny_holding (wpAny_bind (L0.at (wpAny_bind (L1.at ?_))))))))
 repeat (any_goals (first|assumption|with_reducible refine L0.at ?_|with_reducible refine L2.at ?_|wp_step))
 refine codeAny_call_builtin FB.ga.plain F.entry_bexc_ga ?_
 simp only[checkBuiltinCall,hk,hsplit,List.cons_append,List.nil_append]
 refine wpAny_bind ?_
 unfold isInstance
 refine wpAny_bind (L0.at (L4.at ?_))
 repeat (any_goals (first|assumption|with_reducible refine L0.at ?_|with_reducible refine L3.at ?_|wp_step))
 refine class_get (s:=⟨hp,g,d,t+1,os⟩) (ox:=ox) (od:=od) X I hmo ?_
 refine wpAny_pure ?_
 show wpAny _ _ (handedOut _) _ _ _
 rw[handedOut_of (by rfl)]
 exact wpAny_pure (wpAny_pure h)
theorem kitx_exc (hga:findIn K (.ref C) "__getattribute__" = some (some (.builtin "BaseException.__getattribute__")))
  (hgt:findIn K (.ref C) "__getattr__" = some none) (hm:mroIn K C (.type "BaseException")=some true) (hdct:hasDictIn K C=true) (ha:findIn K (.ref C) "__class__" = some (some (.builtin "object.__class__")))
  (hn:specialIn K (.builtin "object.__class__") "__get__" = some (some (.builtin "getset_descriptor.__get__"))) (htk:takesIn K (.builtin "object.__class__")=some true) (hmo:mroIn K C (.type "object")=some true) :
  KitX K (.ref x) (.ref C) (fun h=>InstAt h x ox C od) where
 ty:=fun _ _ _ I=>I.type
 it:=fun _ _ X _=>by
  obtain⟨cdD,hcD,_⟩:=any_some hdct
  unfold clsIn at hcD
  split at hcD
  ·rename_i c' d' cd' sl' ho
   intro A' Q' E' s' k q
   unfold isType loadHead
   exact wpAny_bind (wpAny_loadPart (k _ _ (X _ _ ho)) (wpAny_pure q))
  ·cases hcD
 ne:=fun h tp dd its n sl X htp=>by
  obtain⟨cdD,hcD,_⟩:=any_some hdct
  refine Bool.eq_false_iff.mpr fun q=>?_
  have e:C=tp:=Value.ref.inj (beq_iff_eq.mp q)
  subst e
  unfold clsIn at hcD
  split at hcD
  ·rename_i c' d' cd' sl' ho
   have z:=(X _ _ ho).symm.trans htp
   cases z
  ·cases hcD
 ca:=fun X I k=>classX X I hga hgt hm hdct ha hn htk hmo k
end
end PySem.W
namespace L2
open PySem PySem.Spec PyProof.Rows
structure ExcT (K:PySem.W.Frag) (C:Addr):Prop where
 ga:PySem.W.findIn K (.ref C) "__getattribute__" = some (some (.builtin "BaseException.__getattribute__"))
 gt:PySem.W.findIn K (.ref C) "__getattr__" = some none
 mr:PySem.W.mroIn K C (.type "BaseException")=some true
 hd:PySem.W.hasDictIn K C=true
 ha:PySem.W.findIn K (.ref C) "__class__" = some (some (.builtin "object.__class__"))
 hn:PySem.W.specialIn K (.builtin "object.__class__") "__get__" = some (some (.builtin "getset_descriptor.__get__"))
 htk:PySem.W.takesIn K (.builtin "object.__class__")=some true
 hmo:PySem.W.mroIn K C (.type "object")=some true
def clsV:V->Option Value
 |.ty n=>some (.type n)
 |.ref D=>some (.ref D)
 |_=>none
theorem Xh {c:V} {cv u:Value} (h:clsV c=some cv) (r:RelV c u):u=cv:=by
 cases c with
 |ty n=>cases h; exact r
 |ref D=>cases h; exact r
 |_=>cases h
abbrev rIsX (K:PySem.W.Frag) (C a:Addr) (d:Option Addr):List V->Hp->VK->Prop:=fun xs H Q=>∃c cv b q,xs=[.ref a,c]/\clsV c=some cv/\PySem.W.kitOne K (.ref C) cv=some b/\PartIs d H q/\Q (.bl b) H
abbrev rIsXT (K:PySem.W.Frag) (C a:Addr) (d:Option Addr):List V->Hp->VK->Prop:=fun xs H Q=>∃p cs cvs b q,xs=[.ref a, .ref p]/\H p=some (.tup cs)/\cs.map clsV=cvs.map some/\PySem.W.kitAny K (.ref C) cvs=some b/\PartIs d H q/\Q (.bl b) H
section
variable {X:Cx} {K:PySem.W.Frag} {C a:Addr} {d:Option Addr} {oe:Obj}
theorem exc_at {pins:List (Addr×Obj)} {σ:St} {H:Hp} {s:Shared} {q:Option Int} (I:Inv X pins σ H s) (ob:ExcOb C d oe) (hp:(a,oe)∈X.pn) (hq:PartIs d H q):∃od,PySem.W.InstAt s.heap a oe C od:=by
 have hpin:=(I.pin (a,oe) (List.mem_append_left _ hp)).1
 obtain⟨vs,hda⟩:=ob.v
 cases q with
 |none =>
  have hq:d=none:=hq
  exact⟨none,hpin,ob.c,by unfold PySem.W.notCls; rw[hda],by rw[ob.d,hq]; trivial⟩
 |some n =>
  obtain⟨x0,ed,hx0⟩:=hq
  obtain⟨mA,hns,hrel⟩:=I.hok x0 _ hx0
  obtain⟨od,hod,hlk⟩:=Vh hns
  exact⟨some od,hpin,ob.c,by unfold PySem.W.notCls; rw[hda],by rw[ob.d,ed]; exact hod⟩
theorem Xo (hK:X.K=K) (t:ExcT K C) (ob:ExcOb C d oe) (hp:(a,oe)∈X.pn):zd X (.builtin "isinstance") (rIsX K C a d):=by
 subst hK
 intro pins s σ H xs us Q I r h
 obtain⟨c,cv,b,q,rfl,hc,e,hq,k⟩:=h
 obtain⟨u,v,rfl,ru,rv⟩:=vals2 r
 obtain rfl:u=Value.ref a:=ru
 obtain rfl:=Xh hc rv
 obtain⟨od,J⟩:=exc_at I ob hp hq
 exact PySem.W.kia_one (PySem.W.kitx_exc t.ga t.gt t.mr t.hd t.ha t.hn t.htk t.hmo) I.kIn J e (fun z=>nomatch z) fun tk=>⟨.bl b,H,I.tok tk,rfl,k⟩
theorem Vu:∀{cs:List V} {cvs us:List Value},cs.map clsV=cvs.map some->Vals cs us->us=cvs
 | [], [],_,_, .nil=>rfl
 |c::cs,v::cvs,_,h, .cons r q=>by
  simp only[List.map_cons,List.cons.injEq] at h
  rw[Xh h.1 r,Vu h.2 q]
 | [],_::_,_,h,_=>by simp at h
 |_::_, [],_,h,_=>by simp at h
theorem Vy (hK:X.K=K) (t:ExcT K C) (ob:ExcOb C d oe) (hp:(a,oe)∈X.pn):zd X (.builtin "isinstance") (rIsXT K C a d):=by
 subst hK
 intro pins s σ H xs us Q I r h
 obtain⟨p,cs,cvs,b,q,rfl,hpp,hc,e,hq,k⟩:=h
 obtain⟨u,v,rfl,ru,rv⟩:=vals2 r
 obtain rfl:u=Value.ref a:=ru
 obtain rfl:v=Value.ref p:=rv
 obtain⟨_,its,r1,o,ho,hcl,n,hd⟩:=(show ObjOk X.prog X.w H s.heap p (.tup cs) from I.hok p _ hpp)
 obtain rfl:=Vu hc r1
 obtain⟨c,dd,dt,sl⟩:=o
 simp only at hcl hd
 subst hcl hd
 obtain⟨od,J⟩:=exc_at I ob hp hq
 exact PySem.W.kia_tup (PySem.W.kitx_exc t.ga t.gt t.mr t.hd t.ha t.hn t.htk t.hmo) I.kIn J ho e (fun z=>nomatch z) fun tk=>⟨.bl b,H,I.tok tk,rfl,k⟩
end
section
variable {K:PySem.W.Frag} {C a:Addr} {d:Option Addr} {ta:TE} {ua:UE}
def uIsX (a:Addr) (d:Option Addr) (b:Bool) (ua:UE):UE:=fun ρ M Q=>ua ρ M fun x M1=>(∃q,x=.x a d q)/\Q (.p (.bl b)) M1
theorem PartX.is {ι:List Addr} {H:Hp} {q:Option Int} (h:PartX ι H d q):PartIs d H q:=by
 cases q with
 |none=>exact h
 |some n =>
  obtain⟨x0,e,_,hx⟩:=h
  exact⟨x0,e,hx⟩
theorem PartIs.fresh {H:Hp} {q:Option Int} {p:Addr} {o:HO} (h:PartIs d H q) (hp:H p=none):PartIs d (upd H p o) q:=by
 cases q with
 |none=>exact h
 |some n =>
  obtain⟨x0,e,hx⟩:=h
  exact⟨x0,e,qX hp hx⟩
theorem ce_isX {c:V} {cv:Value} {b:Bool} (hc:clsV c=some cv) (hk:PySem.W.kitOne K (.ref C) cv=some b) (ha:ZE ta ua):ZE (tCB (rIsX K C a d) (zr ta (zr (tC c) tNil))) (uIsX a d b ua):=⟨fun A ι σ H ρ M Qu Q w e q k =>
 ha.h A ι σ H ρ M _ _ w e q fun x M1 ι1 v H1 l1 w1 r1 ⟨⟨qq,ex⟩,q1⟩=>by
  subst ex
  cases r1 with
  |x h=>exact⟨c,cv,b,qq,rfl,hc,hk,h.is,k _ M1 ι1 _ H1 l1 w1 (.p (.bl _)) q1⟩⟩
abbrev VL:List V->TA
 | []=>tNil
 |c::cs=>zr (tC c) (VL cs)
theorem kf {σ:St} {H:Hp} {R:List V->Hp->Prop}:∀(cs:List V),R cs H->VL cs σ H R
 | [],h=>h
 |c::cs,h=>kf (R:=fun vs H=>R (c::vs) H) cs h
theorem Yk {cs:List V} {cvs:List Value} {b:Bool} (hc:cs.map clsV=cvs.map some) (hk:PySem.W.kitAny K (.ref C) cvs=some b) (ha:ZE ta ua) (hl:cs.length<=100:=by decide):ZE (tCB (rIsXT K C a d) (zr ta (zr (tTup (VL cs)) tNil))) (uIsX a d b ua):=⟨fun A ι σ H ρ M Qu Q w e q k =>
 ha.h A ι σ H ρ M _ _ w e q fun x M1 ι1 v H1 l1 w1 r1 ⟨⟨qq,ex⟩,q1⟩=>by
  subst ex
  cases r1 with
  |x h =>
   refine kf cs ⟨Nat.le_trans hl (by show 100<=sizeLine; decide),fun p hp=>?_⟩
   exact⟨p,cs,cvs,b,qq,rfl,upd_same,hc,hk,h.is.fresh hp,k _ M1 ι1 _ _ (l1.trans (.fresh hp)) (w1.fresh hp) (.p (.bl _)) q1⟩⟩
theorem ji {b:Bool} {ρ:UEnv} {M:MM} {Q:UK}:uIsX a d b ua ρ M Q=ua ρ M fun x M1=>(∃q,x=.x a d q)/\Q (.p (.bl b)) M1:=rfl
end
section
variable {A:Addr->Prop} {ι:List Addr} {H H':Hp} {M:MM} {ua ub:UE}
theorem Wd.ext (w:Wd A ι H M) (h:∀x o,H x=some o->H' x=some o):Wd A ι H' M:=by
 have l:Le ι H ι H':=⟨⟨[],by simp,by simp⟩,fun x o e _=>h x o e,fun x e=>by
  cases q:H x with
  |none=>exact absurd q e
  |some o=>rw[h x o q]; simp⟩
 refine⟨w.nd,w.len,fun x hx=>l.al x (w.dom x hx),w.na,fun k a o e1 e2=>?_⟩
 have r:=w.obj k a o e1 e2
 obtain⟨q,hq⟩:=r.some
 exact r.le' l (by rw[h a q hq,hq]) fun x hx=>by rw[h x _ hx,hx]
def uCmpF (neg:Bool) (ua ub:UE):UE:=fun ρ M Q=>ua ρ M fun x M1=>ub ρ M1 fun y M2=>∃a b,frzN 5 M2 x=some a/\frzN 5 M2 y=some b/\sEqL neg a b fun t=>Q (.p t) M2
theorem kT {neg:Bool} {ρ:UEnv} {Q:UK}:uCmpF neg ua ub ρ M Q=ua ρ M fun x M1=>ub ρ M1 fun y M2=>∃a b,frzN 5 M2 x=some a/\frzN 5 M2 y=some b/\sEqL neg a b fun t=>Q (.p t) M2:=rfl
end
theorem Z5 {X:Cx} {a:Addr} {oe:Obj}:(a,oe)∈(X.named a oe).pn:=List.mem_append_right _ (List.mem_singleton.mpr rfl)
theorem VE:bootBuiltins "ValueError" = some (.type "ValueError"):=by decide +kernel
section
variable {X:Cx} {K:PySem.W.Frag} {ta to:TE} {ua uo:UE} {tl:TA} {ul:UA} {n:Nat}
theorem JY {v:Value} {o:Option Int} (h:IsPart v o):∃p:Option (Int×Tok),v=partValue p/\p.map (·.1)=o:=by
 cases h with
 |none=>exact⟨none,rfl,rfl⟩
 |int i t=>exact⟨some (i,t),rfl,rfl⟩
def rSlX:V->Option Int->Option Int->Hp->VK->Prop:=fun x lo hi H Q=>∃z,x=.str z/\z.length<=sizeLine/\Q (.str (Txt.slice z lo hi)) H
theorem jL:SlR X rSlX:=by
 intro pins s σ H x v vl vu lo hi sl Q I rx hs pl pu h
 obtain⟨z,rfl,hz,q⟩:=h
 obtain⟨t,rfl⟩:=rx
 obtain⟨l,rfl,rfl⟩:=JY pl
 obtain⟨u,rfl,rfl⟩:=JY pu
 refine⟨"str", _,F.slot_str_getitem.lookup,typeIs_str _ _ _, ?_⟩
 exact wpAny_getItem_str_slice (l:=l) (u:=u) (st:=none) hs rfl (post_val_or_str ⟨Nat.le_trans (Txt.slice_le z _ _) hz,fun t' k=>⟨.str _,H,I.tok _,⟨_,rfl⟩,q⟩⟩)
def SlXS (M:MM) (x:U) (l h:Option Int) (Q:UK):Prop:=∃z,x=.p (.str z)/\z.length<=sizeLine/\Q (.p (.str (Txt.slice z l h))) M
def uSlX (ua:UE) (ul uh:UO):UE:=fun ρ M Q=>ua ρ M fun x M1=>ul ρ M1 fun l M2=>uh ρ M2 fun h M3=>SlXS M3 x l h Q
theorem le_slX {t1 t2:TO} {u1 u2:UO} (ha:LE ta ua) (h1:LO t1 u1) (h2:LO t2 u2):LE (tSl rSlX ta t1 t2) (uSlX ua u1 u2):=fun A ι σ H ρ M Qu Q w e q k =>
 ha A ι σ H ρ M _ _ w e q fun x M1 ι1 v H1 l1 w1 r1 q1=>h1 A ι1 σ H1 ρ M1 _ _ w1 (e.le l1) q1 fun l M2 ι2 H2 l2 w2 q2=>h2 A ι2 σ H2 ρ M2 _ _ w2 ((e.le l1).le l2) q2 fun h M3 ι3 H3 l3 w3 ⟨z,es,nw,q3⟩=>by
  subst es
  cases r1 with
  |p r =>
  cases r
  exact⟨z,rfl,nw,k _ M3 ι3 _ _ ((l1.trans l2).trans l3) w3 (.p (.str _)) q3⟩
theorem j5 {t1 t2:TO} {u1 u2:UO} (ha:ZE ta ua) (h1:ZO t1 u1) (h2:ZO t2 u2):ZE (tSl rSlX ta t1 t2) (uSlX ua u1 u2):=⟨le_slX ha.h h1.h h2.h⟩
theorem zG {u1 u2:UO} {ρ:UEnv} {M:MM} {Q:UK}:uSlX ua u1 u2 ρ M Q=ua ρ M fun x M1=>u1 ρ M1 fun l M2=>u2 ρ M2 fun h M3=>SlXS M3 x l h Q:=rfl
def sIxS:T->T->(T->Prop)->Prop:=fun a b Q=>∃z i c,a=.str z/\b=.int i/\z.length<=sizeLine/\atI z.cps.toList i=some c/\Q (.str ⟨#[c]⟩)
theorem VT:OpL rIxS sIxS:=fun A ι H M x y a b Qs Q w r1 r2 ⟨z,i,c,ea,eb,hz,hc,q⟩ k=>by
 subst ea eb
 cases r1.str_inv; cases r2.int_inv
 exact⟨z,i,c,rfl,rfl,hz,hc,k _ ι _ H (.refl _ _) w (.str _) q⟩
def rInX (neg:Bool):R2:=fun x y H Q=>∃c j,x=.str ⟨#[c]⟩/\y=.str j/\Q (.bl (if neg then !decide (c∈j.cps.toList) else decide (c∈j.cps.toList))) H
theorem J8:OpR X (compareOp .In) (rInX false):=fun pins s σ H x y v u Q I rx ry ⟨c,j,ex,ey,q⟩ =>
 J6 pins s σ H x y v u Q I rx ry ⟨_,j,ex,ey,by rw[StrLaws.found_one]; exact q⟩
theorem Va:OpR X (compareOp .NotIn) (rInX true):=fun pins s σ H x y v u Q I rx ry ⟨c,j,ex,ey,q⟩ =>
 Q9 pins s σ H x y v u Q I rx ry ⟨_,j,ex,ey,by rw[StrLaws.found_one]; exact q⟩
def sInX (neg:Bool):T->T->(T->Prop)->Prop:=fun a b Q=>∃c j,a=.str ⟨#[c]⟩/\b=.str j/\Q (.bl (if neg then !decide (c∈j.cps.toList) else decide (c∈j.cps.toList)))
theorem jR {neg:Bool}:OpL (rInX neg) (sInX neg):=fun A ι H M x y a b Qs Q w r1 r2 ⟨c,j,ea,eb,q⟩ k=>by
 subst ea eb
 cases r1.str_inv; cases r2.str_inv
 exact⟨c,j,rfl,rfl,k _ ι _ H (.refl _ _) w (.bl _) q⟩
def rLenX:List V->Hp->VK->Prop:=fun xs H Q=>∃z,xs=[.str z]/\z.length<=sizeLine/\Q (.int z.length) H
theorem v8:zd X (.builtin "len") rLenX:=Vw
def sLenX:List T->(T->Prop)->Prop:=fun ts Q=>∃z,ts=[.str z]/\z.length<=sizeLine/\Q (.int z.length)
theorem zy:CbL rLenX sLenX:=fun A ι H M vs ts Qs Q w r ⟨z,e,hz,q⟩ k=>by
 subst e
 obtain⟨v,ev,r1⟩:=pv1 r
 subst ev
 cases r1.str_inv
 exact⟨z,rfl,hz,k _ ι _ H (.refl _ _) w (.int _) q⟩
def rIntX:List V->Hp->VK->Prop:=fun xs H Q=>∃z i,xs=[.str z]/\z.length<=640/\PySem.intText? z=some i/\Q (.int i) H
theorem Vz:zd X (.type "int") rIntX:=by
 intro pins s σ H xs us Q I r h
 obtain⟨z,i,rfl,hz,hi,q⟩:=h
 obtain⟨u,rfl,t,rfl⟩:=xA r
 exact PySem.W.KIN.call_text hi hz ⟨.int _,H,I.tok _,⟨_,rfl⟩,q⟩
def sIntX:List T->(T->Prop)->Prop:=fun ts Q=>∃z i,ts=[.str z]/\z.length<=640/\PySem.intText? z=some i/\Q (.int i)
theorem Xn:CbL rIntX sIntX:=fun A ι H M vs ts Qs Q w r ⟨z,i,e,hz,hi,q⟩ k=>by
 subst e
 obtain⟨v,ev,r1⟩:=pv1 r
 subst ev
 cases r1.str_inv
 exact⟨z,i,rfl,hz,hi,k _ ι _ H (.refl _ _) w (.int _) q⟩
def JK:V->List V->Hp->VK->Prop:=fun x xs H Q=>∃y z,x=.str y/\xs=[.str z]/\Q (.bl (Txt.startswith y z)) H
theorem Kn:MtR X "str.startswith" JK:=by
 intro pins s σ H x xs v us Q I rx r h
 obtain⟨y,z,rfl,rfl,q⟩:=h
 obtain⟨t,rfl⟩:=rx
 obtain⟨u,rfl,t',rfl⟩:=xA r
 exact SC.startswith ⟨.bl _,H,I,rfl,q⟩
def xB (xs:List Str):List V:=xs.map V.str
def rJoin (K:PySem.W.Frag):V->List V->Hp->VK->Prop:=fun x xs H Q=>∃y p zs,x=.str y/\xs=[.ref p]/\SqL K H p (xB zs)/\(zs.map (·.length)).sum+zs.length*y.length<=16777216/\Q (.str (Txt.join y zs)) H
theorem ZF:∀{zs:List Str} {us:List Value},Vals (xB zs) us->StrsAre us zs
 | [],_, .nil=>.nil
 |z::zs,_, .cons r q=>by
  obtain⟨t,rfl⟩:=r
  exact .cons _ _ (ZF q)
theorem xl (h:X.K=K):MtR X "str.join" (rJoin K):=by
 subst h
 intro pins s σ H x xs v us Q I rx r h
 obtain⟨y,p,zs,rfl,rfl,hp,hz,q⟩:=h
 obtain⟨t,rfl⟩:=rx
 obtain⟨u,rfl,ru⟩:=xA r
 cases ru
 obtain⟨its,rv,pl,_⟩:=I.list hp
 exact PyProof.Rows.join_list pl.isList (ZF (by simpa using rv)) hz fun t' k=>⟨.str _,H,I.tok _,⟨_,rfl⟩,q⟩
def MbL (r:V->List V->Hp->VK->Prop) (s:Str->List T->(T->Prop)->Prop):Prop:=∀(A:Addr->Prop) (ι:List Addr) (H:Hp) (M:MM) (y:Str) (vs:List V) (ts:List T) (Qs:T->Prop) (Q:VK),Wd A ι H M->Paired (RepV (Av A ι) H) vs ts->s y ts Qs ->
 (∀t ι' v H',Le ι H ι' H'->Wd A ι' H' M->RepT (Av A ι') H' v t->Qs t->Q v H')->r (.str y) vs H Q
def BmS (s:Str->List T->(T->Prop)->Prop) (ul:UA) (ρ:UEnv) (M:MM) (x:U) (Q:UK):Prop:=∃y,x=.p (.str y)/\ul ρ M fun us M2=>∃ts,sns M2 us=some ts/\s y ts fun t=>Q (.p t) M2
def uBm (s:Str->List T->(T->Prop)->Prop) (uo:UE) (ul:UA):UE:=fun ρ M Q=>uo ρ M fun x M1=>BmS s ul ρ M1 x Q
theorem le_bm {r:V->List V->Hp->VK->Prop} {s:Str->List T->(T->Prop)->Prop} (h:MbL r s) (ho:LE to uo) (ha:LA n tl ul):LE (tBM K "str" r to tl) (uBm s uo ul):=fun A ι σ H ρ M Qu Q w e q k =>
 ho A ι σ H ρ M _ _ w e q fun x M1 ι1 v H1 l1 w1 r1 ⟨y,ex,q1⟩=>by
  subst ex
  cases r1 with
  |p r =>
  cases r
  exact⟨rfl,ha A ι1 σ H1 ρ M1 _ _ w1 (e.le l1) q1 fun us M2 ι2 vs H2 l2 w2 hn r2 ⟨ts,e2,q2⟩=>h A ι2 H2 M2 y vs ts _ Q w2 (r2.sns w2 e2) q2 fun t ι3 z H3 l3 w3 r3 q3=>k _ M2 ι3 z H3 ((l1.trans l2).trans l3) w3 (.p r3) q3⟩
theorem jr {r:V->List V->Hp->VK->Prop} {s:Str->List T->(T->Prop)->Prop} (h:MbL r s) (ho:ZE to uo) (ha:ZA n tl ul):ZE (tBM K "str" r to tl) (uBm s uo ul):=⟨le_bm h ho.h ha.h⟩
theorem jN {s:Str->List T->(T->Prop)->Prop} {ρ:UEnv} {M:MM} {Q:UK}:uBm s uo ul ρ M Q=uo ρ M fun x M1=>BmS s ul ρ M1 x Q:=rfl
def JC:Str->List T->(T->Prop)->Prop:=fun y ts Q=>∃z,ts=[.str z]/\Q (.bl (Txt.startswith y z))
theorem XW:MbL JK JC:=fun A ι H M y vs ts Qs Q w r ⟨z,e,q⟩ k=>by
 subst e
 obtain⟨v,ev,r1⟩:=pv1 r
 subst ev
 cases r1.str_inv
 exact⟨y,z,rfl,rfl,k _ ι _ H (.refl _ _) w (.bl _) q⟩
def sJoin:Str->List T->(T->Prop)->Prop:=fun y ts Q=>∃zs:List Str,ts=[.lst (zs.map T.str)]/\(zs.map (·.length)).sum+zs.length*y.length<=16777216/\Q (.str (Txt.join y zs))
theorem ZD {A:Addr->Prop} {H:Hp}:∀{vs:List V} {zs:List Str},RepTs A H vs (zs.map T.str)->vs=xB zs
 | [], [], .nil=>rfl
 |_::_,z::zs, .cons r q=>by
  cases r
  rw[ZD q]
  rfl
theorem xm:MbL (rJoin K) sJoin:=fun A ι H M y vs ts Qs Q w r ⟨zs,e,hz,q⟩ k=>by
 subst e
 obtain⟨v,ev,r1⟩:=pv1 r
 subst ev
 obtain⟨p,ws,rfl,h1,h2⟩:=r1.lst_inv
 cases ZD h2
 exact⟨y,p,zs,rfl,rfl,SqL.of h1,hz,k _ ι _ H (.refl _ _) w (.str _) q⟩
theorem zI {neg:Bool} {c:Nat} {j:Str} {Q:T->Prop}:sInX neg (.str ⟨#[c]⟩) (.str j) Q=Q (.bl (if neg then !decide (c∈j.cps.toList) else decide (c∈j.cps.toList))):=propext ⟨fun⟨_,_,e,e2,h⟩=>by cases e; cases e2; exact h,fun h=>⟨c,j,rfl,rfl,h⟩⟩
theorem vW {z:Str} {Q:T->Prop}:sLenX [.str z] Q=(z.length<=sizeLine/\Q (.int z.length)):=propext ⟨fun⟨_,e,h⟩=>by cases e; exact h,fun h=>⟨z,rfl,h⟩⟩
theorem vd {y z:Str} {Q:T->Prop}:JC y [.str z] Q=Q (.bl (Txt.startswith y z)):=propext ⟨fun⟨_,e,h⟩=>by cases e; exact h,fun h=>⟨z,rfl,h⟩⟩
theorem zJ {s:Str->List T->(T->Prop)->Prop} {ρ:UEnv} {M:MM} {Q:UK} {y:Str}:BmS s ul ρ M (.p (.str y)) Q=ul ρ M fun us M2=>SnsS M2 us fun ts=>s y ts fun t=>Q (.p t) M2:=propext ⟨fun⟨_,e,h⟩=>by cases e; exact h,fun h=>⟨y,rfl,h⟩⟩
theorem vV {M:MM} {z:Str} {l h:Option Int} {Q:UK}:SlXS M (.p (.str z)) l h Q=(z.length<=sizeLine/\Q (.p (.str (Txt.slice z l h))) M):=propext ⟨fun⟨_,e,h⟩=>by cases e; exact h,fun h=>⟨z,rfl,h⟩⟩
structure GStr (mg:Str->Option Value) (nm x:Str):Prop where
 ex:∃t,mg nm=some (.str x t)
theorem JS {x y:Str} {pos:Pos} (G:GStr X.mg x y) (hg:Gl X x) (hd:(x==("__debug__" : Str))=false:=by decide):QE X (.Name x pos) (tC (.str y)):=by
 obtain⟨t,e⟩:=G.ex
 exact⟨VS hg e ⟨t,rfl⟩ hd⟩
end
section
variable {X:Cx} {K:PySem.W.Frag} {ta:TE} {ua:UE} {tg:Expr}
def Its (x:Str):It:=⟨fun i _=>i<x.cps.size,fun i H v H'=>H'=H/\∃c,x.cps.toList[i]?=some c/\v=.str ⟨#[c]⟩,fun i _=>x.cps.size<=i⟩
theorem turn_str {P:Program} {w:World} {x:Str} {t:Tok} {it:Addr} {ty:String} (hty:ty = "str_ascii_iterator" \/ ty = "str_iterator"):Turn P w K tg (Its x) [it] it (fun i h=>h.IsStrIter it ty x t i) where
 mem:=by simp
 obj:=fun i h st b hb=>by
  have e:b=it:=by simpa using hb
  subst e
  obtain⟨o,e,c,d⟩:=st
  exact⟨o,e,fun v z=>by rw[d] at z; cases z⟩
 keep:=fun i h h' st k=>by
  obtain⟨o,e,c,d⟩:=st
  exact⟨o,k it (by simp) o e,c,d⟩
 item:=by
  intro X hP hw hK hc i pins s σ H E I hf st hg
  subst hP hw hK
  have hi:i<x.cps.size:=hg
  have hx:x.cps[i]?=some x.cps[i]:=by simp[hi]
  obtain⟨f0,f1,f2,f3,f4,f5⟩:=hf it (by simp)
  have fin:∀h',h'.IsStrIter it ty x t (i+1)->Heap.SameBut it s.heap h'->∃u,some (Value.str ⟨#[x.cps[i]]⟩ s.toks)=some u/\wpAny (model X.prog X.w) X.A (letOwnedTupleGo tg (.ref it) u) (fun _ s2=>∃y H',Inv X pins σ H' s2/\RelV y u/\(Its x).yld i H y H'/\s2.heap.IsStrIter it ty x t (i+1)/\∀b∈[it],H' b=none) E { s with heap:=h',toks:=s.toks+1 }:=fun h' st' sb=>by
   have I1:Inv X pins σ H { s with heap:=h',toks:=s.toks+1 }:=I.turned (t':=s.toks+1) (fun b o hb e=>(sb.2 b hb).trans e) f0 f1 f3 f4 f5
   obtain⟨o,e,c,d⟩:=id st'
   exact⟨_,rfl,go_of (s:={ s with heap:=h',toks:=s.toks+1 }) e c d (by rcases hty with rfl|rfl<;>decide) ⟨.str ⟨#[x.cps[i]]⟩,H,I1,⟨_,rfl⟩,⟨rfl,_,by simp[hi],rfl⟩,st',fun b hb=>(hf b hb).1⟩⟩
  rcases hty with rfl|rfl
  ·exact wpAny_pyNext_ascii_item st hx fin
  ·exact wpAny_pyNext_wide_item st hx fin
 done:=by
  intro X hP hw hK hc i pins s σ H E I hf st hg
  subst hP hw hK
  have hi:x.cps.size<=i:=hg
  have hx:x.cps[i]?=none:=by simp[hi]
  obtain⟨f0,f1,f2,f3,f4,f5⟩:=hf it (by simp)
  rcases hty with rfl|rfl
  ·exact wpAny_pyNext_ascii_end (I.ok.hd hc) st hx fun h' eb=>⟨rfl,I.turned (t':=s.toks) (fun b o hb e=>eb b o hb e) f0 f1 f3 f4 f5⟩
  ·exact wpAny_pyNext_wide_end (I.ok.hd hc) st hx fun h' eb=>⟨rfl,I.turned (t':=s.toks) (fun b o hb e=>eb b o hb e) f0 f1 f3 f4 f5⟩
 self:=fun _ _ _ _ _ st h=>by
  rcases hty with rfl|rfl
  ·exact wpAny_pyIter_striter_ascii st h
  ·exact wpAny_pyIter_striter_wide st h
def iStr (tl:TE):TI:=fun σ H R=>tl σ H fun x H1=>∃z,x=.str z/\R (Its z) H1
theorem pi_str {l:Expr} {tl:TE} (hl:PE X l tl):PI X tg l (iStr tl):=by
 intro pins s σ H R I h
 refine thn (hl pins s σ H _ I h) fun v s1 ⟨x,H1,I1,r1,q1⟩=>?_
 obtain⟨z,e,q⟩:=q1
 subst e
 obtain⟨t,rfl⟩:=r1
 refine wpAny_pyIter_strU ?_
 refine⟨s1.heap.objs.size, [s1.heap.objs.size],_,_,H1,rfl,I1.kept (t':=s1.toks) fun b o e=>Heap.get?_push_of_some _ e,turn_str (x:=z) (t:=t) (ty:=strIterType z) (by unfold strIterType; split<;>simp),⟨_,Heap.get?_push_size _ rfl,rfl,rfl⟩,fun b hb=>?_,q⟩
 have e:b=s1.heap.objs.size:=by simpa using hb
 subst e
 exact I1.fpOk (Nat.le_refl _) (I1.hok.fresh (Nat.le_refl _))
theorem ZR {l:Expr} {tl:TE} (hl:QE X l tl):QI X tg l (iStr tl):=⟨pi_str hl.h⟩
def itX (z:Str):UIt:=⟨z.cps.size,fun _=>True,fun i u=>∃c,z.cps.toList[i]?=some c/\u=.p (.str ⟨#[c]⟩)⟩
def ItXS (x:U) (M:MM) (Q:UIt->MM->Prop):Prop:=∃z,x=.p (.str z)/\Q (itX z) M
def Ji (ua:UE):UI:=fun ρ M Q=>ua ρ M fun x M1=>ItXS x M1 Q
theorem li_str (ha:LE ta ua):LI (iStr ta) (Ji ua):=fun A ι σ H ρ M Qu R w e q k =>
 ha A ι σ H ρ M _ _ w e q fun x M1 ι1 v H1 l1 w1 r1 ⟨z,ex,q1⟩=>by
  subst ex
  cases r1 with
  |p r =>
  cases r
  refine⟨z,rfl,k _ M1 ι1 _ H1 l1 w1 ?_ q1⟩
  intro A' ι2 H2 M2 i l w2 _
  refine⟨fun hi=>⟨hi,fun x H' y=>?_⟩,fun hi=>Nat.le_of_eq hi.symm⟩
  obtain⟨rfl,c,hc,rfl⟩:=y
  exact⟨_,⟨c,hc,rfl⟩, .refl _ _,w2, .p (.str _)⟩
theorem Xk (ha:ZE ta ua):ZI (iStr ta) (Ji ua):=⟨li_str ha.h⟩
theorem vj {ρ:UEnv} {M:MM} {Q:UIt->MM->Prop}:Ji ua ρ M Q=ua ρ M fun x M1=>ItXS x M1 Q:=rfl
theorem zH {z:Str} {M:MM} {Q:UIt->MM->Prop}:ItXS (.p (.str z)) M Q=Q (itX z) M:=propext ⟨fun⟨_,e,h⟩=>by cases e; exact h,fun h=>⟨z,rfl,h⟩⟩
theorem vU {z:Str} {M:MM} {ug:UG} {ut:UT} {ue:UE} {Q:UK} {ρ0:UEnv} (hz:z.cps.size<=sizeLine) (Iv:Nat->List T->MM->Prop) (h0:Iv 0 [] M) (hs:∀(i c:Nat) acc M2,z.cps.toList[i]?=some c->acc.length<=i->Iv i acc M2->ug (.p (.str ⟨#[c]⟩)) ρ0 M2 fun ρ4 M4=>ut ρ4 M4 fun b M5=>if b=true then ue ρ4 M5 fun z M6=>∃t,z=.p t/\Iv (i+1) (acc++[t]) M6 else Iv (i+1) acc M5) (hd:∀acc M2,Iv z.cps.size acc M2->Q (.p (.lst acc)) M2):QC (itX z) ug ut ue ρ0 M Q :=
 ⟨hz,Iv,h0,fun i acc M2 hi ha h=>⟨trivial,fun u hu=>by
  obtain⟨c,hc,rfl⟩:=hu
  exact hs i c acc M2 hc ha h⟩,fun acc M2 h=>⟨trivial,hd acc M2 h⟩⟩
end
section
variable {X:Cx} {pins:List (Addr×Obj)} {σ:St} {H:Hp} {s:Shared}
def entD (P:Params) (e:Str×Tok×Value):DictEntry:=⟨PyData.keyHash P e.1, .str e.1 e.2.1,e.2.2⟩
structure KDi (K:PySem.W.Frag) (w:World) (mg:Str->Option Value) (nm:Str) (a:Addr) (kvs:List (Str×V)):Prop where
 g:mg nm=some (.ref a)
 ex:∃(rows:List (Str×Tok×Value)) (ep:Nat),K.lookup a=some ⟨.type "dict", none, .dict ((rows.map (entD w.params)).toArray) ep, #[]⟩/\(rows.map (·.1)).Nodup/\Paired (fun(kv:Str×V) (r:Str×Tok×Value)=>kv.1=r.1/\RelV kv.2 r.2.2) kvs rows
def keyR (r:Str×Tok×Value):Key×Value:=(.inr r.1,r.2.2)
theorem J0 {prog:Program} {w:World}:∀rows:List (Str×Tok×Value),Pairs (qF prog w) (rows.map (entD w.params)) (rows.map keyR)
 | []=>.nil
 |r::rows=>.cons (v6 prog w r.1 r.2.1) rfl (J0 rows)
theorem keys_D {prog:Program} {w:World} (rows:List (Str×Tok×Value)):KeysOf (qF prog w) (rows.map (entD w.params)).toArray:=fun e he=>by
 obtain⟨r,_,rfl⟩:=List.mem_map.mp (List.mem_toArray.mp he)
 exact⟨.inr r.1,v6 prog w r.1 r.2.1,rfl⟩
theorem nodup_D:∀{rows:List (Str×Tok×Value)},(rows.map (·.1)).Nodup->((rows.map keyR).map (·.1)).Nodup:=fun {rows} h=>by
 rw[List.map_map]
 have e:((fun x=>x.1) ∘ keyR)=(fun x:Str=>(Sum.inr x:Key)) ∘ (fun r:Str×Tok×Value=>r.1):=rfl
 rw[e, <-List.map_map]
 exact List.Pairwise.map _ (fun a b hab z=>hab (Sum.inr.inj z)) h
theorem look_D {k:Str} {v:V}:∀{kvs:List (Str×V)} {rows:List (Str×Tok×Value)},Paired (fun(kv:Str×V) (r:Str×Tok×Value)=>kv.1=r.1/\RelV kv.2 r.2.2) kvs rows->kvs.lookup k=some v->∃u,valueAt (rows.map keyR) (.inr k:Key)=some u/\RelV v u
 |_,_, .nil,e=>by simp at e
 | (a,b)::kvs,r::rows, .cons ⟨e1,e2⟩ q,e=>by
  have e1:a=r.1:=e1
  subst e1
  by_cases h:k=r.1
  ·subst h
   rw[List.lookup_cons,beq_self_eq_true] at e
   cases e
   exact⟨r.2.2,by simp[valueAt,keyR],e2⟩
  ·rw[List.lookup_cons,beq_false_of_ne h] at e
   obtain⟨u,h1,h2⟩:=look_D q e
   refine⟨u, ?_,h2⟩
   unfold valueAt at h1 ⊢
   rw[List.map_cons,List.find?_cons_of_neg]
   ·exact h1
   ·intro z
    exact h (Sum.inr.inj (of_decide_eq_true z)).symm
theorem kd_at {nm:Str} {a:Addr} {kvs:List (Str×V)} (D:KDi X.K X.w X.mg nm a kvs) (I:Inv X pins σ H s):∃rows:List (Str×Tok×Value),s.heap.DictOf (qF X.prog X.w) a (rows.map keyR)/\Paired (fun(kv:Str×V) (r:Str×Tok×Value)=>kv.1=r.1/\RelV kv.2 r.2.2) kvs rows:=by
 obtain⟨rows,ep,h1,h2,h3⟩:=D.ex
 exact⟨rows,⟨_,_,ep,I.kIn a _ h1,⟨rfl,rfl,rfl⟩,rfl,keys_D rows,by simpa using J0 rows,nodup_D h2⟩,h3⟩
def tKD (kvs:List (Str×V)) (ty:TE):TE:=fun σ H Q=>ty σ H fun y H1=>∃k v,y=.str k/\kvs.lookup k=some v/\Q v H1
theorem pe_kd {nm:Str} {a:Addr} {kvs:List (Str×V)} {i:Expr} {ty:TE} {p pos:Pos} (D:KDi X.K X.w X.mg nm a kvs) (hg:Gl X nm) (hi:PE X i ty) (hs:NoSl i) (hd:(nm==("__debug__" : Str))=false:=by decide):PE X (.Subscript (.Name nm p) i pos) (tKD kvs ty):=by
 intro pins s σ H Q I h
 refine Jt PySem.F.slot_dict_getitem.lookup hs (xD I hg D.g (thn (hi pins s σ H _ I h) fun iv s2 ⟨y,H2,I2,ry,k,v,ey,e,q2⟩=>?_) hd)
 subst ey
 obtain⟨rows,dd,hp⟩:=kd_at D I2
 obtain⟨u,hu,ru⟩:=look_D hp e
 exact⟨dd.typeIs,wpAny_getItem_of (XZ (k:=.inr k) ry) dd.mapOf hu ⟨v,H2,I2.tok _,ru,q2⟩⟩
theorem qe_kd {nm:Str} {a:Addr} {kvs:List (Str×V)} {i:Expr} {ty:TE} {p pos:Pos} (D:KDi X.K X.w X.mg nm a kvs) (hg:Gl X nm) (hi:QE X i ty) (hs:NoSl i) (hd:(nm==("__debug__" : Str))=false:=by decide):QE X (.Subscript (.Name nm p) i pos) (tKD kvs ty):=⟨pe_kd D hg hi.h hs hd⟩
end
mutual
def toD:T->PyData
 |.non=>.none
 |.bl b=>.bool b
 |.int i=>.int i
 |.str x=>.str x
 |.tup xs=>.tuple (toDs xs)
 |.lst xs=>.list (toDs xs)
def toDs:List T->List PyData
 | []=>[]
 |x::xs=>toD x::toDs xs
end
mutual
theorem noD:∀t:T,(toD t).hasDict=false
 |.non=>rfl
 |.bl _=>rfl
 |.int _=>rfl
 |.str _=>rfl
 |.tup xs=>noDs xs
 |.lst xs=>noDs xs
theorem noDs:∀ts:List T,PyData.hasDictAll (toDs ts)=false
 | []=>rfl
 |x::xs=>by show((toD x).hasDict||PyData.hasDictAll (toDs xs))=false; rw[noD x,noDs xs]; rfl
end
section
variable {X:Cx} {pins:List (Addr×Obj)} {σ:St} {H:Hp} {s:Shared}
theorem zF {h:Heap}:∀{vs:List V} {ts:List T} {us:List Value},Vals vs us->vs.length=ts.length->(∀(i:Nat) v t,vs[i]?=some v->ts[i]?=some t->∀u,RelV v u->∃as,Reads h u (toD t) as)->∃as,ReadsAll h us (toDs ts) as
 | [], [],_, .nil,_,_=>⟨_, .nil⟩
 |v::vs,t::ts,_, .cons r q,hl,ih=>by
  obtain⟨as,h1⟩:=ih 0 v t rfl rfl _ r
  obtain⟨bs,h2⟩:=zF q (by simpa using hl) fun i v t e1 e2=>ih (i+1) v t (by simpa using e1) (by simpa using e2)
  exact⟨_, .cons h1 h2⟩
theorem kQ {A:Addr->Prop} {v:V} {t:T} (I:Inv X pins σ H s) (r:RepT A H v t):∀u,RelV v u->∃as,Reads s.heap u (toD t) as:=by
 induction r with
 |non=>intro u e; cases e; exact⟨_, .none⟩
 |bl b=>intro u e; cases e; exact⟨_, .bool b⟩
 |int i=>intro u e; obtain⟨t,rfl⟩:=e; exact⟨_, .int i t⟩
 |str x=>intro u e; obtain⟨t,rfl⟩:=e; exact⟨_, .str x t⟩
 |tup na e l r ih =>
  intro u eu
  cases eu
  obtain⟨its,rv,⟨o,h1,h2,n,h3⟩,_⟩:=I.tuple (SqT.of e)
  obtain⟨as,q⟩:=zF (h:=s.heap) rv l ih
  exact⟨_, .tuple h1 h2 h3 (by simpa using q)⟩
 |lst na e l r ih =>
  intro u eu
  cases eu
  obtain⟨its,rv,pl,_⟩:=I.list (SqL.of e)
  obtain⟨o,h1,h2,n,h3⟩:=pl.isList
  obtain⟨as,q⟩:=zF (h:=s.heap) rv l ih
  exact⟨_, .list h1 h2 h3 (by simpa using q)⟩
structure ShowT (t:T):Prop where
 sh:(toD t).showable=true
 dp:(toD t).depth<=60
 sz:(toD t).shown.length<=sizeLine
def rRepr:List V->Hp->VK->Prop:=fun xs H Q=>∃(A:Addr->Prop) (v:V) (t:T),xs=[v]/\RepV A H v t/\ShowT t/\Q (.str (toD t).shown) H
theorem call_repr (hg:X.A.guards=some []) (hu:X.A.units+64<cLine):zd X (.builtin "repr") rRepr:=by
 intro pins s σ H xs us Q I r h
 obtain⟨A,v,t,rfl,rv,ok,q⟩:=h
 obtain⟨u,rfl,ru⟩:=xA r
 have big:∀(a:Addr) (as:List Addr),Reads s.heap (.ref a) (toD t) as->wpAny (model X.prog X.w) X.A (call (.builtin "repr") [.ref a]) (EP X pins σ Q) X.xe s:=fun a as rd =>
  repr_of_reads' rd ok.sh (PyData.noDict_hsm (noD t)) hg (by have:=ok.dp; omega) (fun _ _ e=>e) (fun h' u tk hk=>⟨.str _,H,I.kept (t':=tk) hk,⟨_,rfl⟩,q⟩) ok.sz
 cases rv with
 |of r =>
  obtain⟨as,rd⟩:=kQ I r u ru
  cases r with
  |non=>cases ru; exact PySem.P.repr_of_none ⟨.str _,H,I.tok _,⟨_,rfl⟩,q⟩
  |bl b=>cases ru; exact PySem.P.repr_of_bool ⟨.str _,H,I.tok _,⟨_,rfl⟩,q⟩
  |int i =>
   obtain⟨t,rfl⟩:=ru
   exact PySem.P.repr_of_int (of_decide_eq_true ok.sh) ⟨.str _,H,I.tok _,⟨_,rfl⟩,q⟩
  |str x =>
   obtain⟨t,rfl⟩:=ru
   exact PySem.P.repr_of_str ⟨.str _,H,I.tok _,⟨_,rfl⟩,q⟩ ok.sz
  |tup=>cases ru; exact big _ _ rd
  |lst=>cases ru; exact big _ _ rd
 |lst e rr =>
  cases ru
  obtain⟨its,rv,pl,_⟩:=I.list (SqL.of e)
  obtain⟨o,h1,h2,n,h3⟩:=pl.isList
  obtain⟨as,q⟩:=zF (h:=s.heap) rv rr.len fun i v t e1 e2=>kQ I (Paired.get2 rr e1 e2)
  exact big _ _ (.list h1 h2 h3 (by simpa using q))
 |tup e rr =>
  cases ru
  obtain⟨its,rv,⟨o,h1,h2,n,h3⟩,_⟩:=I.tuple (SqT.of e)
  obtain⟨as,q⟩:=zF (h:=s.heap) rv rr.len fun i v t e1 e2=>kQ I (Paired.get2 rr e1 e2)
  exact big _ _ (.tuple h1 h2 h3 (by simpa using q))
def sRepr:List T->(T->Prop)->Prop:=fun ts Q=>∃t,ts=[t]/\ShowT t/\Q (.str (toD t).shown)
theorem cbl_repr:CbL rRepr sRepr:=fun A ι H M vs ts Qs Q w r ⟨t,e,ok,q⟩ k=>by
 subst e
 obtain⟨v,ev,r1⟩:=pv1 r
 subst ev
 exact⟨_,v,t,rfl,r1,ok,k _ ι _ H (.refl _ _) w (.str _) q⟩
theorem rd_repr {t:T} {Q:T->Prop}:sRepr [t] Q=(ShowT t/\Q (.str (toD t).shown)):=propext ⟨fun⟨_,e,h⟩=>by cases e; exact h,fun h=>⟨t,rfl,h⟩⟩
theorem b_repr:bootBuiltins "repr" = some (.builtin "repr"):=by decide +kernel
end
section
variable {A:Addr->Prop} {H H':Hp} {ι ι':List Addr} {M:MM} {te:TE} {tt:TT} {ue:UE} {ut:UT} {n:Nat} {ul:UA} {ua ub:UE}
theorem Wd.takeA {p:Addr} {ys:List V} {ts:List T} (w:Wd (fun x=>A x\/x=p) ι H M) (ha:¬A p) (hp:H p=some (.lst ys)) (r:RepTs (Av (fun x=>A x\/x=p) ι) H ys ts):Wd A (ι++[p]) H (M++[.lst (ts.map U.p)])/\p∉ι:=by
 have np:p∉ι:=fun z=>w.na p z (.inr rfl)
 have hl:Lea (fun x=>A x\/x=p) ι H A (ι++[p]) H:=⟨⟨[p],rfl⟩,fun x o hx e=>⟨e,fun z=>hx (z.elim (fun z=>.inl (.inl z)) fun z=>(List.mem_append.mp z).elim .inr fun z=>.inl (.inr (List.mem_singleton.mp z)))⟩,fun x fs hx e=>⟨fun z=>(List.mem_append.mp z).elim hx fun z=>(by rw[List.mem_singleton.mp z,hp] at e; cases e),e⟩⟩
 refine⟨⟨List.nodup_append.mpr ⟨w.nd,by simp,fun a ha b hb=>by rw[List.mem_singleton.mp hb]; exact fun z=>np (by rw[<-z]; exact ha)⟩,by simp[w.len],fun x hx=>w.dom x (.inl hx),fun x hx z=>?_,fun k a ob e1 e2=>?_⟩,np⟩
 ·rcases List.mem_append.mp hx with h|h
  ·exact w.na x h (.inl z)
  ·rw[List.mem_singleton.mp h] at z; exact ha z
 ·by_cases hk:k<ι.length
  ·rw[List.getElem?_append_left hk] at e1
   rw[List.getElem?_append_left (by rw[<-w.len]; exact hk)] at e2
   have q:=w.obj k a ob e1 e2
   cases ob with
   |lst=>obtain⟨vs,e,q⟩:=q; exact⟨vs,e,Paired.mapP q fun _ _ q=>q.lea hl⟩
   |tup=>obtain⟨vs,e,q⟩:=q; exact⟨vs,e,Paired.mapP q fun _ _ q=>q.lea hl⟩
   |ins =>
    obtain⟨dx,gs,e,ed,nd,q⟩:=q
    refine⟨dx,gs,e,ed,fun z=>?_,Paired.mapP q fun _ _ q=>⟨q.1,q.2.lea hl⟩⟩
    rcases List.mem_append.mp z with z|z
    ·exact nd z
    ·rw[List.mem_singleton.mp z,hp] at ed; cases ed
   |dK=>obtain⟨gs,e,q⟩:=q; exact⟨gs,e,Paired.mapP q fun _ _ q=>⟨q.1,q.2.lea hl⟩⟩
  ·have hk2:=(List.getElem?_eq_some_iff.mp e1).1
   rw[List.length_append,List.length_singleton] at hk2
   have:k=ι.length:=by omega
   subst this
   rw[List.getElem?_append_right (Nat.le_refl _),Nat.sub_self] at e1
   rw[w.len,List.getElem?_append_right (Nat.le_refl _),Nat.sub_self] at e2
   simp at e1 e2
   subst e1 e2
   exact⟨ys,hp,RepTs.ups (Paired.mapP r fun _ _ q=>q.mono hl.av)⟩
theorem Le.pushed {p:Addr} (l:Le ι H ι' H') (h:H p=none) (_:p∉ι'):Le ι H (ι'++[p]) H':=by
 obtain⟨m,rfl,hm⟩:=l.ext
 refine⟨⟨m++[p],by rw[List.append_assoc],fun x hx=>?_⟩,l.fr,l.al⟩
 rcases List.mem_append.mp hx with z|z
 ·exact hm x z
 ·rw[List.mem_singleton.mp z]; exact h
def UCompN (it:UIt) (ug:UG) (ut:UT) (ue:UE) (ρ0:UEnv) (M1:MM) (Q:UK):Prop:=it.n<=sizeLine/\∃Iv:Nat->List T->MM->Prop,Iv 0 [] M1 /\
 (∀i acc M2,i<it.n->acc.length<=i->Iv i acc M2->it.ok M2/\∀u,it.item i u->ug u ρ0 M2 fun ρ4 M4=>ut ρ4 M4 fun b M5=>if b=true then ue ρ4 M5 fun z M6=>∃t,z=.p t/\Iv (i+1) (acc++[t]) M6 else Iv (i+1) acc M5) /\
 (∀acc M2,Iv it.n acc M2->it.ok M2/\Q (.m M2.length) (M2++[.lst (acc.map U.p)]))
def Jk (ui:UI) (bs:List Bool) (n:Nat) (ug:UG) (ut:UT) (ue:UE):UE:=fun ρ M Q=>ui ρ M fun it M1=>ρ.length=bs.length/\UCompN it ug ut ue (Qg bs n ρ) M1 Q
theorem le_compN {wi:TI} {ui:UI} {bs:List Bool} {g:TG} {ug:UG} (hi:LI wi ui) (hg:LGx bs n g ug) (ht:LT tt ut) (he:LE te ue):LE (xu wi bs n g tt te) (Jk ui bs n ug ut ue):=by
 intro A ι σ H ρ M Qu Q w e q k
 refine hi A ι σ H ρ M _ _ w e q fun it M1 ι1 J H1 l1 w1 hJ q1 acc hacc=>?_
 obtain⟨hlen,hsz,Iv,I0,It,Id⟩:=q1
 have hσ:σ.length=bs.length:=by rw[<-hlen]; exact e.len
 have e1:=e.le l1
 have na:¬Av A ι1 acc:=w1.nA hacc
 have key:∀ι2 H2,Le ι1 H1 ι2 H2->(∀x∈ι2,¬(A x\/x=acc))->Lea A ι1 H1 (fun x=>A x\/x=acc) ι2 H2:=fun ι2 H2 l h=>by
  refine⟨let⟨n,e,_⟩:=l.ext; ⟨n,e⟩,fun x o hx ex=>?_,l.xd⟩
  obtain⟨a1,a2⟩:=l.av hx ex
  refine⟨a1,fun z=>?_⟩
  rcases z with(z|z)|z
  ·exact a2 (.inl z)
  ·rw[z,hacc] at ex; cases ex
  ·exact a2 (.inr z)
 refine⟨fun i m H2=>m=it.n-i/\i<=it.n/\∃ι2 M2 at' ys,Le ι1 H1 ι2 H2/\Wd (fun x=>A x\/x=acc) ι2 H2 M2/\H2 acc=some (.lst ys)/\RepTs (Av (fun x=>A x\/x=acc) ι2) H2 ys at'/\at'.length<=i/\Iv i at' M2,
  ⟨it.n,by simp,Nat.zero_le _,ι1,M1, [], [], .fresh hacc,w1.addA hacc,upd_same, .nil,Nat.le_refl _,I0⟩, ?_⟩
 rintro i m H2 ⟨rfl,hin,ι2,M2,at',ys,l2,w2,hys,rys,hat,I2⟩
 have lea:=key ι2 H2 l2 w2.na
 by_cases hlt:i<it.n
 ·obtain⟨ok,step⟩:=It i at' M2 hlt hat I2
  obtain⟨jgo,jy⟩:=(hJ _ ι2 H2 M2 i lea w2 ok).1 hlt
  refine .inr ⟨jgo,fun H'=>∃ι2 M2 at' ys,Le ι1 H1 ι2 H'/\Wd (fun x=>A x\/x=acc) ι2 H' M2/\H' acc=some (.lst ys)/\RepTs (Av (fun x=>A x\/x=acc) ι2) H' ys at'/\at'.length<=i+1/\Iv (i+1) at' M2,fun H' h=>⟨it.n-(i+1),by omega,rfl,hlt,h⟩,fun x H3 y=>?_⟩
  obtain⟨u,hu,l3,w3,r3⟩:=jy x H3 y
  have l13:=l2.trans l3
  have nacc:∀{ι':List Addr} {H':Hp} {M':MM},Wd (fun x=>A x\/x=acc) ι' H' M'->acc∉ι':=fun w z=>w.na acc z (.inr rfl)
  have ys3:H3 acc=some (.lst ys):=l3.fr _ _ hys (nacc w2)
  have env3:EnvR (fun x=>A x\/x=acc) ι2 H3 (vD bs n σ) (Qg bs n ρ):=(e1.mask).lea (key ι2 H3 l13 w3.na)
  refine hg _ ι2 σ H3 _ M2 x u _ _ hσ w3 env3 r3 (step u hu) fun ρ4 σ4 e4 x4 len4 q4=>⟨⟨x4,len4⟩, ?_⟩
  refine ht _ ι2 σ4 H3 ρ4 M2 _ _ w3 e4 q4 fun b M5 ι5 H5 l5 w5 q5=>?_
  have ys5:H5 acc=some (.lst ys):=l5.fr _ _ ys3 (nacc w3)
  have rys5:RepTs (Av (fun x=>A x\/x=acc) ι5) H5 ys at':=Paired.mapP rys fun _ _ q=>(q.le l3).le l5
  cases b with
  |false=>exact⟨ι5,M5,at',ys,l13.trans l5,w5,ys5,rys5,Nat.le_succ_of_le hat,q5⟩
  |true =>
   refine he _ ι5 σ4 H5 ρ4 M5 _ _ w5 (e4.le l5) q5 fun z M6 ι6 zv H6 l6 w6 r6 q6=>?_
   obtain⟨t,rfl,q6⟩:=q6
   have ys6:H6 acc=some (.lst ys):=l6.fr _ _ ys5 (nacc w5)
   refine⟨ys,ys6, ?_,ι6,M6,at'++[t],ys++[zv],((l13.trans l5).trans l6).updF hacc,(w6.updA (.inr rfl) ys6).2,upd_same, ?_,by rw[List.length_append,List.length_singleton]; omega,q6⟩
   ·rw[rys.len]; omega
   ·have hl:=(w6.updA (o:=.lst (ys++[zv])) (.inr rfl) ys6).1
    cases r6 with
    |p r6=>exact Paired.app (Paired.mapP rys5 fun _ _ q=>(q.le l6).mono hl.av) (.cons (r6.mono hl.av) .nil)
 ·have ei:i=it.n:=by omega
  subst ei
  obtain⟨ok,fin⟩:=Id at' M2 I2
  obtain⟨w3,l3⟩:=w2.takeA (fun z=>na (.inl z)) hys rys
  exact .inl ⟨(hJ _ ι2 H2 M2 _ lea w2 ok).2 rfl,k _ _ (ι2++[acc]) _ H2 (l1.trans (l2.pushed hacc l3)) w3 (.m (by rw[<-w2.len]; exact xR)) fin⟩
theorem ce_compN {wi:TI} {ui:UI} {bs:List Bool} {g:TG} {ug:UG} (hi:ZI wi ui) (hg:ZX bs n g ug) (ht:ZT tt ut) (he:ZE te ue):ZE (xu wi bs n g tt te) (Jk ui bs n ug ut ue):=⟨le_compN hi.h hg.h ht.h he.h⟩
def LiN (us:List U) (M:MM) (Q:UK):Prop:=∃x ys,us=[x]/\(qV M x=some ys\/vi M x=some ys)/\Q (.m M.length) (M++[.lst ys])
def Zv (ul:UA):UE:=fun ρ M Q=>ul ρ M fun us M1=>LiN us M1 Q
def Zy (G:List T->(T->Prop)->Prop) (ul:UA):UE:=fun ρ M Q=>ul ρ M fun us M1=>∃ts,frzs (frzN 6 M1) us=some ts/\G ts fun t=>(∃x,vt t=some x)/\Q (.p t) M1
def Me0S (s:List U->List U->(U->List U->Prop)->Prop) (o:U) (M:MM) (Q:UK):Prop:=∃k us,o=.m k/\M[k]?=some (.lst us)/\s us [] fun z us'=>Q z (M.set k (.lst us'))
def uMe0 (s:List U->List U->(U->List U->Prop)->Prop) (uo:UE):UE:=fun ρ M Q=>uo ρ M fun o M1=>Me0S s o M1 Q
def uCmpT (neg:Bool) (ua ub:UE):UE:=fun ρ M Q=>ua ρ M fun x M1=>ub ρ M1 fun y M2=>∃a b,frzN 6 M2 x=some a/\frzN 6 M2 y=some b/\sEqTu neg a b fun t=>Q (.p t) M2
end
theorem Inv.ledgerL {X:Cx} {pins:List (Addr×Obj)} {σ:St} {H:Hp} {s:Shared} (I:Inv X pins σ H s):∃m,Fr h00 X.env.locals s.heap m/\News h00 X.env.locals s.heap (kz s.heap X.env.locals) /\
  ∀(h':Heap) (tk:Nat) (D:Addr) (o:HO),Fr h00 X.env.locals h' m->News h00 X.env.locals h' (kz s.heap X.env.locals)->s.heap.objs.size<=D->ObjOk X.prog X.w (upd H D o) h' D o->Inv X pins σ (upd H D o) { s with heap:=h',toks:=tk }:=by
 obtain⟨m,hn,_⟩:=I.loc
 refine⟨m,⟨hn,fun b o e=>(by rw[Qi] at e; cases e),Nat.zero_le _⟩,Ki,fun h' tk D o F W hD new=>?_⟩
 have hf:=I.hok.fresh hD
 have na:∀b u,s.heap.get? b=some u->b≠D:=fun b u q z=>by
  have:=Heap.lt_size q
  subst z
  exact absurd (Nat.lt_of_lt_of_le this hD) (Nat.lt_irrefl _)
 have kp:∀b o,b≠X.env.locals->s.heap.get? b=some o->h'.get? b=some o:=fun b o n e=>(W _ (Z4 e n)).1
 refine I.step (ch:=[]) (fun b hb=>nomatch hb) (fun b o n _ _ e _=>kp b o n e) (fun b o n _ _ e _=>⟨o.slots,kp b o n e⟩) (fun b u _ q z=>by rw[upd_ne (na b u q)]; exact z) (fun b o _ e=>?_) (fun b xs q=>qX hf q) (fun b _ _ q=>qX hf q) (fun b ps q=>⟨#[],by rw[qX hf q]; simp⟩) (fun m' hm'=>?_) (fun a u e=>?_) I.bare
 ·by_cases n:b=X.env.locals
  ·subst n
   obtain⟨o',_,_,e',_⟩:=F.ns
   exact⟨o',e'⟩
  ·exact⟨o,kp b o n e⟩
 ·have:m'=m:=funext fun x=>by
   obtain⟨o,es,ep,e1,e2,e3,e4⟩:=hm'
   obtain⟨o',es',ep',f1,f2,f3,f4⟩:=hn
   rw[e1] at f1; cases f1
   rw[e2] at f2; cases f2
   rw[<-e4, <-f4]
  rw[this]
  exact F.ns
 ·by_cases ha:a=D
  ·subst ha; rw[upd_same] at e; cases e; exact new
  ·rw[upd_ne ha] at e
   refine(I.hok a u e).stay (fun b v hb q=>kp b v ?_ q) (fun _ q=>qX hf q) fun _ _ q=>qX hf q
   intro z
   subst z
   have:=I.free
   rcases hb with hb|hb
   ·subst hb; rw[e] at this; cases this
   ·rw[hb] at this; cases this
section
variable {X:Cx}
def rStrX:List V->Hp->VK->Prop:=fun xs H Q=>(∃i:Int,xs=[.int i]/\i.natAbs.log2<1920/\Q (.str (Str.ofString (toString i))) H)\/∃z:Str,xs=[.str z]/\Q (.str z) H
theorem Yn:zd X (.type "str") rStrX:=by
 intro pins s σ H xs us Q I r h
 rcases h with⟨i,rfl,hz,q⟩|⟨z,rfl,q⟩
 ·obtain⟨u,rfl,t,rfl⟩:=xA r
  exact PySem.P.str_of_int hz ⟨.str _,H,I.tok _,⟨_,rfl⟩,q⟩
 ·obtain⟨u,rfl,t,rfl⟩:=xA r
  exact PySem.P.str_of_str ⟨.str _,H,I,⟨_,rfl⟩,q⟩
def sStrX:List T->(T->Prop)->Prop:=fun ts Q=>(∃i:Int,ts=[.int i]/\i.natAbs.log2<1920/\Q (.str (Str.ofString (toString i))))\/∃z:Str,ts=[.str z]/\Q (.str z)
theorem cbl_strX:CbL rStrX sStrX:=fun A ι H M vs ts Qs Q w r h k=>by
 rcases h with⟨i,e,hz,q⟩|⟨z,e,q⟩
 ·subst e
  obtain⟨v,ev,r1⟩:=pv1 r
  subst ev
  cases r1.int_inv
  exact .inl ⟨i,rfl,hz,k _ ι _ H (.refl _ _) w (.str _) q⟩
 ·subst e
  obtain⟨v,ev,r1⟩:=pv1 r
  subst ev
  cases r1.str_inv
  exact .inr ⟨z,rfl,k _ ι _ H (.refl _ _) w (.str _) q⟩
theorem Ju:∀{l:List (Str×Tok)} {zs:List Str},l.map (·.1)=zs->Vals (xB zs) (strValues l)
 | [],_,rfl=>.nil
 | (z,t)::l,_,rfl=>.cons ⟨t,rfl⟩ (Ju rfl)
def JL:V->List V->Hp->VK->Prop:=fun x xs H Q=>∃y c zs,x=.str y/\xs=[.str ⟨#[c]⟩]/\Txt.split y ⟨#[c]⟩=zs/\y.length+2<=sizeLine/\∀l,H l=none->Q (.ref l) (upd H l (.lst (xB zs)))
theorem xk:MtR X "str.split" JL:=by
 intro pins s σ H x xs v us Q I rx r h
 obtain⟨y,c,zs,rfl,rfl,ez,hz,q⟩:=h
 obtain⟨t,rfl⟩:=rx
 obtain⟨u,rfl,t',rfl⟩:=xA r
 obtain⟨m,F,W,fin⟩:=I.ledgerL
 have hw:=split_weight y ⟨#[c]⟩ (Nat.le_refl 1)
 rw[ez] at hw
 refine splitN1A F W rfl (fun l h' k e _ _ il F' W'=>?_) hz
 rw[ez] at e
 refine⟨.ref s.heap.objs.size,_,fin h' k _ _ F' (fun q hq=>W' q (.tail _ hq)) (Nat.le_refl _) (show ObjOk X.prog X.w _ h' _ (.lst (xB zs)) from ?_),rfl,q _ (I.hok.fresh (Nat.le_refl _))⟩
 refine⟨?_,strValues l,0,Ju e,(W' _ (.head _)).1⟩
 unfold xB
 rw[List.length_map]
 omega
def sSplit:Str->List T->(T->Prop)->Prop:=fun y ts Q=>∃(c:Nat) (zs:List Str),ts=[.str ⟨#[c]⟩]/\Txt.split y ⟨#[c]⟩=zs/\y.length+2<=sizeLine/\Q (.lst (zs.map T.str))
theorem jK {A:Addr->Prop} {H:Hp}:∀zs:List Str,RepTs A H (xB zs) (zs.map T.str)
 | []=>.nil
 |z::zs=>.cons (.str z) (jK zs)
theorem zN:MbL JL sSplit:=fun A ι H M y vs ts Qs Q w r ⟨c,zs,e,ez,hz,q⟩ k=>by
 subst e
 obtain⟨v,ev,r1⟩:=pv1 r
 subst ev
 cases r1.str_inv
 exact⟨y,c,zs,rfl,rfl,ez,hz,fun l hl=>k _ ι _ _ (.fresh hl) (w.fresh hl) (zp w hl (jK zs)) q⟩
end
theorem join_cps {y:Str}:∀{l:List Str} {a:Str},(Txt.join y (a::l)).cps.toList=a.cps.toList++(l.map fun z=>y.cps.toList++z.cps.toList).flatten:=fun {l a}=>by
 show(Builtin.Str.glued y (a::l)).cps.toList=_
 rw[StrLaws.glued_eq_join]
 induction l generalizing a with
 |nil=>show a.cps.toList=_; simp
 |cons b l ih =>
  show(a++y++Str.join y (b::l)).cps.toList=_
  rw[Str.cps_append,Str.cps_append,Array.toList_append,Array.toList_append,ih]
  simp
theorem KI {c:Nat} {y:Str} (hy:c∉y.cps.toList):∀{l:List Str},(∀z∈l,c∉z.cps.toList)->c∉(Txt.join y l).cps.toList
 | [],_=>by show c∉(Builtin.Str.glued y []).cps.toList; rw[StrLaws.glued_eq_join]; show c∉Str.empty.cps.toList; simp[Str.empty]
 |a::l,h=>by
  rw[join_cps]
  intro z
  rcases List.mem_append.mp z with z|z
  ·exact h a (by simp) z
  ·obtain⟨w,hw,z⟩:=List.mem_flatten.mp z
   obtain⟨x,hx,rfl⟩:=List.mem_map.mp hw
   rcases List.mem_append.mp z with z|z
   ·exact hy z
   ·exact h x (by simp[hx]) z
theorem Vi {y:Str}:∀{l:List Str},(Txt.join y l).length<=(l.map (·.length)).sum+l.length*y.length
 | []=>by show(Builtin.Str.glued y []).length<=_; rw[StrLaws.glued_eq_join]; exact Nat.zero_le _
 |a::l=>by
  show(Builtin.Str.glued y (a::l)).length<=_
  rw[StrLaws.glued_eq_join,PyProof.Rows.len_join_cons]
  simp only[List.map_cons,List.sum_cons,List.length_cons,Nat.add_mul]
  omega
structure Nx (P:Program) (w:World) (it:Addr) (rd:List Addr) (st:Nat->Heap->Prop) (n:Nat) (yl:Nat->Value->Prop):Prop where
 keep:∀i h h',st i h->(∀c∈rd,∀o,h.get? c=some o->h'.get? c=some o)->st i h'
 here:∀i h,st i h->∃o,h.get? it=some o
 mem:it∈rd
 item:∀(A:Around) (E:Value->Shared->Prop) (s:Shared) (i:Nat) (Q:Value->Shared->Prop),st i s.heap->i<n->(∀h' x tk,yl i x->st (i+1) h'->Heap.SameBut it s.heap h'->Q x { s with heap:=h',toks:=tk })->wpAny (model P w) A (Builtin.SmallTypes.nextOf (.ref it)) Q E s
 fin:∀(A:Around) (E:Value->Shared->Prop) (s:Shared) (i:Nat) (Q:Value->Shared->Prop),A.handled=none->st i s.heap->n<=i->(∀h' e,Heap.ExtBut it s.heap h'->(∃o,h'.get? e=some o/\o.cls=.type "StopIteration")->E (.ref e) { s with heap:=h' })->wpAny (model P w) A (Builtin.SmallTypes.nextOf (.ref it)) Q E s
section
variable {P:Program} {w:World} {A:Around} {E:Value->Shared->Prop} {s:Shared}
theorem nx_list {it l:Addr} {vs:List Value} (ne:l≠it):Nx P w it [it,l] (fun i h=>h.IsListIter it l i/\h.IsList l vs.toArray) vs.length (fun i x=>vs[i]?=some x) where
 keep:=fun i h h' st k=>⟨st.1.at fun o e=>k it (by simp) o e,st.2.at fun o e=>k l (by simp) o e⟩
 here:=fun i h st=>let⟨⟨o,e,_⟩,_⟩:=st; ⟨o,e⟩
 mem:=by simp
 item:=fun A E s i Q st hi q=>wpAny_nextOf_list_item (x:=vs[i]) st.1 st.2 (by simp[hi]) fun h' a b=>q h' _ s.toks (List.getElem?_eq_getElem hi) ⟨a,st.2.extBut b.extBut ne⟩ b
 fin:=fun A E s i Q hh st hx q=>wpAny_nextOf_list_end hh st.1 st.2 (by simpa using hx) q
theorem next_tup {it t:Addr} {i:Nat} {items:Array Value} {x:Value} {Q:Value->Shared->Prop} (hi:s.heap.IsTupleIter it t i) (ht:s.heap.IsTuple t items) (hx:items[i]?=some x) (q:∀h',h'.IsTupleIter it t (i+1)->Heap.SameBut it s.heap h'->Q x { s with heap:=h' }) :
  wpAny (model P w) A (Builtin.SmallTypes.nextOf (.ref it)) Q E s:=by
 obtain⟨oi,e1,c1,d1⟩:=id hi
 obtain⟨ot,e2,_,nt,d2⟩:=ht
 unfold Builtin.SmallTypes.nextOf
 refine wpAny_bind (wpAny_callSpecial?_slot (name:=Str.ofString "__next__") hi.typeIs F.slot_tuple_iterator_next (wpAny_call_entry F.slot_tuple_iterator_next hi.typeIs F.entry_tuple_iterator_next ?_ (F.args_tuple_iterator_next_1 _)))
 refine(show wpAny (model P w) _ (field (.ref it) 0 >>= _) _ E s from wpAny_bind (wpAny_field e1 d1 (x:=.ref t) rfl ?_))
 have nn:¬((Value.ref t==Value.none)=true):=Bool.false_ne_true
 show wpAny (model P w) _ (if(Value.ref t==Value.none)=true then _ else _) _ E s
 rw[if_neg nn]
 refine(show wpAny (model P w) _ (field (.ref it) 1 >>= _) _ E s from wpAny_bind (wpAny_field e1 d1 (x:=.int i 0) rfl ?_))
 refine(show wpAny (model P w) _ (seqItems? (.ref t) >>= _) _ E s from wpAny_bind (wpAny_seqItems e2 d2 ?_))
 simp only[Int.toNat_natCast,hx]
 refine wpAny_bind (wpAny_setField e1 d1 (by simp) (wpAny_pure ⟨x,rfl,wpAny_pure (q _ ⟨_,Heap.get?_update_self _ e1 (Obj.isFreed_of_fields (Obj.data_mapFields d1 _)),(Obj.cls_mapFields ..).trans c1,by rw[Obj.data_mapFields d1]; simp[rawInt]⟩ (Heap.SameBut.update ..))⟩))
theorem Ve {it t:Addr} {i:Nat} {items:Array Value} {Q:Value->Shared->Prop} (hh:A.handled=none) (hi:s.heap.IsTupleIter it t i) (ht:s.heap.IsTuple t items) (hx:items[i]?=none) (q:∀h' e,Heap.ExtBut it s.heap h'->(∃o,h'.get? e=some o/\o.cls=.type "StopIteration")->E (.ref e) { s with heap:=h' }) :
  wpAny (model P w) A (Builtin.SmallTypes.nextOf (.ref it)) Q E s:=by
 obtain⟨oi,e1,c1,d1⟩:=id hi
 obtain⟨ot,e2,_,nt,d2⟩:=ht
 unfold Builtin.SmallTypes.nextOf
 refine wpAny_bind (wpAny_callSpecial?_slot (name:=Str.ofString "__next__") hi.typeIs F.slot_tuple_iterator_next (wpAny_call_entry F.slot_tuple_iterator_next hi.typeIs F.entry_tuple_iterator_next ?_ (F.args_tuple_iterator_next_1 _)))
 refine(show wpAny (model P w) _ (field (.ref it) 0 >>= _) _ E s from wpAny_bind (wpAny_field e1 d1 (x:=.ref t) rfl ?_))
 have nn:¬((Value.ref t==Value.none)=true):=Bool.false_ne_true
 show wpAny (model P w) _ (if(Value.ref t==Value.none)=true then _ else _) _ E s
 rw[if_neg nn]
 refine(show wpAny (model P w) _ (field (.ref it) 1 >>= _) _ E s from wpAny_bind (wpAny_field e1 d1 (x:=.int i 0) rfl ?_))
 refine(show wpAny (model P w) _ (seqItems? (.ref t) >>= _) _ E s from wpAny_bind (wpAny_seqItems e2 d2 ?_))
 simp only[Int.toNat_natCast,hx]
 refine wpAny_bind (wpAny_rule (wpAny_bind (wpAny_setField e1 d1 (by simp) ?_)))
 refine(show wpAny (model P w) _ (newExc (.type "StopIteration") [] >>= _) _ E _ from wpAny_bind ?_)
 simp only[newExc,newTuple]
 refine wpAny_bind (wpAny_newObj_type ?_ (by size_fits))
 refine wpAny_bind (m:=firstArgMember _ _) (wpAny_of_eq (a:=Value.none) (by first|rfl|(simp only[firstArgMember]; rfl)) (wpAny_newObj_type ?_ (by size_fits)))
 simp only[raiseNew]
 refine wpAny_bind (wpAny_handled ?_)
 first|rw[show A.in1.handled=none from hh]|rw[hh]
 exact wpAny_bind (wpAny_pure (wpAny_throw (q _ _ (((Heap.SameBut.update ..).extBut.push _).push _) ⟨_,Heap.get?_push_size _ rfl,rfl⟩)))
theorem nx_tup {it l:Addr} {vs:List Value} (ne:l≠it):Nx P w it [it,l] (fun i h=>h.IsTupleIter it l i/\h.IsTuple l vs.toArray) vs.length (fun i x=>vs[i]?=some x) where
 keep:=fun i h h' st k=>⟨let⟨o,e,r⟩:=st.1; ⟨o,k it (by simp) o e,r⟩,let⟨o,e,r⟩:=st.2; ⟨o,k l (by simp) o e,r⟩⟩
 here:=fun i h st=>let⟨⟨o,e,_⟩,_⟩:=st; ⟨o,e⟩
 mem:=by simp
 item:=fun A E s i Q st hi q=>next_tup (x:=vs[i]) st.1 st.2 (by simp[hi]) fun h' a b=>q h' _ s.toks (List.getElem?_eq_getElem hi) ⟨a,st.2.extBut b.extBut ne⟩ b
 fin:=fun A E s i Q hh st hx q=>Ve hh st.1 st.2 (by simpa using hx) q
structure ZA5 (z TI TO i1 i2:Addr) (rd1 rd2:List Addr):Prop where
 a:TI≠z/\TO≠z/\i1≠z/\i2≠z/\TI≠TO/\TI≠i1/\TI≠i2/\TO≠i1/\TO≠i2/\i1≠i2
 r1:z∉rd1/\TO∉rd1/\i2∉rd1
 r2:z∉rd2/\TO∉rd2/\i1∉rd2
theorem zip_it {z TI TO i1 i2:Addr} {rd1 rd2:List Addr} {st1 st2:Nat->Heap->Prop} {n1 n2:Nat} {yl1 yl2:Nat->Value->Prop} {k:Nat} {a b:Value} {Q:Value->Shared->Prop} (D:ZA5 z TI TO i1 i2 rd1 rd2) (N1:Nx P w i1 rd1 st1 n1 yl1) (N2:Nx P w i2 rd2 st2 n2 yl2)
  (hz:IsZip s.heap z TI TO .none) (hI:IsPair s.heap TI (.ref i1) (.ref i2)) (hO:IsPair s.heap TO a b) (h1:st1 k s.heap) (h2:st2 k s.heap) (hx:k<n1) (hy:k<n2)
  (q:∀h' x y tk,yl1 k x->yl2 k y->IsZip h' z TI TO (rawInt s.heap.objs.size)->IsPair h' TO x y->st1 (k+1) h'->st2 (k+1) h'->IsPair h' s.heap.objs.size x y->h'.objs.size=s.heap.objs.size+1->(∀c o,c≠z->c≠TO->c≠i1->c≠i2->s.heap.get? c=some o->h'.get? c=some o)->Q (.ref s.heap.objs.size) { s with heap:=h',toks:=tk }) :
  wpAny (model P w) A (Builtin.«zip.__next__» ⟨[.ref z], []⟩) (fun fin s'=>∃v,fin=.done (.ret v)/\Q v s') E s:=by
 obtain⟨d1,d2,d3,d4,d5,d6,d7,d8,d9,d10⟩:=D.a
 have nr1:∀{c},c∈rd1->c≠z/\c≠TO/\c≠i2:=fun hc=>⟨fun e=>D.r1.1 (e▸hc),fun e=>D.r1.2.1 (e▸hc),fun e=>D.r1.2.2 (e▸hc)⟩
 have nr2:∀{c},c∈rd2->c≠z/\c≠TO/\c≠i1:=fun hc=>⟨fun e=>D.r2.1 (e▸hc),fun e=>D.r2.2.1 (e▸hc),fun e=>D.r2.2.2 (e▸hc)⟩
 refine(show wpAny (model P w) A (field (.ref z) 2 >>= _) _ E s from wpAny_bind (wpAny_field hz rfl (x:=.bool false) rfl ?_))
 refine(show wpAny (model P w) A (field (.ref z) 3 >>= _) _ E s from wpAny_bind (wpAny_field hz rfl (x:=.ref TI) rfl (wpAny_bind (wpAny_seqItems hI rfl ?_))))
 refine(show wpAny (model P w) A (Builtin.SmallTypes.ownedTupleIsFree (.ref z) >>= _) _ E s from wpAny_bind ?_)
 unfold Builtin.SmallTypes.ownedTupleIsFree
 refine wpAny_bind (wpAny_field hz rfl (x:=.none) rfl (wpAny_pure ?_))
 simp only[if_true]
 refine wpAny_bind (wpAny_rule (wpAny_bind (wpAny_field hz rfl (x:=.ref TO) rfl (wpAny_bind (wpAny_setField_rec hz (by simp) fun g1 z1 s1=>?_)))))
 replace z1:IsZip g1 z TI TO .ellipsis:=z1
 refine wpAny_bind ?_
 simp only[List.zipIdx_cons,List.zipIdx_nil,List.forIn_cons,List.forIn_nil]
 refine wpAny_bind (wpAny_bind (wpAny_onRaise ?_))
 refine(show wpAny (model P w) A (Builtin.SmallTypes.nextOf (.ref i1) >>= _) _ _ _ from wpAny_bind (N1.item _ _ _ k _ (N1.keep _ _ _ h1 fun c hc o e=>s1.extBut _ _ (nr1 hc).1 e) hx fun g2 x tk1 yx t1 s2=>wpAny_pure ?_))
 have o2:IsPair g2 TO a b:=s2.extBut _ _ d8 (s1.extBut _ _ d2 hO)
 refine wpAny_bind (wpAny_seqItems o2 rfl (wpAny_bind (wpAny_updateSeq_pair o2 fun g3 o3 s3=>?_)))
 replace o3:IsPair g3 TO x b:=o3
 refine wpAny_bind (wpAny_letGo (wpAny_pure (wpAny_bind (wpAny_bind (wpAny_onRaise ?_)))))
 refine(show wpAny (model P w) A (Builtin.SmallTypes.nextOf (.ref i2) >>= _) _ _ _ from wpAny_bind (N2.item _ _ _ k _ (N2.keep _ _ _ h2 fun c hc o e=>s3.extBut _ _ (nr2 hc).2.1 (s2.extBut _ _ (nr2 hc).2.2 (s1.extBut _ _ (nr2 hc).1 e))) hy fun g4 y tk2 yy t2 s4=>wpAny_pure ?_))
 have o4:IsPair g4 TO x b:=s4.extBut _ _ d9 o3
 refine wpAny_bind (wpAny_seqItems o4 rfl (wpAny_bind (wpAny_updateSeq_pair o4 fun g5 o5 s5=>?_)))
 replace o5:IsPair g5 TO x y:=o5
 refine wpAny_bind (wpAny_letGo (wpAny_pure (wpAny_pure (wpAny_bind (wpAny_seqItems o5 rfl (wpAny_bind (wpAny_newTuple ?_)))))))
 have sz:g5.objs.size=s.heap.objs.size:=by rw[s5.1,s4.1,s3.1,s2.1,s1.1]
 have z5:IsZip g5 z TI TO .ellipsis:=s5.extBut _ _ d2.symm (s4.extBut _ _ d4.symm (s3.extBut _ _ d2.symm (s2.extBut _ _ d3.symm z1)))
 have k5:∀c o,c≠z->c≠TO->c≠i1->c≠i2->s.heap.get? c=some o->g5.get? c=some o:=fun c o c1 c2 c3 c4 e=>s5.extBut _ _ c2 (s4.extBut _ _ c4 (s3.extBut _ _ c2 (s2.extBut _ _ c3 (s1.extBut _ _ c1 e))))
 have u1:st1 (k+1) g5:=N1.keep _ _ _ t1 fun c hc o e=>s5.extBut _ _ (nr1 hc).2.1 (s4.extBut _ _ (nr1 hc).2.2 (s3.extBut _ _ (nr1 hc).2.1 e))
 have u2:st2 (k+1) g5:=N2.keep _ _ _ t2 fun c hc o e=>s5.extBut _ _ (nr2 hc).2.1 e
 have lz:z<g5.objs.size:=Heap.lt_size z5
 refine(show wpAny (model P w) A (Builtin.SmallTypes.ownedTupleHandOut (.ref z) (.ref g5.objs.size) >>= _) _ E _ from wpAny_bind ?_)
 unfold Builtin.SmallTypes.ownedTupleHandOut
 have z6:IsZip (g5.push { cls:=.type "tuple", data:=.seq #[x,y] }) z TI TO .ellipsis:=Heap.get?_push_of_some _ z5
 refine wpAny_bind (wpAny_setField_rec z6 (by simp) fun g7 z7 s7=>?_)
 replace z7:IsZip g7 z TI TO (rawInt g5.objs.size):=z7
 refine wpAny_setField_rec z7 (by simp) fun g8 z8 s8=>?_
 replace z8:IsZip g8 z TI TO (rawInt g5.objs.size):=z8
 have up:∀c o,c≠z->g5.get? c=some o->g8.get? c=some o:=fun c o c1 e=>s8.extBut _ _ c1 (s7.extBut _ _ c1 (Heap.get?_push_of_some _ e))
 have T8:IsPair g8 g5.objs.size x y:=s8.extBut _ _ (Nat.ne_of_gt lz) (s7.extBut _ _ (Nat.ne_of_gt lz) (Heap.get?_push_size _ rfl))
 have e8:g8.objs.size=g5.objs.size+1:=by rw[s8.1,s7.1,Heap.size_push]
 rw[sz] at z8 T8 e8
 refine wpAny_pure ⟨_,rfl, ?_⟩
 show Q (.ref g5.objs.size) _
 rw[sz]
 exact q g8 x y tk2 yx yy z8 (up _ _ d2 o5) (N1.keep _ _ _ u1 fun c hc o e=>up c o (nr1 hc).1 e) (N2.keep _ _ _ u2 fun c hc o e=>up c o (nr2 hc).1 e) T8 e8 fun c o c1 c2 c3 c4 e=>up c o c1 (k5 c o c1 c2 c3 c4 e)
theorem zip_fin {z TI TO i1 i2:Addr} {rd1 rd2:List Addr} {st1 st2:Nat->Heap->Prop} {n1 n2:Nat} {yl1 yl2:Nat->Value->Prop} {k:Nat} {a b:Value} {Q:PySem.Fin->Shared->Prop} (hh:A.handled=none) (D:ZA5 z TI TO i1 i2 rd1 rd2) (N1:Nx P w i1 rd1 st1 n1 yl1) (N2:Nx P w i2 rd2 st2 n2 yl2)
  (hz:IsZip s.heap z TI TO .none) (hI:IsPair s.heap TI (.ref i1) (.ref i2)) (hO:IsPair s.heap TO a b) (h1:st1 k s.heap) (h2:st2 k s.heap) (he:n1<=k\/n2<=k)
  (q:∀h' e tk,(∀c o,c≠z->c≠TO->c≠i1->c≠i2->s.heap.get? c=some o->h'.get? c=some o)->(∃o,h'.get? e=some o/\o.cls=.type "StopIteration")->E (.ref e) { s with heap:=h',toks:=tk }) :
  wpAny (model P w) A (Builtin.«zip.__next__» ⟨[.ref z], []⟩) Q E s:=by
 obtain⟨d1,d2,d3,d4,d5,d6,d7,d8,d9,d10⟩:=D.a
 have nr1:∀{c},c∈rd1->c≠z/\c≠TO/\c≠i2:=fun hc=>⟨fun e=>D.r1.1 (e▸hc),fun e=>D.r1.2.1 (e▸hc),fun e=>D.r1.2.2 (e▸hc)⟩
 have nr2:∀{c},c∈rd2->c≠z/\c≠TO/\c≠i1:=fun hc=>⟨fun e=>D.r2.1 (e▸hc),fun e=>D.r2.2.1 (e▸hc),fun e=>D.r2.2.2 (e▸hc)⟩
 refine(show wpAny (model P w) A (field (.ref z) 2 >>= _) _ E s from wpAny_bind (wpAny_field hz rfl (x:=.bool false) rfl ?_))
 refine(show wpAny (model P w) A (field (.ref z) 3 >>= _) _ E s from wpAny_bind (wpAny_field hz rfl (x:=.ref TI) rfl (wpAny_bind (wpAny_seqItems hI rfl ?_))))
 refine(show wpAny (model P w) A (Builtin.SmallTypes.ownedTupleIsFree (.ref z) >>= _) _ E s from wpAny_bind ?_)
 unfold Builtin.SmallTypes.ownedTupleIsFree
 refine wpAny_bind (wpAny_field hz rfl (x:=.none) rfl (wpAny_pure ?_))
 simp only[if_true]
 refine wpAny_bind (wpAny_rule (wpAny_bind (wpAny_field hz rfl (x:=.ref TO) rfl (wpAny_bind (wpAny_setField_rec hz (by simp) fun g1 z1 s1=>?_)))))
 replace z1:IsZip g1 z TI TO .ellipsis:=z1
 refine wpAny_bind ?_
 simp only[List.zipIdx_cons,List.zipIdx_nil,List.forIn_cons,List.forIn_nil]
 refine wpAny_bind (wpAny_bind (wpAny_onRaise ?_))
 have k1:=N1.keep _ _ g1 h1 fun c hc o e=>s1.extBut _ _ (nr1 hc).1 e
 by_cases hx:n1<=k
 ·refine(show wpAny (model P w) A (Builtin.SmallTypes.nextOf (.ref i1) >>= _) _ _ _ from wpAny_bind (N1.fin _ _ _ k _ hh k1 hx fun g2 e s2 ee=>?_))
  obtain⟨oe,hoe,hce⟩:=ee
  have z2:IsZip g2 z TI TO .ellipsis:=s2 _ _ d3.symm z1
  have ez:e≠z:=fun x=>by subst x; rw[z2] at hoe; cases hoe; simp at hce
  exact wpAny_setField_rec z2 (by simp) fun g3 _ s3=>q g3 e _ (fun c o c1 _ c3 _ x=>s3.extBut _ _ c1 (s2 _ _ c3 (s1.extBut _ _ c1 x))) ⟨oe,s3.extBut _ _ ez hoe,hce⟩
 ·have hy:n2<=k:=he.elim (fun h=>absurd h hx) id
  refine(show wpAny (model P w) A (Builtin.SmallTypes.nextOf (.ref i1) >>= _) _ _ _ from wpAny_bind (N1.item _ _ _ k _ k1 (by omega) fun g2 x tk1 yx t1 s2=>wpAny_pure ?_))
  have o2:IsPair g2 TO a b:=s2.extBut _ _ d8 (s1.extBut _ _ d2 hO)
  refine wpAny_bind (wpAny_seqItems o2 rfl (wpAny_bind (wpAny_updateSeq_pair o2 fun g3 o3 s3=>wpAny_bind (wpAny_letGo (wpAny_pure (wpAny_bind (wpAny_bind (wpAny_onRaise ?_))))))))
  refine(show wpAny (model P w) A (Builtin.SmallTypes.nextOf (.ref i2) >>= _) _ _ _ from wpAny_bind (N2.fin _ _ _ k _ hh (N2.keep _ _ _ h2 fun c hc o e=>s3.extBut _ _ (nr2 hc).2.1 (s2.extBut _ _ (nr2 hc).2.2 (s1.extBut _ _ (nr2 hc).1 e))) hy fun g4 e s4 ee=>?_))
  obtain⟨oe,hoe,hce⟩:=ee
  have z4:IsZip g4 z TI TO .ellipsis:=s4 _ _ d4.symm (s3.extBut _ _ d2.symm (s2.extBut _ _ d3.symm z1))
  have ez:e≠z:=fun x=>by subst x; rw[z4] at hoe; cases hoe; simp at hce
  exact wpAny_setField_rec z4 (by simp) fun g5 _ s5=>q g5 e _ (fun c o c1 c2 c3 c4 x=>s5.extBut _ _ c1 (s4 _ _ c4 (s3.extBut _ _ c2 (s2.extBut _ _ c3 (s1.extBut _ _ c1 x))))) ⟨oe,s5.extBut _ _ ez hoe,hce⟩
end
section
def SqB (b:Bool) (K:PySem.W.Frag) (H:Hp) (a:Addr) (xs:List V):Prop:=match b with
 |true=>SqL K H a xs
 |false=>SqT K H a xs
def ItB (b:Bool) (h:Heap) (it a:Addr) (i:Nat):Prop:=match b with
 |true=>h.IsListIter it a i
 |false=>h.IsTupleIter it a i
theorem ItB.ex {b:Bool} {h:Heap} {it a:Addr} {i:Nat} (x:ItB b h it a i):∃o vs,h.get? it=some o/\o.data=.fields vs:=by
 cases b
 ·obtain⟨o,e,_,d⟩:=(show h.IsTupleIter it a i from x); exact⟨o,_,e,d⟩
 ·obtain⟨o,e,_,d⟩:=(show h.IsListIter it a i from x); exact⟨o,_,e,d⟩
theorem ItB.at {b:Bool} {h h':Heap} {it a:Addr} {i:Nat} (x:ItB b h it a i) (k:∀o,h.get? it=some o->h'.get? it=some o):ItB b h' it a i:=by
 cases b
 ·obtain⟨o,e,r⟩:=(show h.IsTupleIter it a i from x); exact⟨o,k o e,r⟩
 ·obtain⟨o,e,r⟩:=(show h.IsListIter it a i from x); exact⟨o,k o e,r⟩
def ItzS (S1 S2:Hp->List V->Prop):It :=
 ⟨fun i H=>∃xs ys x y,S1 H xs/\S2 H ys/\xs[i]?=some x/\ys[i]?=some y,
   fun i H x H'=>∃p u v,x=.ref p/\H p=none/\H'=upd H p (.tup [u,v])/\∀xs ys,S1 H xs->S2 H ys->xs[i]?=some u/\ys[i]?=some v,
   fun i H=>∃xs ys,S1 H xs/\S2 H ys/\(xs.length<=i\/ys.length<=i)⟩
def Itz (K:PySem.W.Frag) (b1 b2:Bool) (a1 a2:Addr):It:=ItzS (fun H xs=>SqB b1 K H a1 xs) (fun H xs=>SqB b2 K H a2 xs)
structure Sx (P:Program) (w:World) (K:PySem.W.Frag) (S:Hp->List V->Prop) (it:Addr) (rd:List Addr) (J:Nat->Heap->Prop):Prop where
 nx:∀{X:Cx} {pins:List (Addr×Obj)} {σ:St} {H:Hp} {s:Shared} {xs:List V},X.prog=P->X.w=w->X.K=K->Inv X pins σ H s->S H xs->∃(yl:Nat->Value->Prop) (st:Nat->Heap->Prop),(∀i u,yl i u->∃x,xs[i]?=some x/\RelV x u)/\Nx P w it rd st xs.length yl/\(∀i,J i s.heap->st i s.heap)/\∀i h,st i h->J i h
 inj:∀{X:Cx} {pins:List (Addr×Obj)} {σ:St} {H:Hp} {s:Shared} {xs ys:List V},X.K=K->Inv X pins σ H s->S H xs->S H ys->xs=ys
 ex:∀{i:Nat} {h:Heap},J i h->∃o vs,h.get? it=some o/\o.data=.fields vs
 ke:∀{i:Nat} {h h':Heap},J i h->(∀o,h.get? it=some o->h'.get? it=some o)->J i h'
theorem sx_B {P:Program} {w:World} {K:PySem.W.Frag} {b:Bool} {a it:Addr} (ne:a≠it):Sx P w K (fun H xs=>SqB b K H a xs) it [it,a] (fun i h=>ItB b h it a i) where
 nx:=fun {X pins σ H s xs} hP hw hK I hq=>by
  subst hP hw hK
  cases b
  ·obtain⟨its,rv,p,_⟩:=I.tuple hq
   have hl:=rv.length
   exact⟨_,_,fun i u e=>Paired.getR rv e,hl▸nx_tup ne,fun i h=>⟨h,p⟩,fun i h st=>st.1⟩
  ·obtain⟨its,rv,p,_⟩:=I.list hq
   have hl:=rv.length
   exact⟨_,_,fun i u e=>Paired.getR rv e,hl▸nx_list ne,fun i h=>⟨h,p.isList⟩,fun i h st=>st.1⟩
 inj:=fun {X pins σ H s xs ys} hK I h h'=>by
  subst hK
  cases b
  ·exact I.tuple_inj h h'
  ·exact I.list_inj h h'
 ex:=fun h=>h.ex
 ke:=fun h k=>h.at k
theorem Inv.turnedL {X:Cx} {pins:List (Addr×Obj)} {σ:St} {H:Hp} {s:Shared} {h':Heap} {t':Nat} {fp:List Addr} {a:Addr} {o:HO} (I:Inv X pins σ H s) (k:∀b u,b∉fp->s.heap.get? b=some u->h'.get? b=some u) (ff:∀b∈fp,FpOk X pins H b)
  (hp:s.heap.objs.size<=a) (new:ObjOk X.prog X.w (upd H a o) h' a o):Inv X pins σ (upd H a o) { s with heap:=h',toks:=t' }:=by
 have hn:=I.hok.fresh hp
 have na:∀b u,s.heap.get? b=some u->b≠a:=fun b u q z=>by
  have:=Heap.lt_size q
  subst z
  exact absurd (Nat.lt_of_lt_of_le this hp) (Nat.lt_irrefl _)
 have nf:∀b u,H b=some u->b∉fp:=fun b u q z=>by rw[(ff b z).1] at q; cases q
 refine I.step (g':=s.gens) (d':=s.drawn) (ch:=fp) (fun b hb=>?_) (fun b u _ _ c q _=>k b u c q) (fun b u _ _ c q _=>⟨u.slots,k b u c q⟩) (fun b u _ q n=>by rw[upd_ne (na b u q)]; exact n)
  (fun b u c q=>⟨u,k b u c q⟩) (fun b xs q=>qX hn q) (fun b _ _ q=>qX hn q) (fun b ps q=>⟨#[],by rw[qX hn q]; simp⟩) (fun m hm=>?_) (fun b u q=>?_) I.bare
 ·have f:=ff b hb
  exact⟨f.2.2.2.1,f.2.1,f.2.2.2.2.1,f.2.2.2.2.2⟩
 ·obtain⟨o,es,ep,ho,r⟩:=hm
  exact⟨o,es,ep,k _ o (fun z=>(ff _ z).2.1 rfl) ho,r⟩
 ·by_cases hb:b=a
  ·subst hb; rw[upd_same] at q; cases q; exact new
  ·rw[upd_ne hb] at q
   refine(I.hok b u q).stay (fun c v hcc qq=>?_) (fun c qq=>qX hn qq) fun c xs qq=>qX hn qq
   rcases hcc with z|z
   ·subst z; exact k c v (nf c u q) qq
   ·exact k c v (nf c _ z) qq
theorem Inv.stopL {X:Cx} {pins:List (Addr×Obj)} {σ:St} {H:Hp} {s:Shared} {h':Heap} {t':Nat} {fp:List Addr} (I:Inv X pins σ H s) (k:∀b u,b∉fp->s.heap.get? b=some u->h'.get? b=some u) (ff:∀b∈fp,FpOk X pins H b):Inv X pins σ H { s with heap:=h',toks:=t' }:=by
 have nf:∀b u,H b=some u->b∉fp:=fun b u q z=>by rw[(ff b z).1] at q; cases q
 refine I.step (g':=s.gens) (d':=s.drawn) (ch:=fp) (fun b hb=>?_) (fun b u _ _ c q _=>k b u c q) (fun b u _ _ c q _=>⟨u.slots,k b u c q⟩) (fun b u _ q n=>n)
  (fun b u c q=>⟨u,k b u c q⟩) (fun b xs q=>q) (fun b _ _ q=>q) (fun b ps q=>⟨#[],by rw[q]; simp⟩) (fun m hm=>?_) (fun b u q=>?_) I.bare
 ·have f:=ff b hb
  exact⟨f.2.2.2.1,f.2.1,f.2.2.2.2.1,f.2.2.2.2.2⟩
 ·obtain⟨o,es,ep,ho,r⟩:=hm
  exact⟨o,es,ep,k _ o (fun z=>(ff _ z).2.1 rfl) ho,r⟩
 ·refine(I.hok b u q).stay (fun c v hcc qq=>?_) (fun c qq=>qq) fun c xs qq=>qq
  rcases hcc with z|z
  ·subst z; exact k c v (nf c u q) qq
  ·exact k c v (nf c _ z) qq
def ZTn (rd1 rd2:List Addr) (J1 J2:Nat->Heap->Prop) (z TI TO i1 i2:Addr) (i:Nat) (h:Heap):Prop:=ZA5 z TI TO i1 i2 rd1 rd2/\IsZip h z TI TO .none/\IsPair h TI (.ref i1) (.ref i2)/\(∃a b,IsPair h TO a b)/\J1 i h/\J2 i h
theorem Zz {P:Program} {w:World} {K:PySem.W.Frag} {elts:List Expr} {kk:_} {pos:Pos} {S1 S2:Hp->List V->Prop} {rd1 rd2:List Addr} {J1 J2:Nat->Heap->Prop} (z TI TO i1 i2:Addr) (Y1:Sx P w K S1 i1 rd1 J1) (Y2:Sx P w K S2 i2 rd2 J2):Turn P w K (.Tuple elts kk pos) (ItzS S1 S2) [z,TI,TO,i1,i2] z (ZTn rd1 rd2 J1 J2 z TI TO i1 i2) where
 mem:=by simp
 obj:=fun i h ⟨_,hz,hI,⟨a,b,hO⟩,h1,h2⟩ c hc=>by
  have fl:∀{o:Obj} {vs:Array Value},o.data=.fields vs->∀v,o.data ≠ .cell v:=fun d v e=>by rw[d] at e; cases e
  have sq:∀{o:Obj} {vs:Array Value} {n:Nat},o.data=.seq vs n->∀v,o.data ≠ .cell v:=fun d v e=>by rw[d] at e; cases e
  simp only[List.mem_cons,List.not_mem_nil,or_false] at hc
  rcases hc with rfl|rfl|rfl|rfl|rfl
  ·exact⟨_,hz,fl rfl⟩
  ·exact⟨_,hI,sq rfl⟩
  ·exact⟨_,hO,sq rfl⟩
  ·obtain⟨o,vs,e,d⟩:=Y1.ex h1; exact⟨o,e,fl d⟩
  ·obtain⟨o,vs,e,d⟩:=Y2.ex h2; exact⟨o,e,fl d⟩
 keep:=fun i h h' ⟨D,hz,hI,⟨a,b,hO⟩,h1,h2⟩ k=>⟨D,k z (by simp) _ hz,k TI (by simp) _ hI,⟨a,b,k TO (by simp) _ hO⟩,Y1.ke h1 fun o e=>k i1 (by simp) o e,Y2.ke h2 fun o e=>k i2 (by simp) o e⟩
 item:=by
  intro X hP hw hK hc i pins s σ H E I hf st hg
  subst hP hw hK
  obtain⟨D,hz,hI,⟨a,b,hO⟩,h1,h2⟩:=st
  obtain⟨xs,ys,x,y,q1,q2,hx,hy⟩:=hg
  obtain⟨ix,t1,r1,N1,in1,out1⟩:=Y1.nx rfl rfl rfl I q1
  obtain⟨iy,t2,r2,N2,in2,out2⟩:=Y2.nx rfl rfl rfl I q2
  have lx:=(List.getElem?_eq_some_iff.mp hx).1
  have ly:=(List.getElem?_eq_some_iff.mp hy).1
  have hT:s.TypeIs (.ref z) "zip" := ⟨_,hz,rfl⟩
  unfold pyNext
  refine wpAny_bind (wpAny_attempt (wpAny_callSpecial?_slot (name:=Str.ofString "__next__") hT F.slot_zip_next (wpAny_call_entry F.slot_zip_next hT F.entry_zip_next (zip_it D N1 N2 hz hI hO (in1 i h1) (in2 i h2) lx ly fun h' u v tk yu yv c1 c2 c3 c4 c5 c6 c7=>wpAny_pure ⟨_,rfl, ?_⟩) (F.args_zip_next_1 _))))
  obtain⟨x',hx',ru⟩:=r1 i u yu
  rw[hx] at hx'
  cases hx'
  obtain⟨y',hy',rv⟩:=r2 i v yv
  rw[hy] at hy'
  cases hy'
  have lt:∀{c o},s.heap.get? c=some o->s.heap.objs.size≠c:=fun e=>Nat.ne_of_gt (Heap.lt_size e)
  have fr:=I.hok.fresh (Nat.le_refl s.heap.objs.size)
  have d:=D.a
  refine wpAny_letOwnedTupleGo_zip c1 fun h'' z2 s2=>?_
  have up:∀c o,c≠z->h'.get? c=some o->h''.get? c=some o:=fun c o n e=>s2.extBut _ _ n e
  have kp:∀c o,c∉[z,TI,TO,i1,i2]->s.heap.get? c=some o->h''.get? c=some o:=fun c o hc e=>by
   simp only[List.mem_cons,List.not_mem_nil,or_false,not_or] at hc
   exact up c o hc.1 (c7 c o hc.1 hc.2.2.1 hc.2.2.2.1 hc.2.2.2.2 e)
  obtain⟨o1,vs1,g1,_⟩:=Y1.ex h1
  obtain⟨o2,vs2,g2,_⟩:=Y2.ex h2
  have T2:IsPair h'' s.heap.objs.size u v:=up _ _ (lt hz) c5
  refine⟨.ref s.heap.objs.size,_,I.turnedL (o:=.tup [x,y]) kp hf (Nat.le_refl _) ⟨by show 2<=sizeLine; decide, [u,v], .cons ru (.cons rv .nil),_,T2,rfl,_,rfl⟩,rfl,⟨_,x,y,rfl,fr,rfl,fun xs' ys' e1 e2=>by rw[Y1.inj rfl I e1 q1,Y2.inj rfl I e2 q2]; exact⟨hx,hy⟩⟩,⟨D,z2,up _ _ d.1 (c7 _ _ d.1 d.2.2.2.2.1 d.2.2.2.2.2.1 d.2.2.2.2.2.2.1 hI),⟨_,_,up _ _ d.2.1 c2⟩,Y1.ke (out1 _ _ c3) fun o e=>up _ o d.2.2.1 e,Y2.ke (out2 _ _ c4) fun o e=>up _ o d.2.2.2.1 e⟩,fun b hb=>?_⟩
  have hb1:=(hf b hb).1
  have nb:b≠s.heap.objs.size:=fun e=>by
   simp only[List.mem_cons,List.not_mem_nil,or_false] at hb
   rcases hb with rfl|rfl|rfl|rfl|rfl
   ·exact lt hz e.symm
   ·exact lt hI e.symm
   ·exact lt hO e.symm
   ·exact lt g1 e.symm
   ·exact lt g2 e.symm
  rw[upd_ne nb]; exact hb1
 done:=by
  intro X hP hw hK hc i pins s σ H E I hf st hg
  subst hP hw hK
  obtain⟨D,hz,hI,⟨a,b,hO⟩,h1,h2⟩:=st
  obtain⟨xs,ys,q1,q2,he⟩:=hg
  obtain⟨ix,t1,r1,N1,in1,out1⟩:=Y1.nx rfl rfl rfl I q1
  obtain⟨iy,t2,r2,N2,in2,out2⟩:=Y2.nx rfl rfl rfl I q2
  have hT:s.TypeIs (.ref z) "zip" := ⟨_,hz,rfl⟩
  unfold pyNext
  refine wpAny_bind (wpAny_attempt (wpAny_callSpecial?_slot (name:=Str.ofString "__next__") hT F.slot_zip_next (wpAny_call_entry F.slot_zip_next hT F.entry_zip_next (zip_fin (I.ok.hd hc) D N1 N2 hz hI hO (in1 i h1) (in2 i h2) he fun h' e tk hk ⟨o,ho,hc⟩=>?_) (F.args_zip_next_1 _))))
  refine wpAny_bind (wpAny_isInstance (T := "StopIteration") (b:=true) ⟨o,ho,hc⟩ isSubtype_stop (wpAny_pure ⟨rfl,I.stopL (t':=tk) (fun c o hc e=>?_) hf⟩))
  simp only[List.mem_cons,List.not_mem_nil,or_false,not_or] at hc
  exact hk c o hc.1 hc.2.2.1 hc.2.2.2.1 hc.2.2.2.2 e
 self:=fun _ _ _ _ _ st h=>wpAny_pyIter_zip st.2.1 h
end
section
def SrcH (b:Bool) (h:Heap) (l:Addr):Prop:=match b with
 |true=>∃xs,h.IsList l xs
 |false=>∃xs,h.IsTuple l xs
abbrev itO (b:Bool) (l:Addr):Obj:={ cls:=.type (match b with|true => "list_iterator" |false => "tuple_iterator"),data:=.fields #[.ref l, .int 0 0] }
abbrev zq2 (h:Heap) (o1 o2:Obj):Heap:=(h.push o1).push o2
abbrev zq3 (h:Heap) (o1 o2:Obj):Heap:=(zq2 h o1 o2).push { cls:=.type "tuple", data:=.seq #[.ref h.objs.size, .ref (h.push o1).objs.size] }
abbrev zq4 (h:Heap) (o1 o2:Obj):Heap:=(zq3 h o1 o2).push { cls:=.type "tuple", data:=.seq #[.none, .none] }
abbrev zq5 (h:Heap) (o1 o2:Obj):Heap:=(zq4 h o1 o2).push { cls:=.type "zip", data:=.fields #[.none, .bool false, .bool false, .ref (zq2 h o1 o2).objs.size, .ref (zq3 h o1 o2).objs.size] }
theorem X7 (b1 b2:Bool) (l1 l2:Addr):Meets (Builtin.«zip.__new__» ⟨[.type "zip", .ref l1, .ref l2], []⟩) (fun _ R s=>SrcH b1 s.heap l1/\SrcH b2 s.heap l2/\R (.ok (.ret (.ref (zq4 s.heap (itO b1 l1) (itO b2 l2)).objs.size))) { s with heap:=zq5 s.heap (itO b1 l1) (itO b2 l2) }) :=
 .of_wp fun prog w A R s h=>by
  obtain⟨hp,g,d,tk,os⟩:=s
  obtain⟨m1,m2,h⟩:=h
  have hsub:=sub_zip
  cases b1<;>cases b2<;>obtain⟨xs,e1⟩:=m1<;>obtain⟨ys,e2⟩:=m2
  ·have u1:Heap.IsTuple (Shared.heap ⟨hp,g,d,tk,os⟩) l1 xs:=e1
   have u2:Heap.IsTuple (Shared.heap ⟨hp.push { cls:=.type "tuple_iterator", data:=.fields #[.ref l1, .int 0 0] },g,d,tk,os⟩) l2 ys:=e2.push _
   wp_walk using wpAny_pyIter_tuple u1,wpAny_pyIter_tuple u2
   exact⟨_,rfl,h⟩
  ·have u1:Heap.IsTuple (Shared.heap ⟨hp,g,d,tk,os⟩) l1 xs:=e1
   have u2:Heap.IsList (Shared.heap ⟨hp.push { cls:=.type "tuple_iterator", data:=.fields #[.ref l1, .int 0 0] },g,d,tk,os⟩) l2 ys:=Heap.IsList.push e2 _
   wp_walk using wpAny_pyIter_tuple u1,wpAny_pyIter_list u2
   exact⟨_,rfl,h⟩
  ·have u1:Heap.IsList (Shared.heap ⟨hp,g,d,tk,os⟩) l1 xs:=e1
   have u2:Heap.IsTuple (Shared.heap ⟨hp.push { cls:=.type "list_iterator", data:=.fields #[.ref l1, .int 0 0] },g,d,tk,os⟩) l2 ys:=e2.push _
   wp_walk using wpAny_pyIter_list u1,wpAny_pyIter_tuple u2
   exact⟨_,rfl,h⟩
  ·have u1:Heap.IsList (Shared.heap ⟨hp,g,d,tk,os⟩) l1 xs:=e1
   have u2:Heap.IsList (Shared.heap ⟨hp.push { cls:=.type "list_iterator", data:=.fields #[.ref l1, .int 0 0] },g,d,tk,os⟩) l2 ys:=Heap.IsList.push e2 _
   wp_walk using wpAny_pyIter_list u1,wpAny_pyIter_list u2
   exact⟨_,rfl,h⟩
abbrev txO (z:Str) (t:Tok):Obj:={ cls:=.type (strIterType z),data:=.fields #[.str z t, .int 0 0] }
theorem Xx (b1:Bool) (l1:Addr) (z:Str) (t:Tok):Meets (Builtin.«zip.__new__» ⟨[.type "zip", .ref l1, .str z t], []⟩) (fun _ R s=>SrcH b1 s.heap l1/\R (.ok (.ret (.ref (zq4 s.heap (itO b1 l1) (txO z t)).objs.size))) { s with heap:=zq5 s.heap (itO b1 l1) (txO z t) }) :=
 .of_wp fun prog w A R s h=>by
  obtain⟨hp,g,d,tk,os⟩:=s
  obtain⟨m1,h⟩:=h
  have hsub:=sub_zip
  cases b1<;>obtain⟨xs,e1⟩:=m1
  ·have u1:Heap.IsTuple (Shared.heap ⟨hp,g,d,tk,os⟩) l1 xs:=e1
   wp_walk using wpAny_pyIter_tuple u1,wpAny_pyIter_strU
   exact⟨_,rfl,h⟩
  ·have u1:Heap.IsList (Shared.heap ⟨hp,g,d,tk,os⟩) l1 xs:=e1
   wp_walk using wpAny_pyIter_list u1,wpAny_pyIter_strU
   exact⟨_,rfl,h⟩
theorem Zq {P:Program} {w:World} {A:Around} {E:Value->Shared->Prop} {s:Shared} {o1 o2:Obj} {v1 v2:Value} {R:Value->Shared->Prop} {Pre:Heap->Prop} (f1:o1.isFreed=false) (f2:o2.isFreed=false) (mt:Meets (Builtin.«zip.__new__» ⟨[.type "zip", v1,v2], []⟩) (fun _ R s=>Pre s.heap/\R (.ok (.ret (.ref (zq4 s.heap o1 o2).objs.size))) { s with heap:=zq5 s.heap o1 o2 })) (m:Pre s.heap)
  (q:∀h',IsZip h' (s.heap.objs.size+4) (s.heap.objs.size+2) (s.heap.objs.size+3) .none->IsPair h' (s.heap.objs.size+2) (.ref s.heap.objs.size) (.ref (s.heap.objs.size+1))->IsPair h' (s.heap.objs.size+3) .none .none->h'.get? s.heap.objs.size=some o1->h'.get? (s.heap.objs.size+1)=some o2 ->
   (∀c o,s.heap.get? c=some o->h'.get? c=some o)->R (.ref (s.heap.objs.size+4)) { s with heap:=h' }):wpAny (model P w) A (call (.type "zip") [v1,v2]) R E s:=by
 refine callType_new F.called_zip (by decide) (F.typeCall_zip_2 _ _) (F.newCall_zip_2 _ _) (fun obj=>F.args_object_init_3 obj _ _) F.entry_zip_new mt ⟨m, ?_⟩
 have e1:(s.heap.push o1).objs.size=s.heap.objs.size+1:=Heap.size_push ..
 have e2:(zq2 s.heap o1 o2).objs.size=s.heap.objs.size+2:=by rw[Heap.size_push,e1]
 have e3:(zq3 s.heap o1 o2).objs.size=s.heap.objs.size+3:=by rw[Heap.size_push,e2]
 have e4:(zq4 s.heap o1 o2).objs.size=s.heap.objs.size+4:=by rw[Heap.size_push,e3]
 have ps:∀{h:Heap} {a:Addr} {o o':Obj},h.get? a=some o->(h.push o').get? a=some o:=fun e=>Heap.get?_push_of_some _ e
 have g5:(zq5 s.heap o1 o2).get? (zq4 s.heap o1 o2).objs.size=some _:=Heap.get?_push_size _ rfl
 have g4:(zq5 s.heap o1 o2).get? (zq3 s.heap o1 o2).objs.size=some _:=ps (Heap.get?_push_size _ rfl)
 have g3:(zq5 s.heap o1 o2).get? (zq2 s.heap o1 o2).objs.size=some _:=ps (ps (Heap.get?_push_size _ rfl))
 have g2:(zq5 s.heap o1 o2).get? (s.heap.push o1).objs.size=some o2:=ps (ps (ps (Heap.get?_push_size _ f2)))
 have g1:(zq5 s.heap o1 o2).get? s.heap.objs.size=some o1:=ps (ps (ps (ps (Heap.get?_push_size _ f1))))
 show _/\_
 rw[e2,e3,e4] at g5
 rw[e1,e2] at g3
 rw[e3] at g4
 rw[e1] at g2
 rw[e4]
 exact⟨⟨_,g5,rfl⟩,q _ g5 g3 g4 g1 g2 fun c o x=>ps (ps (ps (ps (ps x))))⟩
end
section
variable {X:Cx}
def ZipStep (K:PySem.W.Frag) (b1 b2:Bool) (vs:List V) (H:Hp) (R:It->Hp->Prop):Prop:=∃a1 a2 xs ys,vs=[.ref a1, .ref a2]/\SqB b1 K H a1 xs/\SqB b2 K H a2 ys/\R (Itz K b1 b2 a1 a2) H
def iZip (K:PySem.W.Frag) (b1 b2:Bool) (ta:TA):TI:=fun σ H R=>ta σ H fun vs H1=>ZipStep K b1 b2 vs H1 R
theorem src_h {pins:List (Addr×Obj)} {σ:St} {H:Hp} {s:Shared} {b:Bool} {a:Addr} {xs:List V} (I:Inv X pins σ H s) (hq:SqB b X.K H a xs):SrcH b s.heap a/\a<s.heap.objs.size:=by
 cases b
 ·obtain⟨its,rv,p,_⟩:=I.tuple hq
  obtain⟨o,e,_⟩:=id p
  exact⟨⟨_,p⟩,Heap.lt_size e⟩
 ·obtain⟨its,rv,p,_⟩:=I.list hq
  obtain⟨o,e,_⟩:=id p.isList
  exact⟨⟨_,p.isList⟩,Heap.lt_size e⟩
theorem it_O {b:Bool} {h:Heap} {it l:Addr} (g:h.get? it=some (itO b l)):ItB b h it l 0:=by
 cases b<;>exact⟨_,g,rfl,rfl⟩
theorem apart5 {n a1 a2:Nat} (l1:a1<n) (l2:a2<n):ZA5 (n+4) (n+2) (n+3) n (n+1) [n,a1] [n+1,a2]:=by
 have hm:∀{x y z:Nat},x≠y->x≠z->x∉[y,z]:=fun h1 h2 h=>by simp at h; omega
 refine⟨?_,⟨hm ?_ ?_,hm ?_ ?_,hm ?_ ?_⟩,⟨hm ?_ ?_,hm ?_ ?_,hm ?_ ?_⟩⟩
 ·show(n+2:Nat)≠n+4/\(n+3:Nat)≠n+4/\(n:Nat)≠n+4/\(n+1:Nat)≠n+4/\(n+2:Nat)≠n+3/\(n+2:Nat)≠n/\(n+2:Nat)≠n+1/\(n+3:Nat)≠n/\(n+3:Nat)≠n+1/\(n:Nat)≠n+1
  omega
 all_goals omega
theorem pi_zip {K:PySem.W.Frag} {b1 b2:Bool} {elts:List Expr} {kk:_} {tpos:Pos} {a b:Expr} {ta:TA} {p pos:Pos} (hK:X.K=K) (hg:Gl X "zip") (hm:X.mg "zip" = none) (ha:PA X [a,b] ta) (hs:starEach [a,b] X.env=[(false,eval a X.env),(false,eval b X.env)]:=by rfl) (hs2:starEach [b] X.env=[(false,eval b X.env)]:=by rfl):PI X (.Tuple elts kk tpos) (.Call (.Name "zip" p) [a,b] [] pos) (iZip K b1 b2 ta):=by
 subst hK
 intro pins s σ H R I h
 refine Call_ (jY I hg hm boot_zip (PyProof.Rows.callWith_type1 (thn (ha pos pins s σ H _ I h) fun us s1 ⟨vs,H1,I1,r1,q1⟩=>?_) (by rw[hs,hs2]) (by rw[hs2]; rfl)))
 obtain⟨a1,a2,xs,ys,e,q1,q2,q⟩:=q1
 subst e
 cases r1 with
 |cons r rr =>
 cases rr with
 |cons r' rr =>
 cases rr
 cases r
 cases r'
 obtain⟨m1,l1⟩:=src_h I1 q1
 obtain⟨m2,l2⟩:=src_h I1 q2
 refine Zq (Pre:=fun h=>SrcH b1 h a1/\SrcH b2 h a2) (o1:=itO b1 a1) (o2:=itO b2 a2) rfl rfl (by simpa only[and_assoc] using X7 b1 b2 a1 a2) ⟨m1,m2⟩ fun h' hz hI hO t1 t2 kp=>wpAny_pyIter_zip hz ?_
 have ne:∀{c:Addr} {j:Nat},c<s1.heap.objs.size->c≠s1.heap.objs.size+j:=fun h=>Nat.ne_of_lt (Nat.lt_of_lt_of_le h (Nat.le_add_right _ _))
 have n0:∀{c:Addr},c<s1.heap.objs.size->c≠s1.heap.objs.size:=fun h=>Nat.ne_of_lt h
 have D:ZA5 (s1.heap.objs.size+4) (s1.heap.objs.size+2) (s1.heap.objs.size+3) s1.heap.objs.size (s1.heap.objs.size+1) [s1.heap.objs.size,a1] [s1.heap.objs.size+1,a2]:=apart5 l1 l2
 refine⟨s1.heap.objs.size+4, [s1.heap.objs.size+4,s1.heap.objs.size+2,s1.heap.objs.size+3,s1.heap.objs.size,s1.heap.objs.size+1],_,_,H1,rfl,I1.kept (t':=s1.toks) kp,Zz _ _ _ _ _ (sx_B (n0 l1)) (sx_B (ne l2)),⟨D,hz,hI,⟨_,_,hO⟩,it_O t1,it_O t2⟩,fun bb hb=>?_,q⟩
 have hb':s1.heap.objs.size<=bb:=by
  simp only[List.mem_cons,List.not_mem_nil,or_false] at hb
  rcases hb with rfl|rfl|rfl|rfl|rfl
  ·exact Nat.le_add_right _ _
  ·exact Nat.le_add_right _ _
  ·exact Nat.le_add_right _ _
  ·exact Nat.le_refl _
  ·exact Nat.le_add_right _ _
 exact I1.fpOk hb' (I1.hok.fresh hb')
theorem qi_zip {K:PySem.W.Frag} {b1 b2:Bool} {elts:List Expr} {kk:_} {tpos:Pos} {a b:Expr} {ta:TA} {p pos:Pos} (hK:X.K=K) (hg:Gl X "zip") (hm:X.mg "zip" = none) (ha:QA X [a,b] ta) (hs:starEach [a,b] X.env=[(false,eval a X.env),(false,eval b X.env)]:=by rfl) (hs2:starEach [b] X.env=[(false,eval b X.env)]:=by rfl):QI X (.Tuple elts kk tpos) (.Call (.Name "zip" p) [a,b] [] pos) (iZip K b1 b2 ta):=⟨pi_zip hK hg hm ha.h hs hs2⟩
end
section
variable {A:Addr->Prop} {H:Hp} {ι:List Addr} {M:MM} {K:PySem.W.Frag}
def Vk (b:Bool) (M:MM) (x:U):Option (List U):=match b with
 |true=>qV M x
 |false=>vi M x
theorem xn {b:Bool} {v:V} {u:U} {us:List U} (w:Wd A ι H M) (r:RepU A ι H v u) (e:Vk b M u=some us):∃p vs,v=.ref p/\SqB b K H p vs/\RepUs A ι H vs us:=by
 cases b
 ·obtain⟨p,vs,h1,h2,h3⟩:=zm w r e; exact⟨p,vs,h1,SqT.of h2,h3⟩
 ·obtain⟨p,vs,h1,h2,h3⟩:=vE w r e; exact⟨p,vs,h1,SqL.of h2,h3⟩
end
structure KDt (K:PySem.W.Frag) (w:World) (mg:Str->Option Value) (nm:Str) (a:Addr) (rows:List (Str×Addr×List Str)):Prop where
 d:KDi K w mg nm a (rows.map fun r=>(r.1,V.ref r.2.1))
 t:∀r∈rows,KTu K r.2.1 (r.2.2.map V.str)
abbrev kdT (rows:List (Str×Addr×List Str)):List (Str×List Str):=rows.map fun r=>(r.1,r.2.2)
section
variable {X:Cx} {K:PySem.W.Frag} {w:World} {mg:Str->Option Value} {nm:Str} {a:Addr} {rows:List (Str×Addr×List Str)} {ta tb ty:TE} {ua ub uy:UE}
theorem V7 {k:Str} {ss:List Str}:∀{rows:List (Str×Addr×List Str)},(kdT rows).lookup k=some ss->∃p,(rows.map fun r=>(r.1,V.ref r.2.1)).lookup k=some (.ref p)/\(k,p,ss)∈rows
 | [],e=>by simp at e
 | (k',p,ss')::rows,e=>by
  rw[kdT,List.map_cons,List.lookup_cons] at e
  rw[List.map_cons,List.lookup_cons]
  cases h:k==k' with
  |true =>
   rw[h] at e
   cases e
   rw[eq_of_beq h]
   exact⟨p,rfl, .head _⟩
  |false =>
   rw[h] at e
   obtain⟨p2,h1,h2⟩:=V7 e
   exact⟨p2,h1, .tail _ h2⟩
def xK (ks:List (Str×List Str)) (uy:UE):UE:=fun ρ M Q=>uy ρ M fun y M1=>∃k ss,y=.p (.str k)/\ks.lookup k=some ss/\Q (.p (.int ss.length)) M1
theorem ce_lenKD (D:KDt K w mg nm a rows) (hy:ZE ty uy):ZE (tCB (rLenA K) (zr (tKD (rows.map fun r=>(r.1,V.ref r.2.1)) ty) tNil)) (xK (kdT rows) uy):=⟨fun A ι σ H ρ M Qu Q w e q k =>
 hy.h A ι σ H ρ M _ _ w e q fun y M1 ι1 v H1 l1 w1 r1 ⟨kk,ss,ey,el,q1⟩=>by
  subst ey
  cases r1 with
  |p r =>
  cases r
  obtain⟨p,h1,h2⟩:=V7 el
  refine⟨kk, .ref p,rfl,h1,p,_,rfl, .inr (D.t _ h2 H1), ?_⟩
  rw[List.length_map]
  exact k _ M1 ι1 _ H1 l1 w1 (.p (.int _)) q1⟩
def ZipKS (b:Bool) (ss:List Str) (x:U) (M:MM) (Q:UIt->MM->Prop):Prop:=∃ts:List T,Vk b M x=some (ts.map U.p)/\Q ⟨min ss.length ts.length,fun M=>Vk b M x=some (ts.map U.p),fun i z=>∃s t,ss[i]?=some s/\ts[i]?=some t/\z=.p (.tup [.str s,t])⟩ M
def xH (b:Bool) (ks:List (Str×List Str)) (uy ub:UE):UI:=fun ρ M Q=>uy ρ M fun y M1=>∃k ss,y=.p (.str k)/\ks.lookup k=some ss/\ub ρ M1 fun x M2=>ZipKS b ss x M2 Q
theorem ci_zipKD {b:Bool} (D:KDt K w mg nm a rows) (hy:ZE ty uy) (hb:ZE tb ub):ZI (iZip K false b (zr (tKD (rows.map fun r=>(r.1,V.ref r.2.1)) ty) (zr tb tNil))) (xH b (kdT rows) uy ub):=⟨fun A ι σ H ρ M Qu R w e q k =>
 hy.h A ι σ H ρ M _ _ w e q fun y M1 ι1 v H1 l1 w1 r1 ⟨kk,ss,ey,el,q1⟩=>by
  subst ey
  cases r1 with
  |p r =>
  cases r
  obtain⟨p,h1,h2⟩:=V7 el
  refine⟨kk, .ref p,rfl,h1,hb.h A ι1 σ H1 ρ M1 _ _ w1 (e.le l1) q1 fun x M2 ι2 v2 H2 l2 w2 r2 ⟨ts,et,q2⟩=>?_⟩
  obtain⟨p2,us2,rfl,g1,g2⟩:=xn (K:=K) w2 r2 et
  refine⟨p,p2,_,us2,rfl,D.t _ h2 H2,g1,k _ M2 ι2 _ H2 (l1.trans l2) w2 ?_ q2⟩
  intro A' ι3 H3 M3 i l w3 ok
  obtain⟨p2',vs2,e2,h5,h6⟩:=xn (K:=K) w3 (r2.lea l) ok
  cases e2
  have t2:=h6.pures
  have hl2:=t2.len
  refine⟨fun hi=>?_,fun hi=>⟨_,vs2,D.t _ h2 H3,h5, ?_⟩⟩
  ·have hi:i<min ss.length ts.length:=hi
   have hy:vs2[i]?=some (vs2[i]'(by omega)):=List.getElem?_eq_getElem _
   have hx:(ss.map V.str)[i]?=some (.str (ss[i]'(by omega))):=by rw[List.getElem?_map,List.getElem?_eq_getElem (by omega)]; rfl
   refine⟨⟨_,vs2,_,_,D.t _ h2 H3,h5,hx,hy⟩,fun x H' y=>?_⟩
   obtain⟨r,u,v,rfl,hr,rfl,y⟩:=y
   obtain⟨y1,y2⟩:=y _ vs2 (D.t _ h2 H3) h5
   rw[hx] at y1
   cases y1
   obtain⟨s,hs,rs⟩:=Paired.getL t2 y2
   exact⟨_,⟨_,s,List.getElem?_eq_getElem (by omega),hs,rfl⟩, .fresh hr,w3.fresh hr, .p (zo w3 hr (.cons (.str _) (.cons rs .nil)))⟩
  ·have hi:i=min ss.length ts.length:=hi
   rw[List.length_map]
   show ss.length<=i\/vs2.length<=i
   omega⟩
def rInD (a:Addr) (ks:List Str):R2:=fun x y H Q=>∃k,x=.str k/\y=.ref a/\Q (.bl (ks.contains k)) H
theorem Kt {k:Str}:∀{kvs:List (Str×V)} {rows:List (Str×Tok×Value)},Paired (fun(kv:Str×V) (r:Str×Tok×Value)=>kv.1=r.1/\RelV kv.2 r.2.2) kvs rows->(valueAt (rows.map keyR) (.inr k:Key)).isSome=(kvs.map (·.1)).contains k
 |_,_, .nil=>by simp[valueAt]
 | (a,b)::kvs,r::rows, .cons ⟨e1,e2⟩ q=>by
  have e1:a=r.1:=e1
  subst e1
  have ih:=Kt (k:=k) q
  unfold valueAt at ih ⊢
  rw[List.map_cons,List.map_cons,List.contains_cons]
  by_cases h:r.1=k
  ·rw[List.find?_cons_of_pos (by simp[keyR,h])]
   simp[h]
  ·rw[List.find?_cons_of_neg (by simp[keyR,h]),ih]
   simp[Ne.symm h]
theorem op_inD {kvs:List (Str×V)} {nm:Str} (D:KDi X.K X.w X.mg nm a kvs) (ns:(a==sysModules)=false):OpR X (compareOp .In) (rInD a (kvs.map (·.1))):=fun pins s σ H x y v u Q I rx ry ⟨k,ex,ey,q⟩=>by
 subst ex ey
 obtain rfl:u=Value.ref a:=ry
 obtain⟨rows,dd,hp⟩:=kd_at D I
 refine wpAny_in_of (XZ (k:=.inr k) rx) ns dd.mapOf ?_
 rw[Kt hp]
 exact⟨.bl _,H,I.tok _,rfl,q⟩
def uInD (ks:List Str) (ua:UE):UE:=fun ρ M Q=>ua ρ M fun x M1=>∃k,x=.p (.str k)/\Q (.p (.bl (ks.contains k))) M1
theorem ce_inD {ks:List Str} (ha:ZE ta ua):ZE (tOp (rInD a ks) ta (tC (.ref a))) (uInD ks ua):=⟨fun A ι σ H ρ M Qu Q w e q k =>
 ha.h A ι σ H ρ M _ _ w e q fun x M1 ι1 v H1 l1 w1 r1 ⟨kk,ex,q1⟩=>by
  subst ex
  cases r1 with
  |p r =>
  cases r
  exact⟨kk,rfl,rfl,k _ M1 ι1 _ H1 l1 w1 (.p (.bl _)) q1⟩⟩
def sTupOf:List T->(T->Prop)->Prop:=fun ts Q=>∃xs,ts=[.lst xs]/\Q (.tup xs)
theorem Vv:CbL (fun xs H Q=>∃p ys,xs=[.ref p]/\((SqL K H p ys/\∀l,H l=none->Q (.ref l) (upd H l (.tup ys)))\/(SqT K H p ys/\Q (.ref p) H))) sTupOf:=fun A ι H M vs ts Qs Q w r ⟨xs,e,q⟩ k=>by
 subst e
 obtain⟨v,ev,r1⟩:=pv1 r
 subst ev
 obtain⟨p,zs,rfl,h1,h2⟩:=r1.lst_inv
 exact⟨p,zs,rfl, .inl ⟨SqL.of h1,fun l hl=>k _ ι _ _ (.fresh hl) (w.fresh hl) (zo w hl h2) q⟩⟩
theorem qe_dget1 {o e:Expr} {apos cpos:Pos} {td ty:TE} (hu:X.A.units+1<cLine) (ho:QE X o td) (he:QE X e ty) (m:M1 X o "get" apos e cpos):QE X (.Call (.Attribute o "get" apos) [e] [] cpos) (Jq td ty):=⟨pe_dget1 hu ho.h he.h m⟩
def DG1S (M:MM) (x:U) (ρ:UEnv) (uy:UE) (Q:UK):Prop:=∃k kvs0,x=.m k/\M[k]?=some (.dK kvs0)/\uy ρ M fun y M2=>∃kvs key,M2[k]?=some (.dK kvs)/\y=keyU key/\Q ((valU kvs key).getD (.p .non)) M2
def QM (ud uy:UE):UE:=fun ρ M Q=>ud ρ M fun x M1=>DG1S M1 x ρ uy Q
theorem ce_dget1 {td:TE} {ud:UE} (hd:ZE td ud) (hy:ZE ty uy):ZE (Jq td ty) (QM ud uy):=⟨fun A ι σ H ρ M Qu Q w e q k =>
 hd.h A ι σ H ρ M _ _ w e q fun x M1 ι1 v H1 l1 w1 r1 ⟨kk,kvs0,ex,em,q1⟩=>by
  subst ex
  cases r1 with
  |m ek =>
  rename_i a
  obtain⟨gs0,h0,_⟩:=w1.obj kk a _ ek em
  refine⟨a,rfl, .inl ⟨gs0, .inl h0⟩,hy.h A ι1 σ H1 ρ M1 _ _ w1 (e.le l1) q1 fun y M2 ι2 v2 H2 l2 w2 r2 ⟨kvs,key,em2,ey,q2⟩=>?_⟩
  subst ey
  have ek2:ι2[kk]?=some a:=by
   obtain⟨nn,rfl,_⟩:=l2.ext
   rw[List.getElem?_append_left (List.getElem?_eq_some_iff.mp ek).1]; exact ek
  obtain⟨gs,h1,h2⟩:=w2.obj kk a _ ek2 em2
  have hv:=Jb (k:=key) h2
  have g:=DGet.k (k:=key) h1
  rw[<-V6 r2] at g
  refine⟨_,g, ?_⟩
  cases ev:valU kvs key with
  |none =>
   rw[ev] at hv q2
   simp only at hv
   rw[hv]
   exact k _ M2 ι2 _ H2 (l1.trans l2) w2 (.p .non) q2
  |some u =>
   rw[ev] at hv q2
   obtain⟨x,hx,rx⟩:=hv
   rw[hx]
   exact k _ M2 ι2 _ H2 (l1.trans l2) w2 rx q2⟩
end
section
variable {X:Cx} {tl:TA} {ul:UA} {n:Nat}
def rListD:List V->Hp->VK->Prop:=fun xs H Q=>∃(a:Addr) (kvs:List (Key×V)) (ks:List Str),xs=[.ref a]/\H a=some (.dK kvs)/\kvs.map (·.1)=ks.map Sum.inr/\∀l,H l=none->Q (.ref l) (upd H l (.lst (xB ks)))
theorem XD {P:Program} {w:World} {k:Str} {v:Value} (h:(qF P w).is (.inr k) v=true):∃t,v=.str k t:=Value.isStrOf_shape h
theorem kE (hc:X.calm=true):zd X (.type "list") rListD:=by
 intro pins s σ H xs us Q I r h
 obtain⟨a,kvs,ks,rfl,ha,hk,q⟩:=h
 obtain⟨u,rfl,rx⟩:=xA r
 cases rx
 obtain⟨z,lo,vs,rel,dd⟩:=X1 I.hok (.inl ha)
 obtain⟨ep,hat⟩:=dd.dictAt
 have hlen:vs.length=kvs.length:=(KV.length rel).symm
 refine PySem.W.kdl_call (PySem.W.kdl_dict (knd:=qF X.prog X.w) (kvs:=vs) (ep:=ep) lo) (I.ok.hd hc) hat (by omega) fun h' tk acc c hkp hD hacc=>?_
 have hks:vs.map (·.1)=ks.map Sum.inr:=by rw[<-KV.keys rel]; exact hk
 have hkl:ks.length=vs.length:=by have:=congrArg List.length hks; simpa using this.symm
 have hv:Vals (xB ks) acc.toList:=by
  refine Paired.of_get ?_ fun j x u hx hu=>?_
  ·unfold xB
   have:=hacc.1
   rw[List.length_map,hkl, <-this]
   simp
  ·obtain⟨k,y,e1,e2⟩:=hacc.2 j u (by rw[<-Array.getElem?_toList]; exact hu)
   have e3:(ks.map (Sum.inr:Str->Key))[j]?=some k:=by rw[<-hks,List.getElem?_map,e1]; rfl
   unfold xB at hx
   rw[List.getElem?_map] at hx e3
   cases e4:ks[j]? with
   |none=>rw[e4] at hx; cases hx
   |some z =>
    rw[e4] at hx e3
    cases hx
    cases e3
    exact XD e2
 refine⟨.ref s.heap.objs.size,_,I.laid (t':=tk) hkp (Nat.le_refl _) (show ObjOk X.prog X.w _ h' _ (.lst (xB ks)) from⟨?_,acc.toList,c,hv,by simpa using hD⟩),rfl,q _ (I.hok.fresh (Nat.le_refl _))⟩
 unfold xB
 rw[List.length_map]
 omega
def LsDS (us:List U) (M:MM) (Q:UK):Prop:=∃(k:Nat) (kvs:List (Key×U)) (ks:List Str),us=[.m k]/\M[k]?=some (.dK kvs)/\kvs.map (·.1)=ks.map Sum.inr/\Q (.p (.lst (ks.map T.str))) M
def Zw (ul:UA):UE:=fun ρ M Q=>ul ρ M fun us M1=>LsDS us M1 Q
theorem Xm (ha:ZA n tl ul):ZE (tCB rListD tl) (Zw ul):=⟨fun A ι σ H ρ M Qu Q w e q k =>
 ha.h A ι σ H ρ M _ _ w e q fun us M1 ι1 vs H1 l1 w1 hn r1 ⟨kk,kvs,ks,eu,em,hk,q1⟩=>by
  subst eu
  cases r1 with
  |cons r q' =>
  cases q'
  cases r with
  |m ek =>
  obtain⟨gs,h1,h2⟩:=w1.obj kk _ _ ek em
  have hg:gs.map (·.1)=kvs.map (·.1):=by
   clear h1 em hk
   induction h2 with
   |nil=>rfl
   |cons a _ ih=>rw[List.map_cons,List.map_cons,a.1,ih]
  exact⟨_,gs,ks,rfl,h1,hg.trans hk,fun l hl=>k _ M1 ι1 _ _ (l1.trans (.fresh hl)) (w1.fresh hl) (.p (zp w1 hl (jK ks))) q1⟩⟩
end
section
variable {P:Program} {w:World} {A:Around} {E:Value->Shared->Prop} {s:Shared} {κ:Type} [DecidableEq κ]
def TextT (P:Program) (w:World) (t:Sem Value) (x:Str):Prop:=∀(A:Around) (E:Value->Shared->Prop) (s:Shared) (Q:Value->Shared->Prop),(∀tk t',Q (.str x t') { s with toks:=tk })->wpAny (model P w) A t Q E s
inductive TextPs (P:Program) (w:World):List (Sem Value×Sem Value)->List (Str×Str)->Prop
 |nil:TextPs P w [] []
 |cons {k v:Sem Value} {x y:Str} {ps:List (Sem Value×Sem Value)} {zs:List (Str×Str)} (hk:TextT P w k x) (hv:TextT P w v y) (r:TextPs P w ps zs):TextPs P w ((k,v)::ps) ((x,y)::zs)
theorem TextPs.len {ps:List (Sem Value×Sem Value)} {zs:List (Str×Str)} (h:TextPs P w ps zs):ps.length=zs.length:=by
 induction h with
 |nil=>rfl
 |cons _ _ _ ih=>rw[List.length_cons,List.length_cons,ih]
inductive TextV:List (Key×Value)->List (Str×Str)->Prop
 |nil:TextV [] []
 |cons {x y:Str} {t:Tok} {l:List (Key×Value)} {zs:List (Str×Str)} (r:TextV l zs):TextV ((.inr x, .str y t)::l) ((x,y)::zs)
theorem TextV.keys {l:List (Key×Value)} {zs:List (Str×Str)} (h:TextV l zs):l.map (·.1)=zs.map fun z=>Sum.inr z.1:=by
 induction h with
 |nil=>rfl
 |cons _ ih=>rw[List.map_cons,List.map_cons,ih]
theorem TextV.snoc {l:List (Key×Value)} {zs:List (Str×Str)} {x y:Str} {t:Tok} (h:TextV l zs):TextV (l++[(.inr x, .str y t)]) (zs++[(x,y)]):=by
 induction h with
 |nil=>exact .cons .nil
 |cons _ ih=>exact .cons ih
theorem TextV.len {l:List (Key×Value)} {zs:List (Str×Str)} (h:TextV l zs):l.length=zs.length:=by
 have:=congrArg List.length h.keys
 simpa using this
theorem XE {l:List (κ×Value)} {k:κ} {v:Value} (h:k∉l.map (·.1)):stored l k v=l++[(k,v)]:=by
 unfold stored
 rw[if_neg]
 intro z
 obtain⟨x,hx,e⟩:=List.any_eq_true.mp z
 exact h (List.mem_map.mpr ⟨x,hx,of_decide_eq_true e⟩)
theorem Ku {d:Addr}:∀{ps:List (Sem Value×Sem Value)} {zs:List (Str×Str)} {l:List (Key×Value)} {ys:List (Str×Str)} {s:Shared} {Q:PUnit->Shared->Prop},TextPs P w ps zs->TextV l ys->s.heap.DictOf (qF P w) d l->((ys++zs).map (·.1)).Nodup->ys.length+zs.length<=1000 ->
  (∀h' tk l',TextV l' (ys++zs)->h'.DictOf (qF P w) d l'->Heap.SameBut d s.heap h'->Q PUnit.unit { s with heap:=h',toks:=tk }) ->
  wpAny (model P w) A (forIn ps PUnit.unit fun(x:Sem Value×Sem Value) (_:PUnit)=>(do let kv <-x.1; let vv <-holding [kv] x.2; holding [kv,vv] (dictSet d kv vv); pure (ForInStep.yield PUnit.unit):Sem (ForInStep PUnit))) Q E s:=by
 intro ps zs l ys s Q h
 induction h generalizing l ys s with
 |nil =>
  intro hl hd _ _ q
  rw[List.forIn_nil]
  exact wpAny_pure (by simpa using q s.heap s.toks l (by simpa using hl) hd (Heap.SameBut.refl _ _))
 | @cons k v x y ps zs hk hv r ih =>
  intro hl hd hn hz q
  rw[List.forIn_cons]
  have hnew:(Sum.inr x:Key)∉l.map (·.1):=by
   rw[hl.keys]
   intro z
   obtain⟨a,ha,e⟩:=List.mem_map.mp z
   rw[List.map_append,List.nodup_append] at hn
   exact hn.2.2 a.1 (List.mem_map.mpr ⟨a,ha,rfl⟩) x (by simp) (Sum.inr.inj e)
  have e:ys++(x,y)::zs=(ys++[(x,y)])++zs:=by simp
  rw[List.length_cons] at hz
  have hll:=hl.len
  refine wpAny_bind (wpAny_bind (hk _ _ _ _ fun tk t=>wpAny_bind (wpAny_holding (hv _ _ _ _ fun tk2 t2=>wpAny_bind (wpAny_holding (wpAny_dictSet_pairs (hsz:=Nat.le_of_lt (qC (by omega))) (v6 P w x t) hd fun h1 hd1 s1=>wpAny_pure ?_))))))
  rw[XE hnew] at hd1
  refine ih (ys:=ys++[(x,y)]) hl.snoc hd1 (by rw[<-e]; exact hn) (by simp; omega) fun h' tk' l' a b c=>?_
  exact q h' tk' l' (by rw[e]; exact a) b (s1.trans c)
theorem sub_long {ps:List (Sem Value×Sem Value)} {zs:List (Str×Str)} {Q:Addr->Shared->Prop} (h:TextPs P w ps zs) (h15:15<ps.length) (hn:(zs.map (·.1)).Nodup) (hz:zs.length<=1000)
  (q:∀h' tk l',TextV l' zs->h'.DictOf (qF P w) s.heap.objs.size l'->(∀c o,s.heap.get? c=some o->h'.get? c=some o)->h'.objs.size=s.heap.objs.size+1->Q s.heap.objs.size { s with heap:=h',toks:=tk }):wpAny (model P w) A (subDict ps) Q E s:=by
 unfold subDict
 refine wpAny_bind (wpAny_alloc (wpAny_bind (wpAny_holding ?_)))
 rw[if_neg (by omega)]
 refine wpAny_bind (wpAny_rule ?_)
 refine wpAny_bind (Ku (ys:=[]) (l:=[]) h .nil (Heap.DictOf.new _) (by simpa using hn) (by simpa using hz) fun h' tk l' a b c=>wpAny_pure (wpAny_pure ?_))
 have a':TextV l' zs:=by simpa using a
 refine q h' tk l' a' b (fun x o e=>c.extBut _ _ (Nat.ne_of_lt (Heap.lt_size e)) (Heap.get?_push_of_some _ e)) ?_
 rw[c.1,Heap.size_push]
end
section
variable {P:Program} {w:World} {A:Around} {E:Value->Shared->Prop} {s:Shared} {κ:Type} [DecidableEq κ] {knd:KeyKind P w κ}
theorem put_new {d:Addr} {l:List (κ×Value)} {k:κ} {key v:Value} {Q:Unit->Shared->Prop} (hkey:knd.is k key=true) (hm:s.heap.DictOf knd d l) (hnew:k∉l.map (·.1)) (hz:l.length<=sizeLine)
  (q:∀h',h'.DictOf knd d (l++[(k,v)])->Heap.SameBut d s.heap h'->Q () { s with heap:=h' }):wpAny (model P w) A (dictPut d (knd.hash k) key v) Q E s:=by
 obtain⟨o,es,ep,ho,hc,hd,hk,hp,hn⟩:=hm
 have hlen:es.size=l.length:=by have:=hp.length; simpa using this
 have hf:(es.findIdx? fun e=>knd.is k e.key)=none:=by
  have h1:(es.findIdx? fun e=>knd.is k e.key)=l.findIdx? fun kv=>decide (kv.1=k):=by
   rw[<-hp.findIdx k]; obtain⟨a⟩:=es; simp
  rw[h1,List.findIdx?_eq_none_iff]
  intro x hx
  exact decide_eq_false fun e=>hnew (List.mem_map.mpr ⟨x,hx,e⟩)
 unfold dictPut
 refine wpAny_bind (wpAny_dictFind_of hkey ho hd hk ?_)
 rw[hf]
 refine wpAny_updateDictKeys (hz:=by omega) ho hd (q _ ⟨_,_,ep+1,Heap.get?_update_self _ ho (Obj.isFreed_of_dict (Obj.data_mapDictKeys hd _)),hc.mapDictKeys _,Obj.data_mapDictKeys hd _,hk.push hkey _, ?_, ?_⟩ (Heap.SameBut.update ..))
 ·have z:=hp.append hkey (knd.hash k) v
  obtain⟨a⟩:=es
  simpa using z
 ·rw[List.map_append,List.nodup_append]
  refine⟨hn,by simp,fun a ha b hb e=>?_⟩
  simp only[List.map_cons,List.map_nil,List.mem_singleton] at hb
  exact hnew (by rw[<-hb, <-e]; exact ha)
theorem Kq {d o:Addr} {l m:List (κ×Value)} {Q:Unit->Shared->Prop} (ne:d≠o) (hoS:(o==sysModules)=false) (hd:s.heap.DictOf knd d l) (ho:s.heap.DictOf knd o m) (h0:l≠[]) (hn:((l++m).map (·.1)).Nodup) (hz:l.length+m.length<=sizeLine)
  (q:∀h',h'.DictOf knd d (l++m)->Heap.SameBut d s.heap h'->Q () { s with heap:=h' }):wpAny (model P w) A (mergeMapping d (.ref o) false) Q E s:=by
 obtain⟨od,esd,epd,hod,hcd,hdd,hkd,hpd,hnd⟩:=id hd
 obtain⟨oo,eso,epo,hoo,hco,hdo,hko,hpo,hno⟩:=id ho
 have hlen:m.length=eso.size:=by rw[<-hpo.length]; simp
 have hlend:l.length=esd.size:=by rw[<-hpd.length]; simp
 unfold mergeMapping
 refine wpAny_bind (wpAny_isInstance ho.typeIs isSubtype_dict_dict ?_)
 dsimp only
 rw[if_pos rfl]
 refine wpAny_bind (wpAny_specialOf (name:=Str.ofString "__iter__") ho.typeIs PySem.F.slot_dict_iter.lookup ?_)
 show wpAny (model P w) A (if(o==sysModules)=true then _ else _) Q E s
 rw[if_neg (by rw[hoS]; exact Bool.false_ne_true)]
 refine wpAny_bind (wpAny_dictEntries hod hdd ?_)
 have he:¬esd.isEmpty=true:=fun z=>h0 (List.length_eq_zero_iff.mp (by rw[hlend,Array.isEmpty_iff.mp z]; rfl))
 rw[if_neg he]
 refine wpAny_bind (wpAny_dictEntries hoo hdo (wpAny_bind (wpAny_dictEpoch hoo hdo (wpAny_bind ?_))))
 rw[List.range_eq_range']
 refine wpAny_forIn_list _ (fun rest _ s'=>∃h' i,s'={ s with heap:=h' }/\rest=List.range' i (eso.size-i)/\i<=eso.size/\h'.DictOf knd d (l++m.take i)/\h'.get? o=some oo/\Heap.SameBut d s.heap h') _ ?_ ?_ _ _ ⟨s.heap,0,rfl,by simp,Nat.zero_le _,by simpa using hd,hoo,Heap.SameBut.refl _ _⟩
 ·rintro x rest b s' ⟨h',i,rfl,hr,hi,hd',hoo',hs'⟩
  have hlt:i<eso.size:=by
   rcases Nat.lt_or_ge i eso.size with h|h
   ·exact h
   ·rw[Nat.sub_eq_zero_of_le h] at hr; simp at hr
  obtain⟨rfl,hrest⟩:x=i/\rest=List.range' (i+1) (eso.size-(i+1)):=by
   rw[show eso.size-i=(eso.size-(i+1))+1 by omega,List.range'_succ] at hr
   injection hr with h1 h2
   exact⟨h1,h2⟩
  refine wpAny_bind (wpAny_dictEntries hoo' hdo ?_)
  rw[Array.getElem?_eq_getElem hlt]
  obtain⟨⟨k,v⟩,hkv⟩:∃kv,m[x]?=some kv:=⟨m[x]'(by omega),List.getElem?_eq_getElem _⟩
  obtain⟨hkey,hval⟩:=hpo.get? (e:=eso[x]) (by simp[hlt]) hkv
  obtain⟨k',hkey',hhash⟩:=hko eso[x] (Array.getElem_mem hlt)
  obtain rfl:k'=k:=knd.inj _ _ _ hkey' hkey
  have htk:m.take (x+1)=m.take x++[(k',v)]:=by rw[List.take_add_one,hkv]; rfl
  have hnew:k'∉(l++m.take x).map (·.1):=by
   have h1:((l++m.take (x+1)).map (·.1)).Nodup:=hn.sublist (List.Sublist.map _ (List.Sublist.append_left (List.take_sublist _ _) _))
   rw[htk, <-List.append_assoc,List.map_append,List.nodup_append] at h1
   exact fun z=>h1.2.2 k' z k' (by simp) rfl
  have hzx:(l++m.take x).length<=sizeLine:=by rw[List.length_append,List.length_take]; omega
  show wpAny (model P w) A ((holding [eso[x].key,eso[x].val] (dictPut d eso[x].hash eso[x].key eso[x].val)) >>= _) _ E _
  rw[hhash,hval]
  refine wpAny_bind (wpAny_holding (put_new hkey hd' hnew hzx fun h'' hd'' hs''=>?_))
  have hoo'':h''.get? o=some oo:=(hs''.2 o (Ne.symm ne)).trans hoo'
  refine wpAny_bind (wpAny_dictEpoch hoo'' hdo ?_)
  rw[if_neg (by simp)]
  exact wpAny_pure ⟨h'',x+1,rfl,hrest,hlt,by rw[htk, <-List.append_assoc]; exact hd'',hoo'',hs'.trans hs''⟩
 ·rintro b s' ⟨h',i,rfl,hr,hi,hd',hoo',hs'⟩
  have hin:i=eso.size:=by
   rcases Nat.lt_or_ge i eso.size with h|h
   ·rw[show eso.size-i=(eso.size-(i+1))+1 by omega,List.range'_succ] at hr; exact nomatch hr
   ·exact Nat.le_antisymm hi h
  rw[hin, <-hlen,List.take_length] at hd'
  exact wpAny_pure (q h' hd' hs')
end
section
variable {P:Program} {w:World} {A:Around} {E:Value->Shared->Prop} {s:Shared}
theorem j3 {mn:Option Addr} {f:(Option (Sem Value)×Sem Value)->(Option Addr×List (Sem Value×Sem Value))->Sem (ForInStep (Option Addr×List (Sem Value×Sem Value)))}
  (hf:∀(p:Sem Value×Sem Value) (run:List (Sem Value×Sem Value)),run.length+1<17->f (some p.1,p.2) (mn,run)=pure (.yield (mn,run++[p]))) {rest:List (Option (Sem Value)×Sem Value)} :
  ∀(items run:List (Sem Value×Sem Value)),run.length+items.length<17->forIn ((items.map fun p=>(some p.1,p.2))++rest) (mn,run) f=forIn rest (mn,run++items) f
 | [],run,_=>by simp
 |p::items,run,h=>by
  rw[List.length_cons] at h
  rw[List.map_cons,List.cons_append,List.forIn_cons,hf p run (by omega),pure_bind]
  have:=j3 hf (rest:=rest) items (run++[p]) (by simp; omega)
  simpa using this
theorem XN:∀{ps:List (Sem Value×Sem Value)} {zs:List (Str×Str)} {s:Shared} {Q:List (Value×Value)->Shared->Prop},TextPs P w ps zs->(∀tk vs kvs,Carries (qF P w) vs kvs->TextV kvs zs->Q vs { s with toks:=tk })->wpAny (model P w) A (evalPairs ps) Q E s:=by
 intro ps zs s Q h
 induction h generalizing s Q with
 |nil=>exact fun q=>evalPairs_nil (q s.toks [] [] trivial .nil)
 | @cons k v x y ps zs hk hv r ih =>
  exact fun q=>evalPairs_cons (hk _ _ _ _ fun tk t=>hv _ _ _ _ fun tk2 t2=>ih fun tk3 vs kvs c e=>q tk3 _ ((Sum.inr x, .str y t2)::kvs) ⟨v6 P w x t,rfl,c⟩ (.cons e))
theorem Js {ps:List (Sem Value×Sem Value)} {zs:List (Str×Str)} {Q:Addr->Shared->Prop} (h:TextPs P w ps zs) (h15:ps.length<=15) (hn:(zs.map (·.1)).Nodup)
  (q:∀h' tk l',TextV l' zs->h'.DictOf (qF P w) s.heap.objs.size l'->(∀c o,s.heap.get? c=some o->h'.get? c=some o)->Q s.heap.objs.size { s with heap:=h',toks:=tk }):wpAny (model P w) A (subDict ps) Q E s:=by
 refine wpAny_subDict (knd:=qF P w) h15 (XN h fun tk vs kvs c e=>⟨kvs,c,Heap.DictOf.new _,fun h' hd hs=>?_⟩)
 have hk:(kvs.map (·.1)).Nodup:=by
  rw[e.keys]
  have:(zs.map fun z=>(Sum.inr z.1:Key))=(zs.map (·.1)).map Sum.inr:=by rw[List.map_map]; rfl
  rw[this]
  exact List.Pairwise.map _ (fun a b hab z=>hab (Sum.inr.inj z)) hn
 rw[merged_nil_of_nodup kvs hk] at hd
 exact q h' _ kvs e hd fun c o z=>hs.extBut _ _ (Nat.ne_of_lt (Heap.lt_size z)) (Heap.get?_push_of_some _ z)
theorem TextV.app {l m:List (Key×Value)} {ys zs:List (Str×Str)} (h:TextV l ys) (h':TextV m zs):TextV (l++m) (ys++zs):=by
 induction h with
 |nil=>exact h'
 |cons _ ih=>exact .cons ih
theorem K5 {a16 b:List (Sem Value×Sem Value)} {p:Sem Value×Sem Value} {za zb:List (Str×Str)} {Q:Value->Shared->Prop} (ha:TextPs P w (a16++[p]) za) (hb:TextPs P w b zb) (l16:a16.length=16) (b0:b≠[]) (b15:b.length<=15) (hn:((za++zb).map (·.1)).Nodup) (hs:sysModules<s.heap.objs.size)
  (q:∀h' tk l',TextV l' (za++zb)->h'.DictOf (qF P w) s.heap.objs.size l'->(∀c o,s.heap.get? c=some o->h'.get? c=some o)->Q (.ref s.heap.objs.size) { s with heap:=h',toks:=tk }) :
  wpAny (model P w) A (dictDisplay ((a16++p::b).map fun p=>(some p.1,p.2))) Q E s:=by
 have hla:=ha.len
 have hlb:=hb.len
 rw[List.length_append,List.length_singleton] at hla
 have hna:(za.map (·.1)).Nodup:=hn.sublist (List.Sublist.map _ (List.sublist_append_left _ _))
 have hnb:(zb.map (·.1)).Nodup:=hn.sublist (List.Sublist.map _ (List.sublist_append_right _ _))
 unfold dictDisplay
 dsimp only
 rw[List.map_append,List.map_cons]
 rw[j3 (fun p run h=>by
  have hne:((run++[(p.1,p.2)]).length==17)=false:=by simp; omega
  simp only[hne,Bool.false_eq_true,if_false]) a16 [] (by simp; omega)]
 rw[List.forIn_cons,List.nil_append]
 have h17:((a16++[(p.1,p.2)]).length==17)=true:=by simp[l16]
 have hne17:(a16++[(p.1,p.2)]).isEmpty=false:=by simp
 simp only[h17,hne17,if_true,Bool.false_eq_true,if_false]
 refine wpAny_bind (wpAny_bind (wpAny_bind (wpAny_bind (sub_long (ps:=a16++[(p.1,p.2)]) ha (by simp; omega) hna (by omega) fun h1 tk1 l1 e1 d1 k1 z1=>wpAny_pure (wpAny_pure ?_)))))
 dsimp only
 rw[<-List.append_nil (List.map (fun p:Sem Value×Sem Value=>(some p.1,p.2)) b)]
 rw[j3 (fun p run h=>by
  have hne:((run++[(p.1,p.2)]).length==17)=false:=by simp; omega
  simp only[hne,Bool.false_eq_true,if_false]) b [] (by simp; omega)]
 rw[List.forIn_nil,List.nil_append]
 refine wpAny_pure ?_
 dsimp only
 have hbe:b.isEmpty=false:=by cases b<;>first|exact absurd rfl b0|rfl
 simp only[hbe,Bool.false_eq_true,if_false]
 have hne:s.heap.objs.size≠h1.objs.size:=by rw[z1]; exact Nat.ne_of_lt (Nat.lt_succ_self _)
 refine wpAny_bind (wpAny_bind (wpAny_holding (Js (s:={ s with heap:=h1,toks:=tk1 }) hb b15 hnb fun h2 tk2 l2 e2 d2 k2=>?_)))
 have d1':h2.DictOf (qF P w) s.heap.objs.size l1:=by
  obtain⟨o,es,ep,ho,r⟩:=d1
  exact⟨o,es,ep,k2 _ o ho,r⟩
 have hn':((l1++l2).map (·.1)).Nodup:=by
  rw[(e1.app e2).keys]
  have:((za++zb).map fun z=>(Sum.inr z.1:Key))=((za++zb).map (·.1)).map Sum.inr:=by rw[List.map_map]; rfl
  rw[this]
  exact List.Pairwise.map _ (fun a b hab z=>hab (Sum.inr.inj z)) hn
 have y1:=e1.len
 have y2:=e2.len
 have hoS:(h1.objs.size==sysModules)=false:=beq_eq_false_iff_ne.mpr (by rw[z1]; exact Ne.symm (Nat.ne_of_lt (Nat.lt_succ_of_lt hs)))
 refine wpAny_bind (wpAny_onRaise (wpAny_holding (Kq (s:={ s with heap:=h2,toks:=tk2 }) hne hoS d1' d2 (fun z=>by rw[z] at y1; simp at y1; omega) hn' (Nat.le_of_lt (qC (by omega))) fun h3 d3 s3=>wpAny_pure (wpAny_pure ?_))))
 exact q h3 tk2 _ (e1.app e2) d3 fun c o e=>s3.extBut _ _ (Nat.ne_of_lt (Heap.lt_size e)) (k2 _ _ (k1 _ _ e))
end
section
variable {P:Program} {w:World} {A:Around} {E:Value->Shared->Prop} {s:Shared}
theorem TextPs.cut:∀(n:Nat) {ps:List (Sem Value×Sem Value)} {zs:List (Str×Str)},TextPs P w ps zs->TextPs P w (ps.take n) (zs.take n)/\TextPs P w (ps.drop n) (zs.drop n)
 |0,_,_,h=>⟨by simpa using .nil,by simpa using h⟩
 |n+1,_,_, .nil=>⟨by simpa using .nil,by simpa using .nil⟩
 |n+1,_,_, .cons hk hv r=>⟨.cons hk hv (r.cut n).1,(r.cut n).2⟩
theorem X3 {ps:List (Sem Value×Sem Value)} {zs:List (Str×Str)} {Q:Value->Shared->Prop} (h:TextPs P w ps zs) (h1:17<zs.length) (h2:zs.length<=32) (hn:(zs.map (·.1)).Nodup) (hs:sysModules<s.heap.objs.size)
  (q:∀h' tk l',TextV l' zs->h'.DictOf (qF P w) s.heap.objs.size l'->(∀c o,s.heap.get? c=some o->h'.get? c=some o)->Q (.ref s.heap.objs.size) { s with heap:=h',toks:=tk }) :
  wpAny (model P w) A (dictDisplay (ps.map fun p=>(some p.1,p.2))) Q E s:=by
 have hl:=h.len
 have h16:16<ps.length:=by omega
 have e17:ps.take 17=ps.take 16++[ps[16]]:=by rw[List.take_succ,List.getElem?_eq_getElem h16]; rfl
 have e0:ps=ps.take 16++ps[16]::ps.drop 17:=by
  conv=>lhs; rw[<-List.take_append_drop 17 ps,e17,List.append_assoc]
  rfl
 have c:=h.cut 17
 rw[e17] at c
 rw[e0]
 have ez:zs.take 17++zs.drop 17=zs:=List.take_append_drop _ _
 exact K5 c.1 c.2 (by rw[List.length_take]; omega) (fun z=>by have:=congrArg List.length z; rw[List.length_drop,List.length_nil] at this; omega) (by rw[List.length_drop]; omega) (by rw[ez]; exact hn) hs fun h' tk l' a b c=>q h' tk l' (by rw[ez] at a; exact a) b c
inductive ConstPs:List (Option Expr)->List Expr->List (Str×Str)->Prop
 |nil:ConstPs [] [] []
 |cons {x y:Str} {j j':Nat} {p p':Pos} {ks:List (Option Expr)} {vs:List Expr} {zs:List (Str×Str)} (r:ConstPs ks vs zs):ConstPs (some (.Constant (.str x) j p)::ks) (.Constant (.str y) j' p'::vs) ((x,y)::zs)
theorem ConstPs.all {ks:List (Option Expr)} {vs:List Expr} {zs:List (Str×Str)} (h:ConstPs ks vs zs):ks.all (·.isSome)=true/\ks.length=vs.length:=by
 induction h with
 |nil=>exact⟨rfl,rfl⟩
 |cons _ ih=>exact⟨by rw[List.all_cons,ih.1]; rfl,by rw[List.length_cons,List.length_cons,ih.2]⟩
theorem ConstPs.text {ks:List (Option Expr)} {vs:List Expr} {zs:List (Str×Str)} {env:Env} {pos:Pos} (h:ConstPs ks vs zs):TextPs P w (pairTrees ks vs env pos) zs:=by
 induction h with
 |nil=>exact .nil
 | @cons x y j j' p p' ks vs zs r ih =>
  exact .cons (fun A E s Q q=>Calls.Constant_str (q _ _)) (fun A E s Q q=>wpAny_bind (Calls.Constant_str (wpAny_bind (wpAny_standAt (wpAny_pure (q _ _)))))) ih
theorem TextV.kv {l:List (Key×Value)} {zs:List (Str×Str)} (h:TextV l zs):KV (zs.map fun z=>((.inr z.1:Key),V.str z.2)) l:=by
 induction h with
 |nil=>exact .nil
 |cons _ ih=>exact .cons ⟨rfl,_,rfl⟩ ih
end
def Jp (zs:List (Str×Str)):TE:=fun _ H Q=>∀p,H p=none->Q (.ref p) (upd H p (.dK (zs.map fun z=>((.inr z.1:Key),V.str z.2))))
theorem pe_dictC {X:Cx} {pos:Pos} {keys:List (Option Expr)} {values:List Expr} {zs:List (Str×Str)} (c:ConstPs keys values zs) (h1:17<zs.length) (h2:zs.length<=32) (hn:(zs.map (·.1)).Nodup):PE X (.Dict keys values pos) (Jp zs):=fun pins s σ H Q I q=>by
 rw[arm_eval_Dict,zip_pairTrees keys values X.env pos c.all.1 c.all.2]
 refine wpAny_bind (wpAny_standAt (X3 c.text h1 h2 hn I.big fun h' tk l' a b k=>?_))
 refine⟨.ref s.heap.objs.size,_,I.laid (t':=tk) k (Nat.le_refl _) (show ObjOk X.prog X.w _ h' _ (.dK _) from⟨?_,beq_eq_false_iff_ne.mpr (Ne.symm (Nat.ne_of_lt I.big)),l',a.kv,b⟩),rfl,q _ (I.hok.fresh (Nat.le_refl _))⟩
 rw[List.length_map]
 exact Nat.le_of_lt (qC (by omega))
theorem qe_dictC {X:Cx} {pos:Pos} {keys:List (Option Expr)} {values:List Expr} {zs:List (Str×Str)} (c:ConstPs keys values zs) (h1:17<zs.length) (h2:zs.length<=32) (hn:(zs.map (·.1)).Nodup):QE X (.Dict keys values pos) (Jp zs):=⟨pe_dictC c h1 h2 hn⟩
def uDictC (zs:List (Str×Str)):UE:=fun _ M Q=>Q (.m M.length) (M++[.dK (zs.map fun z=>((.inr z.1:Key),U.p (.str z.2)))])
theorem Vr {A:Addr->Prop} {ι:List Addr} {H:Hp}:∀(zs:List (Str×Str)),Paired (fun(g:Key×V) (f:Key×U)=>g.1=f.1/\RepU A ι H g.2 f.2) (zs.map fun z=>((.inr z.1:Key),V.str z.2)) (zs.map fun z=>((.inr z.1:Key),U.p (.str z.2)))
 | []=>.nil
 |_::zs=>.cons ⟨rfl, .p (.str _)⟩ (Vr zs)
theorem ce_dictC {zs:List (Str×Str)}:ZE (Jp zs) (uDictC zs):=⟨fun A ι σ H ρ M Qu Q w e q k p hp =>
 k _ _ (ι++[p]) _ _ (.push hp) (w.push (mo:=.dK _) hp ⟨_,upd_same,Vr zs⟩) (.m (by rw[<-w.len]; exact xR)) q⟩
def CatAS (x y:U) (M:MM) (Q:UK):Prop:=∃xs ys,x=.p (.tup xs)/\y=.p (.tup ys)/\xs.length+ys.length<=sizeLine/\Q (.p (.tup (xs++ys))) M
def uCatA (ua ub:UE):UE:=fun ρ M Q=>ua ρ M fun x M1=>ub ρ M1 fun y M2=>CatAS x y M2 Q
section
variable {X:Cx} {K:PySem.W.Frag} {o e:Expr} {es:List Expr} {to:TE} {t:TA} {name:Str} {apos cpos:Pos} {T id:String} {r:V->List V->Hp->VK->Prop}
theorem qe_bmK (hK:X.K=K) (pa:PlainAttrs T) (slot:Slot T name id) (hty:typeOf (.builtin id)=pure (.type "method_descriptor")) (hm:MtR X id r) (ho:QE X o to) (ha:QA X (e::es) t) (hbase:attributeBase o name X.env (eval o X.env)=eval o X.env:=by rfl) (hfew:((backTo cpos (starEach (e::es) X.env)).all (fun x => !x.1)&&(backToKw cpos (keywordEach [] X.env)).all (fun x=>x.1.isSome)
   && decide ((e::es).length+([]:List Keyword).length+(if([]:List Keyword).isEmpty then 0 else 1)<30))=true:=by rfl) (hline:(apos.endLine==cpos.line)=true:=by rfl) (hs:starEach (e::es) X.env=(false,eval e X.env)::starEach es X.env:=by rfl) (hplain:(backTo cpos (starEach es X.env)).any (·.1)=false:=by rfl):QE X (.Call (.Attribute o name apos) (e::es) [] cpos) (tBM K T r to t):=by
 subst hK
 exact jo pa slot hty hm ho ha hbase hfew hline hs hplain
end
section
variable {X:Cx} {K:PySem.W.Frag} {to:TE} {uo:UE}
def rUpper:V->List V->Hp->VK->Prop:=fun x xs H Q=>∃y,x=.str y/\xs=[]/\y.length<=5000000/\Q (.str (Txt.upper y)) H
theorem Jc (x:Str):(Txt.upper x).length<=3*x.length:=StrLaws.placedRaw_le3 x.cps (fun _ c=>Unicode.upperOf c) fun _ c=>StrLaws.upperOf_le3 c
theorem mt_upper:MtR X "str.upper" rUpper:=by
 intro pins s σ H x xs v us Q I rx r h
 obtain⟨y,rfl,rfl,hz,q⟩:=h
 obtain⟨t,rfl⟩:=rx
 cases r
 exact SC.upper (by have:=Jc y; have:=qC (n:=999) (by decide); exact decide_eq_false (by rw[sizeLine_eq]; omega)) ⟨.str _,H,I.tok _,⟨_,rfl⟩,q⟩
def Jf (uo:UE):UE:=fun ρ M Q=>uo ρ M fun x M1=>∃y,x=.p (.str y)/\y.length<=5000000/\Q (.p (.str (Txt.upper y))) M1
theorem ce_upper (ho:ZE to uo):ZE (tBM0 K "str" rUpper to) (Jf uo):=⟨fun A ι σ H ρ M Qu Q w e q k =>
 ho.h A ι σ H ρ M _ _ w e q fun x M1 ι1 v H1 l1 w1 r1 ⟨y,ex,hz,q1⟩=>by
  subst ex
  cases r1 with
  |p r =>
  cases r
  exact⟨rfl,y,rfl,rfl,hz,k _ M1 ι1 _ H1 l1 w1 (.p (.str _)) q1⟩⟩
end
def uLenT (ua:UE):UE:=fun ρ M Q=>ua ρ M fun x M1=>∃ts,x=.p (.tup ts)/\Q (.p (.int ts.length)) M1
structure FliN (X:Cx) (outer:List Env) (a:Addr) (C:Value) (d:Option Addr) (H':Hp) (s':Shared):Prop where
 own:∀o,s'.heap.get? a=some o->o.dict=d
 os:s'.os=X.s₀.os
 bare:AllBare s'.gens
 fly:∃(B:Heap) (a0 fl:Value),B.StaysIn s'.heap/\B.get? a=none/\s'.heap.FunFrames B (X.env::outer)/\s'.heap.TracedAtW B a C a0 fl/\HOk X.prog X.w H' B/\(∀b∈frs outer,B.get? b=none)/\(∀b o,X.s₀.heap.get? b=some o->X.H₀ b=none->b∉frs outer->B.get? b=some o) /\
  ∀b o,X.s₀.heap.get? b=some o->X.H₀ b≠none->∃o',B.get? b=some o'
 up:∀b o,X.s₀.heap.get? b=some o->X.H₀ b=none->b∈frs outer->∃sl,s'.heap.get? b=some { o with slots:=sl }
 free:∀b o,X.s₀.heap.get? b=some o->X.H₀ b=none->H' b=none
 tups:∀b xs,X.H₀ b=some (.tup xs)->H' b=some (.tup xs)
 frzs:∀b o u,X.H₀ b=some (.frz o u)->H' b=some (.frz o u)
 tbls:∀b ps,X.H₀ b=some (.tbl ps)->∃more,H' b=some (.tbl (ps++more))
section
variable {M:Model} {A:Around} {R:Value->Shared->Prop} {s:Shared} {base:Heap} {env:Env} {outer:List Env} {L e:Addr} {cls a0 fl:Value}
theorem note_any {Q:Unit->Shared->Prop} (hfr:A.frames=some (env::outer)) (hl:s.heap.FunFrames base (env::outer)) (hf:env.frame=some L) (ht:s.heap.TracedAtW base e cls a0 fl) (hkb:base.StaysIn s.heap) (hen:base.get? e=none)
  (h:∀h',Heap.HeldW base (env::outer) e cls a0 L h'->s.heap.UpToSlots h'->Q () { s with heap:=h' }):wpAny M A (noteFrame (.ref e) env) Q R s:=by
 by_cases hfl:fl=rawInt L
 ·subst hfl
  exact wpAny_noteFrame_againW hf ht (h s.heap ⟨hkb,hen,hl,ht⟩ (.refl _))
 obtain⟨oe,vs,T,oT,ts,he,⟨hc,h0⟩,hd,h1,hnT,hTe,hT,hdT,h3⟩:=ht
 subst hc
 have rec':∀b o,s.heap.get? b=some o->(∀vs,o.data ≠ .fields vs)->b≠T:=fun b o hb hnf q=>by
  rw[q,hT] at hb; cases hb; exact hnf ts hdT
 have oth:∀b,b≠T->(s.heap.update T (Obj.mapFields (·.setIfInBounds 3 Value.none))).get? b=s.heap.get? b:=fun b hb=>Heap.get?_update_other _ _ (Ne.symm hb)
 unfold noteFrame
 simp only[hf]
 refine wpAny_bind (wpAny_field he hd h1 ?_)
 rw[if_pos (show(Value.ref T != Value.none)=true from by simp)]
 refine wpAny_bind (wpAny_field hT hdT h3 ?_)
 rw[if_neg (show ¬((fl==rawInt L)=true) from fun z=>hfl (eq_of_beq z))]
 refine wpAny_bind (wpAny_setField hT hdT (Array.getElem?_eq_some_iff.mp h3).1 ?_)
 refine wpAny_entryW hfr (hl.of_keeps fun b o hb hnf=>⟨o,(oth b (rec' b o hb hnf)).trans hb,rfl⟩) hf ((oth e (Ne.symm hTe)).trans he)
  (fun b o hbo=>(oth b fun q=>by rw[q,hnT] at hbo; cases hbo).trans (hkb b o hbo)) hen hd (Array.getElem?_eq_some_iff.mp h1).1 h0 fun h' hN=>?_
 obtain⟨x1,x2,x3,x4⟩:=hN
 exact h h' ⟨x1,hen,x2,x3⟩ fun b o hb hnf=>x4 b o ((oth b (rec' b o hb hnf)).trans hb) hnf
theorem KC {Q:Unit->Shared->Prop} (hfr:A.frames=some (env::outer)) (hl:s.heap.FunFrames base (env::outer)) (hf:env.frame=some L) (ht:s.heap.TracedAtW base e cls a0 fl) (hkb:base.StaysIn s.heap) (hen:base.get? e=none)
  (h:∀h',Heap.FlyingW base outer e cls a0 h'->s.heap.UpToSlots h'->Q () { s with heap:=h' }):wpAny M A (leaving env (.ref e)) Q R s:=by
 unfold leaving
 refine wpAny_bind (note_any hfr hl hf ht hkb hen fun h1 hh up1=>?_)
 refine wpAny_landsW hh fun h' hfl up=>?_
 obtain⟨k1,k2,⟨_,_,k3⟩,k4⟩:=hfl
 exact h h' ⟨k1,k2,k3,k4⟩ (up1.trans up)
end
section
variable {X:Cx} {outer:List Env}
theorem Zb (Y:Body X outer) {a:Addr} {C:Value} {d:Option Addr} {H':Hp} {s':Shared} {E:XK} {R:Value->Shared->Prop} {M:Model} {A:Around} (hA:A.frames=some X.stack) (ok:X.Ok) (F:FliN X outer a C d H' s') (hE:E C d H') :
  wpAny M A (leaving X.env (.ref a)) (fun _ s''=>CXe X.prog X.w outer X.H₀ X.s₀ E (.ref a) s'') R s':=by
 obtain⟨B,a0,fl,st,na,ff,tr,hok,nb,kp,th⟩:=F.fly
 rw[Y.stk] at hA
 have fs:∀b,b∈frs outer↔b∈X.fs:=fun b=>by show _↔b∈frs X.outer; rw[Y.out]
 refine wpAny_mono (DK.any (jc _ _) (KC hA ff Y.fr tr st na (Q:=fun _ s2=>(Heap.FlyingW B outer a C a0 s2.heap/\s'.heap.UpToSlots s2.heap)/\∃h',s2={ s' with heap:=h' }) fun h' x1 x4=>⟨⟨x1,x4⟩,h',rfl⟩)) (fun _ s2 z=>?_) fun _ _ q=>q.1
 obtain⟨⟨⟨x1,x4⟩,h',rfl⟩,kd⟩:=z
 refine⟨a,C,d,H',rfl,⟨?_,F.os,F.bare,⟨B,a0,x1,hok,nb,kp,th⟩, ?_,F.free,F.tups,F.frzs,F.tbls⟩,hE⟩
 ·obtain⟨o1,e1,_⟩:=tr.there
  exact fun o q=>(kd.get (d:=0) e1 q).trans (F.own o1 e1)
 ·intro b o q n hb
  obtain⟨sl,e1⟩:=F.up b o q n hb
  obtain⟨_,o',ho',hd⟩:=ok.funs.mem (show b∈X.outer.filterMap (·.frame) from(fs b).mp hb)
  rw[q] at ho'; cases ho'
  obtain⟨sl2,e2⟩:=x4 b _ e1 hd
  exact⟨sl2,e2⟩
end
section
variable {M:Model} {A:Around} {R:Value->Shared->Prop} {s:Shared} {base:Heap} {env:Env} {l:List Env} {e:Addr} {cls a0 fl:Value}
theorem note_env {x:Value} {env':Env} (h:env.frame=env'.frame):noteFrame x env=noteFrame x env':=by
 unfold noteFrame PySem.frameOf
 rw[h]
theorem pass_on {α:Type} {what:String} {Q:α->Shared->Prop} (hkb:base.StaysIn s.heap) (hl:s.heap.FunFrames base l) (ht:s.heap.TracedAtW base e cls a0 fl)
  (h:∀h' fl',base.StaysIn h'->h'.FunFrames base l->h'.TracedAtW base e cls a0 fl'->s.heap.UpToSlots h'->(∀o,h'.get? e=some o->s.heap.get? e=some o)->R (.ref e) { s with heap:=h' }):wpAny M A (PySem.passOn what (.ref e) env:Sem α) Q R s:=by
 obtain⟨oe,vs,T,oT,ts,he,hc,hd,h1,hnT,hTe,hT,hdT,h3⟩:=ht
 have hsz3:3<ts.size:=(Array.getElem?_eq_some_iff.mp h3).1
 have oth:∀(v:Value) b,b≠T->(s.heap.update T (Obj.mapFields (·.setIfInBounds 3 v))).get? b=s.heap.get? b:=fun v b hb=>Heap.get?_update_other _ _ (Ne.symm hb)
 have rec':∀b o,s.heap.get? b=some o->(∀vs,o.data ≠ .fields vs)->b≠T:=fun b o hb hnf q=>by
  rw[q,hT] at hb; cases hb; exact hnf ts hdT
 unfold PySem.passOn setFlight
 refine wpAny_bind (wpAny_field he hd h1 ?_)
 rw[if_neg (show ¬((Value.ref T==Value.none)=true) from by simp)]
 refine wpAny_bind (wpAny_bind (wpAny_field he hd h1 ?_))
 rw[if_pos (show(Value.ref T != Value.none)=true from by simp)]
 refine wpAny_setField hT hdT hsz3 (wpAny_throw ?_)
 exact h _ _ (fun b o hbo=>(oth _ b fun q=>by rw[q,hnT] at hbo; cases hbo).trans (hkb b o hbo)) (hl.of_keeps fun b o hb hnf=>⟨o,(oth _ b (rec' b o hb hnf)).trans hb,rfl⟩)
  ⟨oe,vs,T,_,_,(oth _ e (Ne.symm hTe)).trans he,hc,hd,h1,hnT,hTe,Heap.get?_update_self _ hT (Obj.isFreed_of_fields (Obj.data_mapFields hdT _)),Obj.data_mapFields hdT _,by simp[hsz3]; rfl⟩
  (fun b o hb hnf=>⟨o.slots,(oth _ b (rec' b o hb hnf)).trans hb⟩) fun o q=>((oth _ e (Ne.symm hTe)).symm.trans q)
end
section
variable {X:Cx} {outer:List Env} {pins pins':List (Addr×Obj)} {σ σ':St} {H3 H1 H':Hp} {s3 s1 s':Shared} {scope:Scope} {cl:List (Str×Addr)} {N:List Str} {fp:List Addr} {a:Addr} {C:Value} {d:Option Addr}
theorem Zj {M:Model} {A:Around} {use:Option (Value->Sem Unit)} {RR:Value->Shared->Prop} {acc:Value} (Z:Body X outer) (hA:A.frames=some X.stack) (I3:Inv X pins σ H3 s3) (f3:∀b∈fp,FpOk X pins H3 b) (J:Inv (cxC X scope cl N fp s3 H3) pins' σ' H1 s1) (F:Fli X.prog X.w X.stack H1 s1 a C d H' s')
  (hx:∀s4,FliN X outer a C d H' s4->X.xe (.ref a) s4):notedBy M A (compEnvC scope cl s3.heap.objs.size X.env) (fun x s''=>compPost M A X.xe use RR acc s3.heap.objs.size (.error x) s'') (.ref a) s':=by
 obtain⟨B,a0,fl,hok,nb,kp,th⟩:=F.fly
 have B3:Un (frs X.stack) fp H3 H1 s3.heap s1.heap:=J.base
 have hAc:A.frames=some (X.env::outer):=by rw[hA,Z.stk]
 have fl':Heap.FlyingW B (X.env::outer) a C a0 s'.heap:=by rw[<-Z.stk]; exact fl
 have frl:∀b∈frs X.stack,b<s3.heap.objs.size:=fun b hb=>by
  obtain⟨_,o,ho,_⟩:=I3.stack.mem hb
  exact Heap.lt_size ho
 have nC:s3.heap.objs.size∉frs X.stack:=fun z=>absurd (frl _ z) (Nat.lt_irrefl _)
 have s0:∀b o,X.s₀.heap.get? b=some o->b<s3.heap.objs.size:=fun b o q=>Nat.lt_of_lt_of_le (Heap.lt_size q) I3.sz
 have nfp:∀b o,X.s₀.heap.get? b=some o->b∉fp:=fun b o q hb=>by
  rcases(f3 b hb).2.2.2.1 with z|z
  ·rw[Z.ex] at z; simp at z
  ·exact absurd (Heap.lt_size q) (Nat.not_lt.mpr z)
 have nx:∀b,b∉X.ex:=fun b=>by rw[Z.ex]; simp
 have fs:∀b,b∈frs outer↔b∈X.fs:=fun b=>by show _↔b∈frs X.outer; rw[Z.out]
 have ob:∀b o,X.s₀.heap.get? b=some o->b∉frs outer->b∉frs X.stack:=fun b o q n z=>by
  rcases Z.mem z with z|z
  ·exact I3.old q z
  ·exact n z
 have jC:H1 s3.heap.objs.size=none:=J.free
 obtain⟨m,⟨oC,esC,epC,hoC,rC⟩,_⟩:=J.loc
 have bC:B.get? s3.heap.objs.size=some oC:=kp _ oC hoC jC nC
 have hC':H' s3.heap.objs.size=none:=F.free _ oC hoC jC
 unfold notedBy
 rw[note_env (env:=compEnvC scope cl s3.heap.objs.size X.env) (env':=X.env) rfl]
 refine wpAny_mono (DK.any (Zc _ _) (wpAny_looks_onW hAc Z.fr fl' (Q:=fun _ s2=>(Heap.HeldW B (X.env::outer) a C a0 X.env.locals s2.heap/\s'.heap.UpToSlots s2.heap)/\∃h',s2={ s' with heap:=h' }) fun h' x1 x2=>⟨⟨x1,x2⟩,h',rfl⟩)) (fun _ s2 z=>?_) fun _ _ q=>q.1
 obtain⟨⟨⟨⟨st2,na2,ff2,tr2⟩,up2⟩,h2,rfl⟩,kd2⟩:=z
 refine⟨m,⟨oC,esC,epC,st2 _ _ bC,rC⟩,fun h3 sb cenv _=>?_⟩
 have neq:∀b,B.get? b=none->b≠s3.heap.objs.size:=fun b hb z=>by rw[z,bC] at hb; cases hb
 have hid:∀b,B.get? b=none->(PySem.W.hideAll B [s3.heap.objs.size]).get? b=none:=fun b hb=>by
  cases q:(PySem.W.hideAll B [s3.heap.objs.size]).get? b with
  |none=>rfl
  |some o=>rw[PySem.W.of_hideAll _ q] at hb; cases hb
 have tr3:h3.TracedAtW (PySem.W.hideAll B [s3.heap.objs.size]) a C a0 (rawInt X.env.locals):=by
  obtain⟨oe,vs,T,oT,ts,he,hc,hd,h1,hnT,hTe,hT,hdT,h3'⟩:=tr2
  exact⟨oe,vs,T,oT,ts,sb.extBut _ _ (neq a na2) he,hc,hd,h1,hid T hnT,hTe,sb.extBut _ _ (neq T hnT) hT,hdT,h3'⟩
 have hget:∀b o,b≠s3.heap.objs.size->B.get? b=some o->(PySem.W.hideAll B [s3.heap.objs.size]).get? b=some o:=fun b o n q=>PySem.W.hideAll_get _ q (by simpa using n)
 have st3:(PySem.W.hideAll B [s3.heap.objs.size]).StaysIn h3:=fun b o q=>by
  have hb:=PySem.W.of_hideAll _ q
  have n:b≠s3.heap.objs.size:=fun z=>by rw[z,PySem.W.hideAll_none _ (.head _)] at q; cases q
  exact sb.extBut b o n (st2 b o hb)
 have ff3:h3.FunFrames (PySem.W.hideAll B [s3.heap.objs.size]) (X.env::outer):=by
  have f2:h3.FunFrames B (X.env::outer):=by
   have key:∀l:List Env,(∀env∈l,env∈X.env::outer)->h2.FunFrames B l->h3.FunFrames B l:=fun l=>by
    induction l with
    |nil=>exact fun _ _=>trivial
    |cons env l ih =>
     rintro hin ⟨k,⟨L,o,hf,hB,ho,hd⟩,r⟩
     exact⟨k,⟨L,o,hf,hB,sb.extBut _ _ (neq L hB) ho,hd⟩,ih (fun e he=>hin e (.tail _ he)) r⟩
   exact key _ (fun _ h=>h) ff2
  have key:∀l:List Env,h3.FunFrames B l->h3.FunFrames (PySem.W.hideAll B [s3.heap.objs.size]) l:=fun l=>by
   induction l with
   |nil=>exact fun _=>trivial
   |cons env l ih =>
    rintro⟨k,⟨L,o,hf,hB,ho,hd⟩,r⟩
    exact⟨k,⟨L,o,hf,hid L hB,ho,hd⟩,ih r⟩
  exact key _ f2
 refine pass_on (s:={ s' with heap:=h3 }) st3 ff3 tr3 fun h4 fl4 st4 ff4 tr4 up4 own4=>hx _ ⟨?_, ?_,F.bare,⟨PySem.W.hideAll B [s3.heap.objs.size],a0,fl4,st4,hid a na2,ff4,tr4, ?_, ?_, ?_, ?_⟩, ?_, ?_, ?_, ?_, ?_⟩
 ·intro o q
  have q3:=own4 o q
  have e2:h2.get? a=some o:=by
   obtain⟨o2,e2⟩:=tr2.there
   have:=sb.extBut _ _ (neq a na2) e2.1
   have q3:h3.get? a=some o:=q3
   rw[this] at q3
   cases q3
   exact e2.1
  obtain⟨o1,e1,_⟩:=fl.there
  exact(kd2.get (d:=0) e1 e2).trans (F.own o1 e1)
 ·exact F.os.trans (J.os.trans I3.os)
 ·exact hok.tracked fun b u hb q=>hget b u (fun z=>by rw[z] at hb; exact hb hC') q
 ·exact fun b hb=>hid b (nb b (Z.in_ hb))
 ·intro b o q n hb
  have e3:=I3.base.keep b o q n (fun z=>hb ((fs b).mpr z)) (nx b)
  have n3:=I3.base.free b o q n (nx b)
  have e1:=B3.keep b o e3 n3 (ob b o q hb) (nfp b o q)
  have n1:=B3.free b o e3 n3 (nfp b o q)
  exact hget b o (Nat.ne_of_lt (s0 b o q)) (kp b o e1 n1 (ob b o q hb))
 ·intro b o q n
  obtain⟨o3,e3⟩:=I3.base.there b o q (nx b)
  obtain⟨o1,e1⟩:=B3.there b o3 e3 (nfp b o q)
  have nst:b∉frs X.stack:=ob b o q fun z=>n (I3.ok.frf b ((fs b).mp z))
  cases hb:H1 b with
  |none=>exact⟨o1,hget b o1 (Nat.ne_of_lt (s0 b o q)) (kp b o1 e1 hb nst)⟩
  |some u =>
   obtain⟨o',e'⟩:=th b o1 e1 (by rw[hb]; simp)
   exact⟨o',hget b o' (Nat.ne_of_lt (s0 b o q)) e'⟩
 ·intro b o q n hb
  obtain⟨sl,e3⟩:=I3.base.slot b o q n ((fs b).mp hb) (nx b)
  have n3:=I3.base.free b o q n (nx b)
  obtain⟨sl1,e1⟩:=B3.slot b _ e3 n3 (Z.in_ hb) (nfp b o q)
  have n1:=B3.free b _ e3 n3 (nfp b o q)
  obtain⟨sl',e'⟩:=F.up b _ e1 n1 (Z.in_ hb)
  obtain⟨_,o',ho',hd⟩:=I3.ok.funs.mem (show b∈X.outer.filterMap (·.frame) from(fs b).mp hb)
  rw[q] at ho'; cases ho'
  obtain⟨sl2,e2⟩:=up2 b _ e' hd
  obtain⟨sl4,e4⟩:=up4 b _ (sb.extBut _ _ (Nat.ne_of_lt (s0 b o q)) e2) hd
  exact⟨sl4,e4⟩
 ·intro b o q n
  obtain⟨o3,e3⟩:=I3.base.there b o q (nx b)
  obtain⟨o1,e1⟩:=B3.there b o3 e3 (nfp b o q)
  exact F.free b o1 e1 (B3.free b o3 e3 (I3.base.free b o q n (nx b)) (nfp b o q))
 ·exact fun b xs q=>F.tups b xs (B3.tups b xs (I3.base.tups b xs q))
 ·exact fun b o u q=>F.frzs b o u (B3.frzs b o u (I3.base.frzs b o u q))
 ·intro b ps q
  obtain⟨m1,e1⟩:=I3.base.tbls b ps q
  obtain⟨m2,e2⟩:=B3.tbls b _ e1
  obtain⟨m3,e3⟩:=F.tbls b _ e2
  exact⟨m1++m2++m3,by rw[e3]; simp[Array.append_assoc]⟩
end
section
variable {X:Cx} {elt tg iter:Expr} {ifs:List Expr} {scope:Scope} {cl:List (Str×Addr)} {bs:List Bool} {ext:List Str} {pos:Pos} {g:TG} {tt:TT} {tx:TX}
theorem Vt {outer:List Env} {E:XK} {use:Option (Value->Sem Unit)} {pins:List (Addr×Obj)} {s:Shared} {σ:St} {H:Hp} {Q:VK} {RR:Value->Shared->Prop} (Z:Body X outer) (hxE:∀a C d H' s4,E C d H'->FliN X outer a C d H' s4->X.xe (.ref a) s4) (S:CompS X scope cl bs ext) (hc:X.calm=true)
  (hg:∀fp s H,PG (cxC X scope cl (X.N++ext) fp s H) tg g) (ht:∀fp s H,PTs (cxC X scope cl (X.N++ext) fp s H) ifs tt) (he:∀fp s H xe,QXe ((cxC X scope cl (X.N++ext) fp s H).wish xe) elt tx)
  (hs:∀x,foldedSetIterable iter X.env x=pure x) (hI:wpAny (model X.prog X.w) X.A (eval iter X.env) (fun v s1=>wpAny (model X.prog X.w) X.A (pyIter v) (PIE X.nox pins σ tg fun J H1=>∀acc,H1 acc=none->X6 J acc g tt (fun σ' H' Q'=>tx σ' H' Q' E) (vD bs ext.length σ) H1 Q) (fun _ _=>False) s1) X.xe s) (ep:Pos)
  (hend:∀(acc:Addr) (s2:Shared) (H2:Hp) (fp:List Addr) (σ':St) (H':Hp) (s':Shared),Inv X pins σ H2 s2->(∀b∈fp,FpOk X pins H2 b)->Inv (cxC X scope cl (X.N++ext) fp s2 H2) [] σ' H' s'->Q (.ref acc) H' ->
   compPost (model X.prog X.w) X.A X.xe use RR (.ref acc) s2.heap.objs.size (.ok .next) s') :
  wpAny (model X.prog X.w) X.A (comprehension (.ListComp elt [⟨tg,iter,ifs,0⟩] scope pos) scope X.env ep (newList []) false (eval iter X.env) use) RR X.xe s:=by
 refine wpAny_comprehension_free (use:=use) rfl hs S.clos S.kind S.names (wpAny_mono hI (fun v s1 h1=>wpAny_mono h1 (fun itv s2 h2=>?_) fun _ _ z=>z.elim) fun _ _ z=>z)
 obtain⟨it,fp,tn,J,H2,e,I2w,T,st2,f2,hW⟩:=h2
 have I2:Inv X pins σ H2 s2:=I2w.unwish
 subst e
 refine wpAny_newList ?_ (by decide)
 have hn2:H2 s2.heap.objs.size=none:=I2.hok.fresh (Nat.le_refl _)
 obtain⟨W,⟨m0,w0⟩,turn⟩:=hW s2.heap.objs.size hn2
 have I3:=I2.lnew (its:=[]) (ys:=[]) (t':=s2.toks) .nil (Nat.zero_le _)
 generalize hs3:({ s2 with heap:=s2.heap.push { cls:=.type "list", data:=.seq ([]:List Value).toArray },toks:=s2.toks }:Shared)=s3 at I3
 have hsz3:s3.heap.objs.size=s2.heap.objs.size+1:=by rw[<-hs3]; exact Heap.size_push ..
 have k3:∀b o,s2.heap.get? b=some o->s3.heap.get? b=some o:=fun b o e=>by rw[<-hs3]; exact Heap.get?_push_of_some _ e
 have fpo:∀b∈fp,b<s2.heap.objs.size:=fun b hb=>by obtain⟨o,e,_⟩:=T.obj _ _ st2 b hb; exact Heap.lt_size e
 have f3:∀b∈fp,FpOk X pins (upd H2 s2.heap.objs.size (.lst [])) b:=fun b hb=>⟨by rw[upd_ne (Nat.ne_of_lt (fpo b hb))]; exact(f2 b hb).1,(f2 b hb).2⟩
 have fps:∀b∈fp,b<s3.heap.objs.size:=fun b hb=>by rw[hsz3]; exact Nat.lt_succ_of_lt (fpo b hb)
 have st3:tn 0 s3.heap:=T.keep _ _ _ st2 fun b hb o e=>k3 b o e
 refine wpAny_newFunctionEnv S.cell (by intro y hy; simp at hy) (fun h4 hns4 hsb4=>?_) S.kind
 have k4:∀b o,s3.heap.get? b=some o->h4.get? b=some o:=fun b o e=>hsb4.extBut b o (Nat.ne_of_lt (Heap.lt_size e)) (Heap.get?_push_of_some _ e)
 have I4:=Vs (ext:=ext) (t':=s3.toks+([]:List (Str×Value)).length) S I3 f3 fps (h1:=h4) hns4 k4
 have st4:tn 0 h4:=T.keep _ _ _ st3 fun b hb o e=>k4 b o e
 generalize hs4:({ s3 with heap:=h4,toks:=s3.toks+([]:List (Str×Value)).length }:Shared)=s4 at I4 ⊢
 have st4':tn 0 s4.heap:=by rw[<-hs4]; exact st4
 -- the block
 generalize hY:cxC X scope cl (X.N++ext) fp s3 (upd H2 s2.heap.objs.size (.lst []))=Y at I4
 have hYs:∀{H':Hp},(∀b∈fp,H' b=none)->∀b∈fp,FpOk Y [] H' b:=fun hn b hb=>by
  subst hY
  refine⟨hn b hb,Nat.ne_of_lt (fps b hb),fun z=>?_, .inl hb,fun x c e=>(f3 b hb).2.2.2.2.1 x c (S.sub x c e),fun p hp=>absurd hp (by simp[cxC])⟩
  rcases List.mem_cons.mp (I3.stkSub b z) with q|q
  ·exact(f3 b hb).2.1 q
  ·exact(f3 b hb).2.2.1 q
 have hgY:PG Y tg g:=by subst hY; exact hg _ _ _
 have htY:PTs Y ifs tt:=by subst hY; exact ht _ _ _
 have heY:∀xe,QXe (Y.wish xe) elt tx:=fun xe=>by subst hY; exact he _ _ _ xe
 have hYc:Y.calm=true:=by subst hY; exact hc
 have hYm:Y.prog=X.prog/\Y.w=X.w/\Y.K=X.K/\Y.A=X.A/\Y.env=compEnvC scope cl s3.heap.objs.size X.env/\Y.xe=fun _ _=>False:=by subst hY; exact⟨rfl,rfl,rfl,rfl,rfl,rfl⟩
 obtain⟨e1,e2,e3,e4,e5,e6⟩:=hYm
 have never:∀{α:Type} {t:Sem α} {Q:α->Shared->Prop} {s:Shared} {E:Value->Shared->Prop},wpAny (model Y.prog Y.w) Y.A t Q Y.xe s->wpAny (model X.prog X.w) X.A t Q E s:=fun {α t Q s E} q=>by
  rw[e1,e2,e4,e6] at q
  exact wpAny_mono q (fun _ _ z=>z) fun _ _ z=>z.elim
 have loop:codeAny (model X.prog X.w) X.A (.compLoop (.ListComp elt [⟨tg,iter,ifs,0⟩] scope pos) 0 (.ref it) (.ref s2.heap.objs.size) (compEnvC scope cl s3.heap.objs.size X.env))
   (compPost (model X.prog X.w) X.A X.xe use RR (.ref s2.heap.objs.size) s3.heap.objs.size) s4:=by
  refine codeAny_loop rfl (fun n s'=>∃i H',Inv Y [] (vD bs ext.length σ) H' s'/\tn i s'.heap/\(∀b∈fp,H' b=none)/\W i n H') (fun n s5 hI=>?_) m0 ⟨0,_,I4,st4',fun b hb=>(f3 b hb).1,w0⟩
  obtain⟨i,H5,I5,st5,fr5,w5⟩:=hI
  show wpAny _ X.A ((compTurn (.ListComp elt [⟨tg,iter,ifs,0⟩] scope pos) 0 (.ref it) (.ref s2.heap.objs.size) (compEnvC scope cl s3.heap.objs.size X.env)).onRaise (fun x=>do noteFrame x (compEnvC scope cl s3.heap.objs.size X.env); theTreesLotGoes x)) _ _ s5
  refine wpAny_noted ?_
  rw[compTurn_list]
  rcases turn i n H5 w5 with⟨stop,qn⟩|⟨go,N,hN,step⟩
  ·refine wpAny_bind (wpAny_standAt (wpAny_bind ?_))
   have hd:=T.done Y e1 e2 e3 hYc i [] s5 _ H5 (fun _ _=>False) I5 (hYs fr5) st5 stop
   rw[e4] at hd
   refine wpAny_mono hd (fun r s6 ⟨hr,I6⟩=>?_) fun _ _ z=>z.elim
   subst hr
   subst hY
   exact wpAny_pure (hend s2.heap.objs.size s3 _ fp _ H5 s6 I3 f3 I6 qn)
  ·refine wpAny_bind (wpAny_standAt (wpAny_bind ?_))
   have hd:=T.item Y e1 e2 e3 hYc i [] s5 _ H5 (fun _ _=>False) I5 (hYs fr5) st5 go
   rw[e4] at hd
   refine wpAny_mono hd (fun r s6 ⟨u,hr,h6⟩=>?_) fun _ _ z=>z.elim
   subst hr
   refine wpAny_bind (wpAny_mono h6 (fun _ s7 ⟨x,H7,I7,r7,y7,st7,fr7⟩=>?_) fun _ _ z=>z.elim)
   have I7':=I7.pinned (hYs fr7) (T.obj _ _ st7)
   rw[<-e5]
   refine wpAny_bind (never (thn (hgY _ s7 _ H7 x u _ I7' r7 (step x H7 y7)) fun _ s8 ⟨σ8,H8,I8,⟨hx8,hl8⟩,q8⟩=>?_))
   refine wpAny_bind (never (thn (htY _ s8 σ8 H8 _ I8 q8) fun b s9 ⟨H9,I9,q9⟩=>?_))
   have again:∀{H10:Hp} {s10:Shared} {m':Nat},Inv Y ([]++kr fp s7.heap) σ8 H10 s10->m'<n->W (i+1) m' H10->∃m,m<n/\∃i H',Inv Y [] (vD bs ext.length σ) H' s10/\tn i s10.heap/\(∀b∈fp,H' b=none)/\W i m H':=fun {H10 s10 m'} I10 hm w10=>by
    refine⟨m',hm,i+1,H10,(I10.unpinned).weak hl8.symm hx8,T.keep _ _ _ st7 fun b hb o e=>(I10.pin (b,o) (List.mem_append_right _ (List.mem_append_right _ (vS hb e)))).1,fun b hb=>?_,w10⟩
    obtain⟨o,e,d⟩:=T.obj _ _ st7 b hb
    exact(I10.pin (b,o) (List.mem_append_right _ (List.mem_append_right _ (vS hb e)))).2.1
   cases b with
   |false =>
    rw[if_neg Bool.false_ne_true] at q9
    obtain⟨m',hm,w9⟩:=hN _ q9
    exact wpAny_pure ⟨by rw[e5],again I9 hm w9⟩
   |true =>
    rw[if_pos rfl] at q9
    have ev:=(heY (notedBy (model X.prog X.w) X.A (compEnvC scope cl s3.heap.objs.size X.env) (fun x s''=>compPost (model X.prog X.w) X.A X.xe use RR (.ref s2.heap.objs.size) s3.heap.objs.size (.error x) s''))).h _ s9 σ8 H9 _ E (fun pins' H' s' e' s'' I' hx'=>by
     obtain⟨a,C,d,H'',rfl,F,hE⟩:=hx'
     subst hY
     exact Zj Z I3.ok.frames I3 f3 I'.unwish F fun s4 hF=>hxE a C d H'' s4 hE hF) (I9.wish _) q9
    rw[show(Y.wish _).prog=X.prog from e1,show(Y.wish _).w=X.w from e2,show(Y.wish _).A=X.A from e4] at ev
    refine wpAny_bind (wpAny_bind (wpAny_mono ev (fun xv s10 ⟨y,H10,I10w,r10,ys,hys,hz,n10⟩=>?_) fun _ _ z=>by rw[e5]; exact z))
    have I10:=I10w.unwish
    obtain⟨m',hm,w10⟩:=hN _ n10
    refine wpAny_bind (never (thn (jU (X:=Y) _ s10 σ8 H10 (.ref s2.heap.objs.size) [y] (.ref s2.heap.objs.size) [xv] (fun _ H=>∃m',m'<n/\W (i+1) m' H) I10 rfl (.cons r10 .nil) ⟨_,ys,y,rfl,rfl,hys,hz,m',hm,w10⟩) fun _ s11 ⟨_,H11,I11,_,m2,hm2,w11⟩=>?_))
    exact wpAny_pure (wpAny_pure ⟨by rw[e5],again I11 hm2 w11⟩)
 exact codeAny_compStart_list loop (T.self X.A 0 s4 _ _ st4' loop)
end
abbrev NtX (X:Cx) (outer:List Env) (E:XK):Prop:=∀a C d H' s4,E C d H'->FliN X outer a C d H' s4->X.xe (.ref a) s4
structure QXc (X:Cx) (e:Expr) (t:TX):Prop where
 h:∀outer pins s σ H Q E,Body X outer->Cmp X E σ->NtX X outer E->Inv X pins σ H s->t σ H Q E->wpAny (model X.prog X.w) X.A (eval e X.env) (EP X pins σ Q) X.xe s
abbrev TXa:=St->Hp->(List V->Hp->Prop)->XK->Prop
structure QXa (X:Cx) (es:List Expr) (t:TXa):Prop where
 h:∀outer pos pins s σ H Q E,Body X outer->Cmp X E σ->NtX X outer E->Inv X pins σ H s->t σ H Q E->wpAny (model X.prog X.w) X.A (spliced (backTo pos (starEach es X.env))) (AP X pins σ Q) X.xe s
structure QXh (X:Cx) (st:Stmt) (t:TS):Prop where
 h:∀outer pins s σ H D,Body X outer->CmpD True X D->(∀σ,NtX X outer (EX X.mg D σ))->Inv X pins σ H s->t D σ H->wpAny (model X.prog X.w) X.A (exec st X.env) (SP X pins D) X.xe s
structure QXhs (X:Cx) (st:List Stmt) (t:TS):Prop where
 h:∀outer pins s σ H D,Body X outer->CmpD True X D->(∀σ,NtX X outer (EX X.mg D σ))->Inv X pins σ H s->t D σ H->wpAny (model X.prog X.w) X.A (execs st X.env) (SP X pins D) X.xe s
section
variable {X:Cx} {elt tg iter e a b c:Expr} {es:List Expr} {ifs:List Expr} {scope:Scope} {bs:List Bool} {ext:List Str} {pos p:Pos} {wi:TI} {g:TG} {tt:TT} {tx tx':TX} {te:TE} {tl:TXa} {st:Stmt} {rest:List Stmt} {t u:TS} {x:Str} {T:String} {r:List V->Hp->VK->Prop}
def tCompX (wi:TI) (bs:List Bool) (n:Nat) (g:TG) (tt:TT) (tx:TX):TX:=fun σ H Q E=>xu wi bs n g tt (fun σ' H' Q'=>tx σ' H' Q' E) σ H Q
theorem qxc_lc (bs:List Bool) (ext:List Str) (hi:QI X.nox tg iter wi) (hg:∀fp s H,QG (cxB X scope ext fp s H) tg g) (ht:∀fp s H,QTs (cxB X scope ext fp s H) ifs tt) (he:∀fp s H xe,QXe ((cxB X scope ext fp s H).wish xe) elt tx) (hk:zS scope X.env X.N bs=true:=by rfl) (hc:X.calm=true:=by rfl) (hs:∀x,foldedSetIterable iter X.env x=pure x:=by intro _; rfl):QXc X (.ListComp elt [⟨tg,iter,ifs,0⟩] scope pos) (tCompX wi bs ext.length g tt tx):=⟨fun outer pins s σ H Q E Z _ hx I h=>by
 rw[eval_ListComp]
 refine Vt (use:=none) (H:=H) (Q:=Q) (σ:=σ) (pins:=pins) Z hx (CompS.of I hk) hc (fun fp s H=>(hg fp s H).h) (fun fp s H=>(ht fp s H).h) he hs (wpAny_mono (hi.h pins s σ H _ (I.wish _) h) (fun _ _ z=>z) fun _ _ z=>z.elim) _ fun acc s2 H2 fp σ' H' s' I2 f2 J q=>?_
 obtain⟨m,hn,_⟩:=J.loc
 exact⟨m,hn,fun h' sb=>⟨.ref acc,H',Qr I2 f2 J sb,rfl,q⟩⟩⟩
def tCompY (K:PySem.W.Frag) (ti:TX) (bs:List Bool) (n:Nat) (g:TG) (tt:TT) (tx:TX):TX:=fun σ H Q E=>ti σ H (fun x H1=>∃a,x=.ref a/\(∃xs,SqL K H1 a xs)/\∀acc,H1 acc=none->X6 (Itl K a) acc g tt (fun σ' H' Q'=>tx σ' H' Q' E) (vD bs n σ) H1 Q) E
theorem qxc_lcY {ti:TX} (bs:List Bool) (ext:List Str) (hi:QXe X iter ti) (hg:∀fp s H,QG (cxB X scope ext fp s H) tg g) (ht:∀fp s H,QTs (cxB X scope ext fp s H) ifs tt) (he:∀fp s H xe,QXe ((cxB X scope ext fp s H).wish xe) elt tx) (hk:zS scope X.env X.N bs=true:=by rfl) (hc:X.calm=true:=by rfl) (hs:∀x,foldedSetIterable iter X.env x=pure x:=by intro _; rfl):QXc X (.ListComp elt [⟨tg,iter,ifs,0⟩] scope pos) (tCompY X.K ti bs ext.length g tt tx):=⟨fun outer pins s σ H Q E Z c hx I h=>by
 rw[eval_ListComp]
 refine Vt (use:=none) (H:=H) (Q:=Q) (σ:=σ) (pins:=pins) Z hx (CompS.of I hk) hc (fun fp s H=>(hg fp s H).h) (fun fp s H=>(ht fp s H).h) he hs ?_ _ fun acc s2 H2 fp σ' H' s' I2 f2 J q=>?_
 ·refine thn (hi.h pins s σ H _ E c I h) fun v s1 ⟨x,H1,I1,r1,q1⟩=>?_
  obtain⟨a,e,⟨xs,hq⟩,q⟩:=q1
  subst e
  cases r1
  obtain⟨its,rv,p,hz⟩:=I1.list hq
  refine wpAny_pyIter_list p.isList ?_
  refine⟨s1.heap.objs.size, [s1.heap.objs.size],_,_,H1,rfl,(I1.kept (t':=s1.toks) fun b o e=>Heap.get?_push_of_some _ e).wish _,QP a _,⟨_,Heap.get?_push_size _ rfl,rfl,rfl⟩,fun b hb=>?_,q⟩
  have e:b=s1.heap.objs.size:=by simpa using hb
  subst e
  exact(I1.wish _).fpOk (Nat.le_refl _) (I1.hok.fresh (Nat.le_refl _))
 ·obtain⟨m,hn,_⟩:=J.loc
  exact⟨m,hn,fun h' sb=>⟨.ref acc,H',Qr I2 f2 J sb,rfl,q⟩⟩⟩
def tX0 (te:TE):TX:=fun σ H Q _=>te σ H Q
theorem qxc_calm (he:QE X.nox e te):QXc X e (tX0 te):=⟨fun outer pins s σ H Q E _ k _ I h=>wpAny_mono (he.h pins s σ H Q (I.wish _) h) (fun _ _ ⟨v,H',I',r,q⟩=>⟨v,H',I'.unwish,r,q⟩) fun _ _ z=>z.elim⟩
def tOpX (r:R2) (ta tb:TX):TX:=fun σ H Q E=>ta σ H (fun x H1=>tb σ H1 (fun y H2=>r x y H2 Q) E) E
theorem qxc_op {op:Operator} {r:R2} (ho:OpR X.nox (binaryOp op) r) (ha:QXc X a tx) (hb:QXc X b tx'):QXc X (.BinOp a op b pos) (tOpX r tx tx'):=⟨fun outer pins s σ H Q E Z k n I h=>by
 refine wpAny_BinOp (thn (ha.h outer pins s σ H _ E Z k n I h) fun v s1 ⟨x,H1,I1,r1,q1⟩=>thn (hb.h outer pins s1 σ H1 _ E Z k n I1 q1) fun u s2 ⟨y,H2,I2,r2,q2⟩=>?_)
 exact wpAny_mono (ho pins s2 σ H2 x y v u Q (I2.wish _) r1 r2 q2) (fun _ _ ⟨v,H',I',r,q⟩=>⟨v,H',I'.unwish,r,q⟩) fun _ _ z=>z.elim⟩
def tIfX (tt:TT) (ta tb:TX):TX:=fun σ H Q E=>tt σ H fun b H1=>if b=true then ta σ H1 Q E else tb σ H1 Q E
theorem JP (hc:QT X.nox c tt) (ha:QXe X a tx) (hb:QXe X b tx'):QXe X (.IfExp c a b pos) (tIfX tt tx tx'):=⟨fun pins s σ H Q E k I h=>by
 refine wpAny_IfExp (wpAny_mono (hc.h pins s σ H _ (I.wish _) h) (fun d s1 ⟨H1,I1,q1⟩=>?_) fun _ _ z=>z.elim)
 cases d with
 |true=>exact ha.h pins s1 σ H1 Q E k I1.unwish q1
 |false=>exact hb.h pins s1 σ H1 Q E k I1.unwish q1⟩
def tNilX:TXa:=fun _ H Q _=>Q [] H
def tConsX (tx:TX) (tl:TXa):TXa:=fun σ H Q E=>tx σ H (fun x H1=>tl σ H1 (fun xs H2=>Q (x::xs) H2) E) E
theorem qxa_nil:QXa X [] tNilX:=⟨fun outer pos pins s σ H Q E _ _ _ I h=>Calls.spliced_nil ⟨[],H,I, .nil,h⟩⟩
theorem qxa_c (ha:QXc X e tx) (hr:QXa X es tl) (hs:starEach (e::es) X.env=(false,eval e X.env)::starEach es X.env:=by rfl):QXa X (e::es) (tConsX tx tl):=⟨fun outer pos pins s σ H Q E Z k n I h=>by
 rw[hs]
 show wpAny _ _ (spliced ((false,eval e X.env)::backTo pos (starEach es X.env))) _ _ s
 refine Calls.spliced_cons (thn (ha.h outer pins s σ H _ E Z k n I h) fun u s1 ⟨x,H1,I1,r1,q1⟩=>?_)
 exact thn (hr.h outer pos pins s1 σ H1 _ E Z k n I1 q1) fun us s2 ⟨xs,H2,I2,r2,q2⟩=>⟨x::xs,H2,I2, .cons r1 r2,q2⟩⟩
def tTupX (tl:TXa):TX:=fun σ H Q E=>tl σ H (fun xs H1=>xs.length<=sizeLine/\∀p,H1 p=none->Q (.ref p) (upd H1 p (.tup xs))) E
theorem qxc_tup {x1} (ha:QXa X es tl):QXc X (.Tuple es x1 pos) (tTupX tl):=⟨fun outer pins s σ H Q E Z k n I h=>by
 refine wpAny_Tuple_spliced (thn (ha.h outer pos pins s σ H _ E Z k n I h) fun us s1 ⟨xs,H1,I1,r,z,q⟩=>⟨by rw[<-r.length]; exact z, ?_⟩)
 have hf:H1 s1.heap.objs.size=none:=I1.hok.fresh (Nat.le_refl _)
 refine⟨.ref s1.heap.objs.size,upd H1 s1.heap.objs.size (.tup xs),I1.laid (t':=s1.toks) (fun b u e=>Heap.get?_push_of_some _ e) (Nat.le_refl _) ?_,rfl,q _ hf⟩
 exact⟨z,us,r,⟨_,Heap.get?_push_size _ rfl,rfl,_,rfl⟩⟩⟩
def tCBX (r:List V->Hp->VK->Prop) (tl:TXa):TX:=fun σ H Q E=>tl σ H (fun xs H1=>r xs H1 Q) E
theorem XM (hc:zd X.nox (.type T) r) (hg:Gl X x) (hm:X.mg x=none) (hv:bootBuiltins x=some (.type T)) (ha:QXa X (e::es) tl) (hn:x ≠ "__name__" := by decide) (hdb:(x==("__debug__" : Str))=false:=by decide)
  (he:starEach (e::es) X.env=(false,eval e X.env)::starEach es X.env:=by rfl) (hpl:(backTo pos (starEach es X.env)).any (·.1)=false:=by rfl):QXc X (.Call (.Name x p) (e::es) [] pos) (tCBX r tl):=⟨fun outer pins s σ H Q E Z k n I h=>by
 refine wpAny_Call_Name_kw (jY I hg hm hv ?_ hn hdb)
 refine PyProof.Rows.callWith_type1 (thn (ha.h outer pos pins s σ H _ E Z k n I h) fun us s1 ⟨vs,H1,I1,r1,q1⟩=>?_) he hpl
 exact wpAny_mono (hc pins s1 σ H1 vs us Q (I1.wish _) r1 q1) (fun _ _ ⟨v,H',I',r,q⟩=>⟨v,H',I'.unwish,r,q⟩) fun _ _ z=>z.elim⟩
theorem qxh_of (h:QX True X st t):QXh X st t:=⟨fun outer pins s σ H D _ c _ I q=>h.h pins s σ H D c I q⟩
theorem JO (he:QXc X e tx):QXh X (.Return (some e) pos) (tRetX tx X.mg):=⟨fun outer pins s σ H D Z c hx I h =>
 wpAny_Return_some (thn (he.h outer pins s σ H _ _ Z (c.1 σ) (hx σ) I h) fun v s1 ⟨x,H1,I1,r1,q1⟩=>⟨x,σ,H1,I1,r1,q1⟩)⟩
theorem Q4 (h1:QXh X st t) (h2:QXhs X rest u):QXhs X (st::rest) (tSeq t u):=⟨fun outer pins s σ H D Z c hx I h=>by
 refine wpAny_execs_cons (thn (h1.h outer pins s σ H { D with nx:=u D } Z c hx I h) fun f s1 q=>?_)
 cases f with
 |next =>
  obtain⟨σ',H',I',q⟩:=q
  exact h2.h outer pins s1 σ' H' D Z c hx I' q
 |ret v=>exact q
 |brk=>exact q
 |cont=>exact q⟩
theorem ZM (h1:QXh X st t):QXhs X [st] t:=⟨fun outer pins s σ H D Z c hx I h=>by
 refine wpAny_execs_cons (thn (h1.h outer pins s σ H D Z c hx I h) fun f s1 q=>?_)
 cases f with
 |next=>exact wpAny_execs_nil q
 |ret v=>exact q
 |brk=>exact q
 |cont=>exact q⟩
end
section
variable {P:Program} {w:World} {K:PySem.W.Frag} {mg:Str->Option Value} {base:Heap}
theorem Fun.okXh {x qual:Str} {st:Stmt} {f:Addr} {fd:FuncData} {N ps:List Str} {k:Nat} {sp:Sp} (F:Fun K x qual st f fd) (S:FnScope N ps (qc st)) (len:∀vs H Q E,sp vs H Q E->vs.length=ps.length)
  (hbody:∀(cdv:Value) (A:Around) (outer:List Env) (s:Shared) (H:Hp) (vs:List V) (Q:VK) (E:XK),Room k (A.deeper (envOfC qual (qc st) s.heap.objs.size f cdv))->sp vs H Q E ->
   ∃t,QXhs (cxOf (CXe P w) P w K mg base N qual (qc st) f cdv A outer s H E) (qh st) t/\t { nx:=fun _ H'=>Q .non H',rt:=Q,bk:=bkX N.length mg E } (start N vs) H):FnOk P w K mg base (CXe P w) (k+1) f fd ps sp:=by
 obtain⟨oc,od,kV,doc,pm,an,cdv,ct,osl,rfl,lk,hcd⟩:=F.ex
 refine fn_of lk hcd S len fun A outer s H vs Q E hr hsp=>?_
 obtain⟨t,h,q⟩:=hbody cdv A outer s H vs Q E hr hsp
 refine⟨fun D σ H1=>D={ nx:=fun _ H'=>Q .non H',rt:=Q }/\t { nx:=fun _ H'=>Q .non H',rt:=Q,bk:=bkX N.length mg E } σ H1,fun pins s1 σ H1 D I hd=>?_,rfl,q⟩
 obtain⟨rfl,hd⟩:=hd
 have Y:Body (cxOf (CXe P w) P w K mg base N qual (qc st) f cdv A outer s H E) outer:=⟨rfl,rfl,rfl,rfl⟩
 refine wpAny_mono (h.h outer pins s1 σ H1 _ Y ⟨fun σ pins H s e s' I hx=>?_,fun _ pins σ H s e C d I hm h0 hx=>?_⟩ (fun σ a C d H' s4 hE hF=>Zb Y I.ok.frames I.ok hF (bkX.ex hE)) I hd) (fun fl s' z=>?_) fun _ _ z=>z
 ·exact Vb Y I I.ok.frames (hx.mono fun C d H' z=>bkX.ex z)
 ·exact jX Y I I.ok.frames hm h0 (bkX.ex hx)
 ·cases fl with
  |next=>exact z
  |ret u=>exact z
  |cont=>exact z
  |brk =>
   obtain⟨σ',H',I',nm,p,σ'',e,hl,_⟩:=z
   have:=I'.len
   rw[e,List.length_cons,List.length_cons,hl] at this
   exact absurd this (by show N.length+1+1≠N.length; omega)
theorem Fun.zXh {x qual:Str} {st:Stmt} {f:Addr} {fd:FuncData} {N ps:List Str} {k:Nat} {G:List U->MM->UK->UX->Prop} (F:Fun K x qual st f fd) (S:FnScope N ps (qc st)) (len:∀us M Qu Xu,G us M Qu Xu->us.length=ps.length)
  (hbody:∀(cdv:Value) (A:Around) (outer:List Env) (s:Shared) (H:Hp) (E:XK),Room k (A.deeper (envOfC qual (qc st) s.heap.objs.size f cdv)) ->
   ∃t,QXhs (cxOf (CXe P w) P w K mg base N qual (qc st) f cdv A outer s H E) (qh st) t/\∃u,ZS t u/\∀us M Qu Xu,G us M Qu Xu->u (endX N.length Qu Xu) (zD N us) M):FnOk P w K mg base (CXe P w) (k+1) f fd ps (spX mg G):=by
 refine F.okXh S (fun vs H Q E h=>?_) (fun cdv A outer s H vs Q E hr h=>?_)
 ·obtain⟨A,ι,M,us,Qu,Xu,w1,r,g,_⟩:=h
  rw[r.len]; exact len us M Qu Xu g
 ·obtain⟨B,ι,M,us,Qu,Xu,w1,r,g,kk,kx⟩:=h
  obtain⟨t,ht,u,hu,hb⟩:=hbody cdv A outer s H E hr
  refine⟨t,ht,hu.h B ι _ H _ M _ (endX N.length Qu Xu) w1 (zC r) ⟨fun ι1 σ1 H1 ρ1 M1 l1 w1 e1 q1=>kk _ M1 ι1 _ H1 l1 w1 (.p .non) q1,fun ι1 v H1 z M1 l1 w1 r1 q1=>kk z M1 ι1 v H1 l1 w1 r1 q1,fun ι1 σ1 H1 ρ1 M1 l1 w1 e1 q1=>?_,fun _ _ _ _ _ _ _ _ q=>q.elim⟩ (hb us M Qu Xu g)⟩
  obtain⟨nm,p,ρ,rfl,hn,q1⟩:=q1
  cases e1 with
  |cons a b =>
  cases b with
  |cons a2 b =>
  obtain⟨v,rfl,rv⟩:=a _ rfl
  obtain⟨v2,rfl,rv2⟩:=a2 _ rfl
  cases rv with
  |p rv =>
  cases rv
  cases rv2 with
  |p rv2 =>
  cases J3 rv2
  exact⟨nm,p,_,rfl,by rw[b.length]; exact hn,fun C d hm hp=>kx nm p C d M1 ι1 H1 hm hp l1 w1 q1⟩
end
section
variable {tt:TT} {ut:UT} {n:Nat}
def kc (ui:UI) (bs:List Bool) (n:Nat) (ug:UG) (ut:UT) (ux:UXe):UXe:=fun ρ M Q Xu=>kL ui bs n ug ut (fun ρ' M' Q'=>ux ρ' M' Q' Xu) ρ M Q
theorem kB {mg:Str->Option Value} {tx:TX} {ux:UXe} {bs:List Bool} {g:TG} {ug:UG} {A:Addr->Prop} {ι ι1:List Addr} {σ:St} {H H1:Hp} {ρ:UEnv} {M1:MM} {Qu:UK} {Xu:UX} {Q:VK} {E:XK} {it:UIt} {J:It} {acc:Addr} (hg:ZX bs n g ug) (ht:ZT tt ut) (he:ZXe mg tx ux) (e:EnvR A ι H σ ρ) (l1:Le ι H ι1 H1) (w1:Wd A ι1 H1 M1)
  (hJ:∀(A':Addr->Prop) (ι2:List Addr) (H2:Hp) (M2:MM) (i:Nat),Lea A ι1 H1 A' ι2 H2->Wd A' ι2 H2 M2->it.ok M2->(i<it.n->J.go i H2/\∀x H',J.yld i H2 x H'->∃u,it.item i u/\Le ι2 H2 ι2 H'/\Wd A' ι2 H' M2/\RepU A' ι2 H' x u)/\(i=it.n->J.stop i H2))
  (q1:ρ.length=bs.length/\QC it ug ut (fun ρ' M' Q'=>ux ρ' M' Q' Xu) (Qg bs n ρ) M1 Qu)
  (k:∀a M' ι' x H',Le ι H ι' H'->Wd A ι' H' M'->RepU A ι' H' x a->Qu a M'->Q x H') (kx:∀nm p C d M' ι' H',mg nm=some C->PartIs d H' p->Le ι H ι' H'->Wd A ι' H' M'->Xu nm p M'->E C d H') (hacc:H1 acc=none):X6 J acc g tt (fun σ' H' Q'=>tx σ' H' Q' E) (vD bs n σ) H1 Q:=by
 obtain⟨hlen,hsz,Iv,I0,It,Id⟩:=q1
 have hσ:σ.length=bs.length:=by rw[<-hlen]; exact e.len
 have e1:=e.le l1
 have na:¬Av A ι1 acc:=w1.nA hacc
 have key:∀ι2 H2,Le ι1 H1 ι2 H2->(∀x∈ι2,¬(A x\/x=acc))->Lea A ι1 H1 (fun x=>A x\/x=acc) ι2 H2:=fun ι2 H2 l h=>by
  refine⟨let⟨n,e,_⟩:=l.ext; ⟨n,e⟩,fun x o hx ex=>?_,l.xd⟩
  obtain⟨a1,a2⟩:=l.av hx ex
  refine⟨a1,fun z=>?_⟩
  rcases z with(z|z)|z
  ·exact a2 (.inl z)
  ·rw[z,hacc] at ex; cases ex
  ·exact a2 (.inr z)
 refine⟨fun i m H2=>m=it.n-i/\i<=it.n/\∃ι2 M2 at' ys,Le ι1 H1 ι2 H2/\Wd (fun x=>A x\/x=acc) ι2 H2 M2/\H2 acc=some (.lst ys)/\RepTs (Av (fun x=>A x\/x=acc) ι2) H2 ys at'/\at'.length<=i/\Iv i at' M2,
  ⟨it.n,by simp,Nat.zero_le _,ι1,M1, [], [], .fresh hacc,w1.addA hacc,upd_same, .nil,Nat.le_refl _,I0⟩, ?_⟩
 rintro i m H2 ⟨rfl,hin,ι2,M2,at',ys,l2,w2,hys,rys,hat,I2⟩
 have lea:=key ι2 H2 l2 w2.na
 by_cases hlt:i<it.n
 ·obtain⟨ok,step⟩:=It i at' M2 hlt hat I2
  obtain⟨jgo,jy⟩:=(hJ _ ι2 H2 M2 i lea w2 ok).1 hlt
  refine .inr ⟨jgo,fun H'=>∃ι2 M2 at' ys,Le ι1 H1 ι2 H'/\Wd (fun x=>A x\/x=acc) ι2 H' M2/\H' acc=some (.lst ys)/\RepTs (Av (fun x=>A x\/x=acc) ι2) H' ys at'/\at'.length<=i+1/\Iv (i+1) at' M2,fun H' h=>⟨it.n-(i+1),by omega,rfl,hlt,h⟩,fun x H3 y=>?_⟩
  obtain⟨u,hu,l3,w3,r3⟩:=jy x H3 y
  have l13:=l2.trans l3
  have nacc:∀{ι':List Addr} {H':Hp} {M':MM},Wd (fun x=>A x\/x=acc) ι' H' M'->acc∉ι':=fun w z=>w.na acc z (.inr rfl)
  have ys3:H3 acc=some (.lst ys):=l3.fr _ _ hys (nacc w2)
  have env3:EnvR (fun x=>A x\/x=acc) ι2 H3 (vD bs n σ) (Qg bs n ρ):=(e1.mask).lea (key ι2 H3 l13 w3.na)
  refine hg.h _ ι2 σ H3 _ M2 x u _ _ hσ w3 env3 r3 (step u hu) fun ρ4 σ4 e4 x4 len4 q4=>⟨⟨x4,len4⟩, ?_⟩
  refine ht.h _ ι2 σ4 H3 ρ4 M2 _ _ w3 e4 q4 fun b M5 ι5 H5 l5 w5 q5=>?_
  have ys5:H5 acc=some (.lst ys):=l5.fr _ _ ys3 (nacc w3)
  have rys5:RepTs (Av (fun x=>A x\/x=acc) ι5) H5 ys at':=Paired.mapP rys fun _ _ q=>(q.le l3).le l5
  cases b with
  |false=>exact⟨ι5,M5,at',ys,l13.trans l5,w5,ys5,rys5,Nat.le_succ_of_le hat,q5⟩
  |true =>
   refine he.h _ ι5 σ4 H5 ρ4 M5 _ _ _ E w5 (e4.le l5) q5 (fun z M6 ι6 zv H6 l6 w6 r6 q6=>?_) (fun nm p C d M' ι' H' hm hp l' w' x'=>kx nm p C d M' ι' H' hm hp (l1.trans ((l13.trans l5).trans l')) (w'.lessA fun x hx=>.inl hx) x')
   obtain⟨t,rfl,q6⟩:=q6
   have ys6:H6 acc=some (.lst ys):=l6.fr _ _ ys5 (nacc w5)
   refine⟨ys,ys6, ?_,ι6,M6,at'++[t],ys++[zv],((l13.trans l5).trans l6).updF hacc,(w6.updA (.inr rfl) ys6).2,upd_same, ?_,by rw[List.length_append,List.length_singleton]; omega,q6⟩
   ·rw[rys.len]; omega
   ·have hl:=(w6.updA (o:=.lst (ys++[zv])) (.inr rfl) ys6).1
    cases r6 with
    |p r6=>exact Paired.app (Paired.mapP rys5 fun _ _ q=>(q.le l6).mono hl.av) (.cons (r6.mono hl.av) .nil)
 ·have ei:i=it.n:=by omega
  subst ei
  obtain⟨ok,fin⟩:=Id at' M2 I2
  refine .inl ⟨(hJ _ ι2 H2 M2 _ lea w2 ok).2 rfl,k _ M2 ι2 _ H2 (l1.trans l2) (w2.lessA fun x hx=>.inl hx) (.p (.lstP (fun z=>?_) hys (Paired.mapP rys fun _ _ q=>q.mono fun x o hx ex=>⟨ex,fun z=>hx (z.elim (fun z=>.inl (.inl z)) .inr)⟩))) fin⟩
  rcases z with z|z
  ·exact na (.inl z)
  ·exact w2.na acc z (.inr rfl)
theorem Yc {mg:Str->Option Value} {tx:TX} {ux:UXe} {wi:TI} {ui:UI} {bs:List Bool} {g:TG} {ug:UG} (hi:ZI wi ui) (hg:ZX bs n g ug) (ht:ZT tt ut) (he:ZXe mg tx ux):ZXe mg (tCompX wi bs n g tt tx) (kc ui bs n ug ut ux):=⟨fun A ι σ H ρ M Qu Xu Q E w e q k kx =>
 hi.h A ι σ H ρ M _ _ w e q fun it M1 ι1 J H1 l1 w1 hJ q1 acc hacc=>kB hg ht he e l1 w1 hJ q1 k kx hacc⟩
def uCompY (ui:UXe) (bs:List Bool) (n:Nat) (ug:UG) (ut:UT) (ux:UXe):UXe:=fun ρ M Q Xu=>ui ρ M (fun x M1=>IterS M1 x fun it M2=>ρ.length=bs.length/\QC it ug ut (fun ρ' M' Q'=>ux ρ' M' Q' Xu) (Qg bs n ρ) M2 Q) Xu
theorem cx_compY {K:PySem.W.Frag} {mg:Str->Option Value} {ti tx:TX} {ui ux:UXe} {bs:List Bool} {g:TG} {ug:UG} (hi:ZXe mg ti ui) (hg:ZX bs n g ug) (ht:ZT tt ut) (he:ZXe mg tx ux):ZXe mg (tCompY K ti bs n g tt tx) (uCompY ui bs n ug ut ux):=⟨fun A ι σ H ρ M Qu Xu Q E w e q k kx =>
 hi.h A ι σ H ρ M _ Xu _ E w e q (fun x M1 ι1 v H1 l1 w1 r1 ⟨us,eu,q1⟩=>by
  obtain⟨p,vs,rfl,h1,h2⟩:=vE w1 r1 eu
  refine⟨p,rfl,⟨vs,SqL.of h1⟩,fun acc hacc=>kB hg ht he e l1 w1 ?_ q1 k kx hacc⟩
  intro A' ι2 H2 M2 i l w2 ok
  obtain⟨p',vs2,e2,h3,h4⟩:=vE w2 (r1.lea l) ok
  cases e2
  have hl:=h4.len
  refine⟨fun hi=>?_,fun hi=>⟨vs2,SqL.of h3,by rw[hl]; exact Nat.le_of_eq hi.symm⟩⟩
  have hx:vs2[i]?=some (vs2[i]'(by rw[hl]; exact hi)):=List.getElem?_eq_getElem _
  refine⟨⟨vs2,_,SqL.of h3,hx⟩,fun x H' y=>?_⟩
  obtain⟨rfl,y⟩:=y
  have hx2:=y vs2 (SqL.of h3)
  obtain⟨z,hz,rz⟩:=Paired.getL h4 hx2
  exact⟨z,hz, .refl _ _,w2,rz⟩) kx⟩
end
abbrev UXa:=UEnv->MM->(List U->MM->Prop)->UX->Prop
structure ZXa (mg:Str->Option Value) (n:Nat) (tl:TXa) (ul:UXa):Prop where
 h:∀(A:Addr->Prop) (ι:List Addr) (σ:St) (H:Hp) (ρ:UEnv) (M:MM) (Qu:List U->MM->Prop) (Xu:UX) (Q:List V->Hp->Prop) (E:XK),Wd A ι H M->EnvR A ι H σ ρ->ul ρ M Qu Xu ->
  (∀us M' ι' vs H',Le ι H ι' H'->Wd A ι' H' M'->us.length=n->RepUs A ι' H' vs us->Qu us M'->Q vs H')->(∀nm p C d M' ι' H',mg nm=some C->PartIs d H' p->Le ι H ι' H'->Wd A ι' H' M'->Xu nm p M'->E C d H')->tl σ H Q E
section
variable {mg:Str->Option Value} {tx ty:TX} {ux uy:UXe} {te:TE} {ue:UE} {tt:TT} {ut:UT} {tl:TXa} {ul:UXa} {n:Nat}
def uX0 (ue:UE):UXe:=fun ρ M Q _=>ue ρ M Q
theorem cx_0 (h:ZE te ue):ZXe mg (tX0 te) (uX0 ue):=⟨fun A ι σ H ρ M Qu Xu Q E w e q k _=>h.h A ι σ H ρ M Qu Q w e q k⟩
def uOpX (s:T->T->(T->Prop)->Prop) (ua ub:UXe):UXe:=fun ρ M Q X=>ua ρ M (fun x M1=>ub ρ M1 (fun y M2=>OpS s M2 x y Q) X) X
theorem cx_op {r:R2} {s:T->T->(T->Prop)->Prop} (h:OpL r s) (ha:ZXe mg tx ux) (hb:ZXe mg ty uy):ZXe mg (tOpX r tx ty) (uOpX s ux uy):=⟨fun A ι σ H ρ M Qu Xu Q E w e q k kx =>
 ha.h A ι σ H ρ M _ Xu _ E w e q (fun x M1 ι1 v H1 l1 w1 r1 q1=>hb.h A ι1 σ H1 ρ M1 _ Xu _ E w1 (e.le l1) q1 (fun y M2 ι2 v2 H2 l2 w2 r2 ⟨a,b,e1,e2,q2⟩ =>
  h A ι2 H2 M2 v v2 a b _ Q w2 ((r1.le l2).sn w2 e1) (r2.sn w2 e2) q2 fun t ι3 z H3 l3 w3 r3 q3=>k _ M2 ι3 z H3 ((l1.trans l2).trans l3) w3 (.p r3) q3)
  fun nm p C d M' ι' H' hm hp l' w' x'=>kx nm p C d M' ι' H' hm hp (l1.trans l') w' x') kx⟩
def uIfX (ut:UT) (ua ub:UXe):UXe:=fun ρ M Q X=>ut ρ M fun b M1=>if b=true then ua ρ M1 Q X else ub ρ M1 Q X
theorem cx_if (hc:ZT tt ut) (ha:ZXe mg tx ux) (hb:ZXe mg ty uy):ZXe mg (tIfX tt tx ty) (uIfX ut ux uy):=⟨fun A ι σ H ρ M Qu Xu Q E w e q k kx =>
 hc.h A ι σ H ρ M _ _ w e q fun c M1 ι1 H1 l1 w1 q1=>by
  have kx':∀nm p C d M' ι' H',mg nm=some C->PartIs d H' p->Le ι1 H1 ι' H'->Wd A ι' H' M'->Xu nm p M'->E C d H':=fun nm p C d M' ι' H' hm hp l' w' x'=>kx nm p C d M' ι' H' hm hp (l1.trans l') w' x'
  cases c with
  |true=>exact ha.h A ι1 σ H1 ρ M1 _ Xu _ E w1 (e.le l1) q1 (fun b M2 ι2 v2 H2 l2 w2 r2 q2=>k b M2 ι2 v2 H2 (l1.trans l2) w2 r2 q2) kx'
  |false=>exact hb.h A ι1 σ H1 ρ M1 _ Xu _ E w1 (e.le l1) q1 (fun b M2 ι2 v2 H2 l2 w2 r2 q2=>k b M2 ι2 v2 H2 (l1.trans l2) w2 r2 q2) kx'⟩
def XA:UXa:=fun _ M Q _=>Q [] M
def kb (ux:UXe) (ul:UXa):UXa:=fun ρ M Q X=>ux ρ M (fun x M1=>ul ρ M1 (fun xs M2=>Q (x::xs) M2) X) X
theorem cxa_nil:ZXa mg 0 tNilX XA:=⟨fun A ι σ H ρ M Qu Xu Q E w e q k _=>k [] M ι [] H (.refl _ _) w rfl .nil q⟩
theorem cxa_cons (ha:ZXe mg tx ux) (hl:ZXa mg n tl ul):ZXa mg (n+1) (tConsX tx tl) (kb ux ul):=⟨fun A ι σ H ρ M Qu Xu Q E w e q k kx =>
 ha.h A ι σ H ρ M _ Xu _ E w e q (fun x M1 ι1 v H1 l1 w1 r1 q1=>hl.h A ι1 σ H1 ρ M1 _ Xu _ E w1 (e.le l1) q1 (fun xs M2 ι2 vs H2 l2 w2 hn r2 q2 =>
  k (x::xs) M2 ι2 (v::vs) H2 (l1.trans l2) w2 (by rw[List.length_cons,hn]) (.cons (r1.le l2) r2) q2) fun nm p C d M' ι' H' hm hp l' w' x'=>kx nm p C d M' ι' H' hm hp (l1.trans l') w' x') kx⟩
def uTupX (ul:UXa):UXe:=fun ρ M Q X=>ul ρ M (fun us M1=>PurS us fun ts=>Q (.p (.tup ts)) M1) X
theorem cx_tup (ha:ZXa mg n tl ul) (hn:n<=1000:=by decide):ZXe mg (tTupX tl) (uTupX ul):=⟨fun A ι σ H ρ M Qu Xu Q E w e q k kx =>
 ha.h A ι σ H ρ M _ Xu _ E w e q (fun us M1 ι1 vs H1 l1 w1 hl r1 ⟨ts,et,q1⟩=>by
  have r2:=r1
  rw[vY et] at r2
  exact⟨by rw[r1.len,hl]; exact Nat.le_of_lt (qC hn),fun p hp=>k _ M1 ι1 _ _ (l1.trans (.fresh hp)) (w1.fresh hp) (.p (zo w1 hp r2.pures)) q1⟩) kx⟩
def uCbX (s:List T->(T->Prop)->Prop) (ul:UXa):UXe:=fun ρ M Q X=>ul ρ M (fun us M1=>SnsS M1 us fun ts=>s ts fun t=>Q (.p t) M1) X
theorem cx_cb {r:List V->Hp->VK->Prop} {s:List T->(T->Prop)->Prop} (h:CbL r s) (ha:ZXa mg n tl ul):ZXe mg (tCBX r tl) (uCbX s ul):=⟨fun A ι σ H ρ M Qu Xu Q E w e q k kx =>
 ha.h A ι σ H ρ M _ Xu _ E w e q (fun us M1 ι1 vs H1 l1 w1 hl r1 ⟨ts,e1,q1⟩=>h A ι1 H1 M1 vs ts _ Q w1 (r1.sns w1 e1) q1 fun t ι2 z H2 l2 w2 r2 q2=>k _ M1 ι2 z H2 (l1.trans l2) w2 (.p r2) q2) kx⟩
end
def rMulS:R2:=fun x y H Q=>∃(i:Str) (n:Int),x=.str i/\y=.int n/\i.length<=1000 /\ -1000<=n/\n<=1000/\Q (.str (Txt.mul i n)) H
theorem xC {X:Cx}:OpR X (binaryOp .Mult) rMulS:=by
 intro pins s σ H x y v u Q I rx ry h
 obtain⟨i,n,rfl,rfl,hi,h0,h1,q⟩:=h
 obtain⟨t,rfl⟩:=rx
 obtain⟨t',rfl⟩:=ry
 refine SB.mul ⟨?_,fun h2 _ h3=>?_,fun _ _=>?_⟩ fun t' k=>⟨.str _,H,I.tok _,⟨_,rfl⟩,q⟩
 ·rw[decide_eq_false (by omega),decide_eq_false (by omega)]; rfl
 ·have hd:(1000:Int)<=(2^63-1) / n:=by
   rw[Int.le_ediv_iff_mul_le (by omega)]
   omega
  omega
 ·have:i.length*n.toNat<=1000*1000:=Nat.mul_le_mul hi (by omega)
  exact decide_eq_false (by rw[sizeLine_eq]; omega)
def JD:T->T->(T->Prop)->Prop:=fun a b Q=>∃(i:Str) (n:Int),a=.str i/\b=.int n/\i.length<=1000 /\ -1000<=n/\n<=1000/\Q (.str (Txt.mul i n))
theorem zw:OpL rMulS JD:=fun A ι H M x y a b Qs Q w r1 r2 ⟨i,n,ea,eb,c1,c2,c3,q⟩ k=>by
 subst ea eb
 exact⟨i,n,r1.str_inv,r2.int_inv,c1,c2,c3,k _ ι _ H (.refl _ _) w (.str _) q⟩
theorem Km {x:Str} {n:Int}:(Txt.mul x n).length<=x.length*n.toNat:=by
 unfold Txt.mul
 split
 ·exact Nat.zero_le _
 ·split
  ·rename_i h1 h2
   have h2:n=1\/x.length=0:=by simpa using h2
   rcases h2 with rfl|h2
   ·show x.length<=x.length*1; omega
   ·rw[h2]; omega
  ·have key:∀(k:Nat) (acc:Array Nat),((List.replicate k x.cps).foldl (· ++ ·) acc).size=acc.size+x.cps.size*k:=fun k=>by
    induction k with
    |zero=>intro acc; simp
    |succ k ih =>
     intro acc
     rw[List.replicate_succ,List.foldl_cons,ih,Array.size_append,Nat.mul_succ]
     omega
   show((List.replicate n.toNat x.cps).foldl (· ++ ·) #[]).size<=_
   rw[key]
   show 0+x.cps.size*n.toNat<=x.length*n.toNat
   rw[Nat.zero_add]
   exact Nat.le_refl _
def JM:V->List V->Hp->VK->Prop:=fun x vs H Q=>∃l xs y,∃(i:Nat) (j:Int),x=.ref l/\vs=[.int j,y]/\j=i/\H l=some (.lst xs)/\i<=xs.length/\xs.length<sizeLine/\Q .non (upd H l (.lst (xs.take i++y::xs.drop i)))
theorem fits_ix {j:Int} {i:Nat} (hj:j=i) (h:i<1000000000):¬(!Builtin.List.listFitsIndex j)=true:=by
 have e:Builtin.List.listFitsIndex j=true:=by
  show(decide (-(2^63:Int)<=j)&&decide (j<2^63))=true
  rw[decide_eq_true (by omega),decide_eq_true (by omega)]
  rfl
 rw[e]
 exact fun z=>Bool.noConfusion z
theorem tkP {α β:Type} {F:α->β->Prop}:∀(n:Nat) {a:List α} {b:List β},Paired F a b->Paired F (a.take n) (b.take n)
 |0,_,_,_=>by simpa using .nil
 |_+1,_,_, .nil=>by simpa using .nil
 |n+1,_,_, .cons h r=>by simpa using .cons h (tkP n r)
theorem dpP {α β:Type} {F:α->β->Prop}:∀(n:Nat) {a:List α} {b:List β},Paired F a b->Paired F (a.drop n) (b.drop n)
 |0,_,_,h=>by simpa using h
 |_+1,_,_, .nil=>by simpa using .nil
 |n+1,_,_, .cons _ r=>by simpa using dpP n r
theorem Ko {X:Cx}:MtM X "list.insert" JM:=by
 intro pins s σ H x vs v us Q I rx rv h
 obtain⟨l,xs,y,i,j,rfl,rfl,hj,hH,hi,hz,q⟩:=h
 cases rx
 obtain⟨u1,us1,rfl,r1,rv⟩:∃u1 us1,us=u1::us1/\RelV (.int j) u1/\Vals [y] us1:=by
  cases rv with
  |cons a b=>exact⟨_,_,rfl,a,b⟩
 obtain⟨u2,rfl,r2⟩:=rv.one
 obtain⟨t,rfl⟩:=r1
 obtain⟨z,its,n,r,hl,e⟩:=I.lstM hH
 have hsz:its.toArray.size<=sizeLine:=by rw[List.size_toArray, <-hl]; omega
 have hb:i<1000000000:=by
  rw[sizeLine_eq] at hz
  omega
 refine call_meets F.slot_list_insert ⟨_,e,rfl⟩ F.entry_list_insert (F.args_list_insert_3 _ _ _) (AutoListH.list_insert_list_int_val_1 l its.toArray n j t u2 (fits_ix hj hb) hsz) ⟨e, ?_⟩
 refine⟨.non,_,I.lset (its':=its.take i++u2::its.drop i) hH e ?_ ?_ ?_,rfl,q⟩
 ·have ek:(if j<0 then(j + ↑its.toArray.size).toNat else min j.toNat its.toArray.size)=i:=by
   rw[if_neg (by omega),List.size_toArray, <-hl]
   omega
  show(its.toArray.extract 0 (if j<0 then(j + ↑its.toArray.size).toNat else min j.toNat its.toArray.size)).push u2++its.toArray.extract (if j<0 then(j + ↑its.toArray.size).toNat else min j.toNat its.toArray.size)=_
  rw[ek]
  apply Array.toList_inj.mp
  simp
  exact List.take_of_length_le (by rw[List.length_drop]; exact Nat.le_refl _)
 ·exact(r.take i).append (.cons r2 (r.drop i))
 ·simp only[List.length_append,List.length_cons,List.length_take,List.length_drop]
  omega
def sInsert:List U->List U->(U->List U->Prop)->Prop:=fun us ws Q=>∃(i:Nat) (j:Int) (y:U),ws=[.p (.int j),y]/\j=i/\i<=us.length/\us.length<sizeLine/\Q (.p .non) (us.take i++y::us.drop i)
theorem XU:MeL JM sInsert:=fun A ι H M k a xs ys us ws Qs Q w ek h1 h2 rx ry ⟨i,j,y,ey,hj,hi,hz,q⟩ kk=>by
 subst ey
 cases ry with
 |cons r0 ry =>
 cases ry with
 |cons r q' =>
 cases q'
 cases r0 with
 |p r0 =>
 cases r0
 have hl:=rx.len
 exact⟨a,xs,_,i,j,rfl,rfl,hj,h1,by omega,by omega,kk _ _ _ _ ((tkP i rx).app (.cons r (dpP i rx))) (.p .non) q⟩
section
variable {K:PySem.W.Frag} {to:TE} {uo:UE} {tl:TA} {ul:UA} {n:Nat}
theorem QV {A:Addr->Prop} {ι:List Addr} {H:Hp}:∀zs:List Str,RepUs A ι H (xB zs) (zs.map fun z=>U.p (.str z))
 | []=>.nil
 |z::zs=>.cons (.p (.str z)) (QV zs)
def SplitNS (y:Str) (us:List U) (M:MM) (Q:UK):Prop:=∃(c:Nat) (zs:List Str),us=[.p (.str ⟨#[c]⟩)]/\Txt.split y ⟨#[c]⟩=zs/\y.length+2<=sizeLine/\Q (.m M.length) (M++[.lst (zs.map fun z=>U.p (.str z))])
def Jg (uo:UE) (ul:UA):UE:=fun ρ M Q=>uo ρ M fun x M1=>∃y,x=.p (.str y)/\ul ρ M1 fun us M2=>SplitNS y us M2 Q
theorem Yj (ho:ZE to uo) (ha:ZA n tl ul):ZE (tBM K "str" JL to tl) (Jg uo ul):=⟨fun A ι σ H ρ M Qu Q w e q k =>
 ho.h A ι σ H ρ M _ _ w e q fun x M1 ι1 v H1 l1 w1 r1 ⟨y,ex,q1⟩=>by
  subst ex
  cases r1 with
  |p r =>
  cases r
  refine⟨rfl,ha.h A ι1 σ H1 ρ M1 _ _ w1 (e.le l1) q1 fun us M2 ι2 vs H2 l2 w2 hn r2 ⟨c,zs,eu,ez,hz,q2⟩=>?_⟩
  subst eu
  cases r2 with
  |cons a b =>
  cases b
  cases a with
  |p a =>
  cases a
  exact⟨y,c,zs,rfl,rfl,ez,hz,fun l hl=>k _ _ (ι2++[l]) _ _ ((l1.trans l2).trans (.push hl)) (w2.push (mo:=.lst _) hl ⟨_,upd_same,QV zs⟩) (.m (by rw[<-w2.len]; exact xR)) q2⟩⟩
end
section
variable {X:Cx}
abbrev ltrs (z:Str):List V:=z.cps.toList.map fun c=>V.str ⟨#[c]⟩
theorem nx_str {P:Program} {w:World} {it:Addr} {ty:String} {z:Str} {t:Tok} (hty:ty = "str_ascii_iterator" \/ ty = "str_iterator"):Nx P w it [it] (fun i h=>h.IsStrIter it ty z t i) (ltrs z).length (fun i x=>∃c u,z.cps.toList[i]?=some c/\x=.str ⟨#[c]⟩ u) where
 keep:=fun i h h' ⟨o,e,r⟩ k=>⟨o,k it (by simp) o e,r⟩
 here:=fun i h ⟨o,e,_⟩=>⟨o,e⟩
 mem:=by simp
 item:=fun A E s i Q st hi q=>by
  have hi:i<z.cps.size:=by simpa using hi
  have hx:z.cps[i]?=some z.cps[i]:=by simp[hi]
  have hy:z.cps.toList[i]?=some z.cps[i]:=by simp[hi]
  rcases hty with rfl|rfl
  ·exact wpAny_nextOf_ascii_item st hx fun h' a b=>q h' _ _ ⟨_,_,hy,rfl⟩ a b
  ·exact wpAny_nextOf_wide_item st hx fun h' a b=>q h' _ _ ⟨_,_,hy,rfl⟩ a b
 fin:=fun A E s i Q hh st hi q=>by
  have hx:z.cps[i]?=none:=by simpa using hi
  rcases hty with rfl|rfl
  ·exact wpAny_nextOf_ascii_end hh st hx q
  ·exact wpAny_nextOf_wide_end hh st hx q
theorem sx_T {P:Program} {w:World} {K:PySem.W.Frag} {it:Addr} {ty:String} {z:Str} {t:Tok} (hty:ty = "str_ascii_iterator" \/ ty = "str_iterator"):Sx P w K (fun _ xs=>xs=ltrs z) it [it] (fun i h=>h.IsStrIter it ty z t i) where
 nx:=fun {X pins σ H s xs} hP hw hK I hq=>by
  subst hP hw hK hq
  exact⟨_,_,fun i u ⟨c,v,hc,e⟩=>⟨.str ⟨#[c]⟩,by rw[List.getElem?_map,hc]; rfl,v,e⟩,nx_str hty,fun i h=>h,fun i h st=>st⟩
 inj:=fun _ _ h h'=>h.trans h'.symm
 ex:=fun⟨o,e,_,d⟩=>⟨o,_,e,d⟩
 ke:=fun⟨o,e,r⟩ k=>⟨o,k o e,r⟩
def ZipStepS (K:PySem.W.Frag) (b:Bool) (vs:List V) (H:Hp) (R:It->Hp->Prop):Prop:=∃a z xs,vs=[.ref a, .str z]/\SqB b K H a xs/\R (ItzS (fun H xs=>SqB b K H a xs) (fun _ ys=>ys=ltrs z)) H
def iZipS (K:PySem.W.Frag) (b:Bool) (ta:TA):TI:=fun σ H R=>ta σ H fun vs H1=>ZipStepS K b vs H1 R
theorem apart5s {n a1:Nat} (l1:a1<n):ZA5 (n+4) (n+2) (n+3) n (n+1) [n,a1] [n+1]:=by
 obtain⟨a,b,c⟩:=apart5 l1 l1
 have sub:∀{x:Nat},x∈[n+1]->x∈[n+1,a1]:=fun h=>List.mem_cons.mpr (.inl (List.mem_singleton.mp h))
 exact⟨a,b,fun h=>c.1 (sub h),fun h=>c.2.1 (sub h),fun h=>c.2.2 (sub h)⟩
theorem qi_zipS {K:PySem.W.Frag} {b1:Bool} {elts:List Expr} {kk:_} {tpos:Pos} {a b:Expr} {ta:TA} {p pos:Pos} (hK:X.K=K) (hg:Gl X "zip") (hm:X.mg "zip" = none) (ha:QA X [a,b] ta) (hs:starEach [a,b] X.env=[(false,eval a X.env),(false,eval b X.env)]:=by rfl) (hs2:starEach [b] X.env=[(false,eval b X.env)]:=by rfl):QI X (.Tuple elts kk tpos) (.Call (.Name "zip" p) [a,b] [] pos) (iZipS K b1 ta):=by
 subst hK
 refine⟨?_⟩
 intro pins s σ H R I h
 refine Call_ (jY I hg hm boot_zip (PyProof.Rows.callWith_type1 (thn (ha.h pos pins s σ H _ I h) fun us s1 ⟨vs,H1,I1,r1,q1⟩=>?_) (by rw[hs,hs2]) (by rw[hs2]; rfl)))
 obtain⟨a1,z,xs,e,q1,q⟩:=q1
 subst e
 cases r1 with
 |cons r rr =>
 cases rr with
 |cons r' rr =>
 cases rr
 cases r
 obtain⟨t,rfl⟩:=r'
 obtain⟨m1,l1⟩:=src_h I1 q1
 refine Zq (Pre:=fun h=>SrcH b1 h a1) (o1:=itO b1 a1) (o2:=txO z t) rfl rfl (Xx b1 a1 z t) m1 fun h' hz hI hO t1 t2 kp=>wpAny_pyIter_zip hz ?_
 have n0:∀{c:Addr},c<s1.heap.objs.size->c≠s1.heap.objs.size:=fun h=>Nat.ne_of_lt h
 have D:ZA5 (s1.heap.objs.size+4) (s1.heap.objs.size+2) (s1.heap.objs.size+3) s1.heap.objs.size (s1.heap.objs.size+1) [s1.heap.objs.size,a1] [s1.heap.objs.size+1]:=apart5s l1
 refine⟨s1.heap.objs.size+4, [s1.heap.objs.size+4,s1.heap.objs.size+2,s1.heap.objs.size+3,s1.heap.objs.size,s1.heap.objs.size+1],_,_,H1,rfl,I1.kept (t':=s1.toks) kp,Zz _ _ _ _ _ (sx_B (n0 l1)) (sx_T (ty:=strIterType z) (t:=t) (by unfold strIterType; split<;>simp)),⟨D,hz,hI,⟨_,_,hO⟩,it_O t1,⟨_,t2,rfl,rfl⟩⟩,fun bb hb=>?_,q⟩
 have hb':s1.heap.objs.size<=bb:=by
  simp only[List.mem_cons,List.not_mem_nil,or_false] at hb
  rcases hb with rfl|rfl|rfl|rfl|rfl
  ·exact Nat.le_add_right _ _
  ·exact Nat.le_add_right _ _
  ·exact Nat.le_add_right _ _
  ·exact Nat.le_refl _
  ·exact Nat.le_add_right _ _
 exact I1.fpOk hb' (I1.hok.fresh hb')
end
section
variable {A:Addr->Prop} {H:Hp} {ι:List Addr} {M:MM} {K:PySem.W.Frag} {tl:TA} {ul:UA} {n:Nat}
def itZS (b:Bool) (x:U) (ts:List T) (z:Str):UIt:=⟨min ts.length z.cps.size,fun M=>Vk b M x=some (ts.map U.p),fun i u=>∃t c,ts[i]?=some t/\z.cps.toList[i]?=some c/\u=.p (.tup [t, .str ⟨#[c]⟩])⟩
def ZipSS (b:Bool) (xs:List U) (M:MM) (Q:UIt->MM->Prop):Prop:=∃(x:U) (z:Str) (ts:List T),xs=[x, .p (.str z)]/\Vk b M x=some (ts.map U.p)/\Q (itZS b x ts z) M
def uZipS (b:Bool) (ul:UA):UI:=fun ρ M Q=>ul ρ M fun xs M1=>ZipSS b xs M1 Q
theorem ci_zipS {b:Bool} (ha:ZA n tl ul):ZI (iZipS K b tl) (uZipS b ul):=⟨fun A ι σ H ρ M Qu R w e q k =>
 ha.h A ι σ H ρ M _ _ w e q fun xs M1 ι1 vs1 H1 l1 w1 hn r0 ⟨x,z,ts,ex,eu,q1⟩=>by
  subst ex
  cases r0 with
  |cons r1 r0 =>
  cases r0 with
  |cons r2 r0 =>
  cases r0
  cases r2 with
  |p r2 =>
  cases r2
  obtain⟨p1,us1,rfl,h1,g1⟩:=xn (K:=K) w1 r1 eu
  refine⟨p1,z,us1,rfl,h1,k _ M1 ι1 _ H1 l1 w1 ?_ q1⟩
  intro A' ι2 H2 M2 i l w2 ok
  obtain⟨p1',vs1,e1,h3,h4⟩:=xn (K:=K) w2 (r1.lea l) ok
  cases e1
  have t1:=h4.pures
  have hl1:=t1.len
  have hl2:(ltrs z).length=z.cps.size:=by simp
  refine⟨fun hi=>?_,fun hi=>⟨vs1,ltrs z,h3,rfl, ?_⟩⟩
  ·have hi:i<min ts.length z.cps.size:=hi
   have hx:vs1[i]?=some (vs1[i]'(by omega)):=List.getElem?_eq_getElem _
   have hc:z.cps.toList[i]?=some (z.cps[i]'(by omega)):=by simp[show i<z.cps.size by omega]
   have hy:(ltrs z)[i]?=some (.str ⟨#[z.cps[i]'(by omega)]⟩):=by rw[List.getElem?_map,hc]; rfl
   refine⟨⟨vs1,ltrs z,_,_,h3,rfl,hx,hy⟩,fun x H' y=>?_⟩
   obtain⟨r,u,v,rfl,hr,rfl,y⟩:=y
   obtain⟨y1,y2⟩:=y vs1 _ h3 rfl
   obtain⟨t,ht,rt⟩:=Paired.getL t1 y1
   rw[hy] at y2
   cases y2
   exact⟨_,⟨t,_,ht,hc,rfl⟩, .fresh hr,w2.fresh hr, .p (zo w2 hr (.cons rt (.cons (.str _) .nil)))⟩
  ·have hi:i=min ts.length z.cps.size:=hi
   omega⟩
end
def nonV:V->Bool
 |.non=>true
 |_=>false
def rInN (K:PySem.W.Frag):R2:=fun x y H Q=>∃p xs,x=.non/\y=.ref p/\SqL K H p xs/\(∀v∈xs,jb v=true\/∃a ys,v=.ref a/\(SqL K H a ys\/SqT K H a ys))/\Q (.bl (xs.any nonV)) H
def nonU:Value->Bool
 |.none=>true
 |_=>false
theorem op_inN {X:Cx} {K:PySem.W.Frag} (h:X.K=K) (hu:X.A.units+1<cLine):OpR X (compareOp .In) (rInN K):=by
 subst h
 intro pins s σ H x y v u Q I rx ry h
 obtain⟨p,xs,rfl,rfl,hq,hx,q⟩:=h
 cases ry
 cases rx
 obtain⟨its,r,pl,hz⟩:=I.list hq
 have hun:X.A.in1.units<cLine:=Nat.lt_of_le_of_lt (show X.A.in1.units<=X.A.units+1 from Nat.le_refl _) hu
 refine SeqAt.in_listAt nonU pl.isList (fun w hw=>?_) ⟨.bl _,H,I,rfl, ?_⟩
 ·have hw:w∈its:=by simpa using hw
  obtain⟨i,hi⟩:=List.getElem?_of_mem hw
  obtain⟨x,ex,rx⟩:=Paired.getR r hi
  rcases hx x (List.mem_of_getElem? ex) with hf|⟨a,ys,rfl,ha⟩
  ·cases x with
   |non=>cases rx; exact SeqAt.EqAt.same _
   |bl b=>cases rx; exact SeqAt.EqAt.bool_none b
   |int b=>obtain⟨t,rfl⟩:=rx; exact SeqAt.EqAt.int_none b t
   |str b=>obtain⟨t,rfl⟩:=rx; exact SeqAt.EqAt.str_none b t
   |_=>exact absurd (show false=true from hf) Bool.false_ne_true
  ·cases rx
   rcases ha with ha|ha
   ·obtain⟨_,_,pl',_⟩:=I.list ha
    exact SeqAt.EqAt.list_none pl'.isList hun
   ·obtain⟨_,_,pl',_⟩:=I.tuple ha
    exact SeqAt.EqAt.tuple_none pl' hun
 ·have e:∀{xs:List V} {its:List Value},Vals xs its->its.any nonU=xs.any nonV:=fun r=>by
   induction r with
   |nil=>rfl
   |cons a _ ih =>
    rw[List.any_cons,List.any_cons,ih]
    congr 1
    rename_i x u _ _ _
    cases x with
    |non=>cases a; rfl
    |bl b=>cases a; rfl
    |ref b=>cases a; rfl
    |ty b=>cases a; rfl
    |_=>obtain⟨t,rfl⟩:=a; rfl
  rw[show its.toArray.any nonU=its.any nonU by simp,e r]
  exact q
def nonT:T->Bool
 |.non=>true
 |_=>false
def sInN:T->T->(T->Prop)->Prop:=fun a b Q=>∃ts,a=.non/\b=.lst ts/\Q (.bl (ts.any nonT))
theorem opl_inN {K:PySem.W.Frag}:OpL (rInN K) sInN:=fun A ι H M x y a b Qs Q w r1 r2 ⟨ts,ea,eb,q⟩ k=>by
 subst ea eb
 obtain⟨p,zs,rfl,h1,h2⟩:=r2.lst_inv
 have h3:zs.any nonV=ts.any nonT:=by
  have key:∀{zs:List V} {ts:List T},RepTs (Av A ι) H zs ts->zs.any nonV=ts.any nonT:=fun h=>by
    induction h with
    |nil=>rfl
    |cons a _ ih =>
     rw[List.any_cons,List.any_cons,ih]
     congr 1
     cases a<;>rfl
  exact key h2
 refine⟨p,zs, ?_,rfl,SqL.of h1,fun v hv=>?_, ?_⟩
 ·cases r1 with
  |of r=>cases r; rfl
 ·obtain⟨i,hi⟩:=List.getElem?_of_mem hv
  obtain⟨t,ht,rt⟩:=Paired.getL h2 hi
  cases t with
  |non=>cases rt; exact .inl rfl
  |bl=>cases rt; exact .inl rfl
  |int=>cases rt; exact .inl rfl
  |str=>cases rt; exact .inl rfl
  |tup ts =>
   obtain⟨p,zs,rfl,h1,h2⟩:=(RepV.of rt).tup_inv
   exact .inr ⟨p,zs,rfl, .inr (SqT.of h1)⟩
  |lst ts =>
   obtain⟨p,zs,rfl,h1,h2⟩:=(RepV.of rt).lst_inv
   exact .inr ⟨p,zs,rfl, .inl (SqL.of h1)⟩
 ·rw[h3]
  exact k _ ι _ H (.refl _ _) w (.bl _) q
theorem jM {M:Model} {Γ:PySem.Ctx} {p:Pos} {t:Sem PySem.Fin} {fs:List Frame} {s s':Shared} {e:End} (h:Runs M Γ p t fs s e s'):s.toks<=s'.toks:=by
 induction h<;>first|exact Nat.le_refl _|assumption|exact Nat.le_trans (Nat.le_succ _) (by assumption)|(rename_i a b; exact Nat.le_trans a b)|(rename_i a _ b; exact Nat.le_trans a b)|(rename_i a _ _ b; exact Nat.le_trans a b)
theorem Xz {M:Model} {Γ:PySem.Ctx} {p:Pos} {g:Nat} {r:Resume} {s s':Shared} {res:GenResult} (h:Wakes M Γ p g r s res s'):s.toks<=s'.toks:=by
 unfold Wakes at h
 split at h
 ·exact h.elim
 ·split at h
  ·obtain⟨e,s1,h1,_,_,rfl⟩:=h
   have:=jM h1
   exact this
  ·exact h.2▸Nat.le_refl _
  ·exact h.2▸Nat.le_refl _
 ·obtain⟨e,s1,h1,_,_,rfl⟩:=h
  have:=jM h1
  exact this
 ·exact h.2▸Nat.le_refl _
 ·exact h.2▸Nat.le_refl _
theorem wp_toks {α:Type} {M:Model} {Γ:PySem.Ctx} {n:Nat}:∀{t:Sem α} {Q:α->Pos->Shared->Prop} {E:Value->Pos->Shared->Prop} {p:Pos} {s:Shared},n<=s.toks->Sem.wp M Γ t Q E p s ->
  Sem.wp M Γ t (fun a p' s'=>Q a p' s'/\n<=s'.toks) (fun e p' s'=>E e p' s'/\n<=s'.toks) p s:=by
 intro t
 induction t with
 |pure a=>intro Q E p s d h; rw[Sem.wp] at h ⊢; exact⟨h,d⟩
 |raise e=>intro Q E p s d h; rw[Sem.wp] at h ⊢; exact⟨h,d⟩
 |load a x k ih=>intro Q E p s d h; rw[Sem.wp] at h ⊢; obtain⟨o,e,h⟩:=h; exact⟨o,e,ih o d h⟩
 |update a x f k ih=>intro Q E p s d h; rw[Sem.wp] at h ⊢; exact⟨h.1,ih () d h.2⟩
 |fresh k ih=>intro Q E p s d h; rw[Sem.wp] at h ⊢; exact ih _ (Nat.le_succ_of_le d) h
 |choose x n k ih=>intro Q E p s d h; rw[Sem.wp] at h ⊢; exact⟨h.1,ih _ d h.2⟩
 |call c hd g l k ih =>
  intro Q E p s d h; rw[Sem.wp] at h ⊢
  obtain⟨r,s1,h1,h2⟩:=h
  exact⟨r,s1,h1,ih r (Nat.le_trans d (jM h1)) h2⟩
 |resume g r l k ih =>
  intro Q E p s d h; rw[Sem.wp] at h ⊢
  obtain⟨res,s1,h1,h2⟩:=h
  exact⟨res,s1,h1,ih res (Nat.le_trans d (Xz h1)) h2⟩
 |genState g k ih=>intro Q E p s d h; rw[Sem.wp] at h ⊢; obtain⟨o,e,h⟩:=h; exact⟨o,e,ih _ d h⟩
 |unsupported|finish|register|yield|fork|await=>intro Q E p s d h; rw[Sem.wp] at h; exact h.elim
 |_=>rename_i ih; intro Q E p s d h; rw[Sem.wp] at h ⊢; exact ih _ d h
theorem Jn {α:Type} {M:Model} {A:Around} {n:Nat} {t:Sem α} {Q:α->Shared->Prop} {E:Value->Shared->Prop} {s:Shared} (d:n<=s.toks) (h:wpAny M A t Q E s):wpAny M A t (fun a s'=>Q a s'/\n<=s'.toks) E s:=fun Γ p hΓ=>Sem.wp_mono M Γ t (fun _ _ _ z=>z) (fun _ _ _ z=>z.1) p s (wp_toks d (h Γ p hΓ))
section
variable {X:Cx} {body els rest:List Stmt} {t u:TS} {a o:Expr} {ta to:TE} {pos pos':Pos}
structure QSp (X:Cx) (sts:List Stmt) (t:TS):Prop where
 h:∀pins s σ H D,1<=s.toks->Inv X pins σ H s->t D σ H->wpAny (model X.prog X.w) X.A (execs sts X.env) (SP X pins D) X.xe s
theorem qs_ifT {op:CmpOp} {r:R2} {i:Int} {j:Nat} {p2:Pos} (ho:OpR X (compareOp op) r) (ha:QE X a ta) (hb:QSp X body t) (hc:QSs X els u) (hm:behindInMarks op (.Constant (.int i) j p2)=false):QS X (.If (.Compare a [op] [.Constant (.int i) j p2] pos') body els pos) (tIfS (jn (tOp r ta (tC (.int i)))) t u):=⟨fun pins s σ H D I h=>by
 refine wpAny_If (wpAny_isTrue_Compare1 (thn (ha.h pins s σ H _ I h) fun v s1 ⟨x,H1,I1,r1,q1⟩=>wpAny_Constant_int ?_) hm)
 refine thn (Jn (n:=1) (Nat.le_add_left 1 _) (ho pins _ σ H1 x (.int i) v _ _ (I1.tok _) r1 ⟨_,rfl⟩ q1)) fun c s3 ⟨⟨z,H3,I3,r3,k,e,q3⟩,hk⟩=>?_
 subst e
 cases r3
 refine wpAny_truthy_bool ?_
 cases k with
 |true=>exact hb.h pins _ σ H3 D hk I3 q3
 |false=>exact hc.h pins _ σ H3 D I3 q3⟩
def tRep (to:TE) (y z:Str):TE:=fun σ H Q=>to σ H fun x H1=>∃w,x=.str w/\w.length+(w.length+1)*z.length<=16777216/\Q (.str (Txt.replace w y z)) H1
theorem qsp_rep {i:Nat} {x:Str} {y z:Str} {j1 j2:Nat} {p1 p2 apos cpos:Pos} (hN:X.N.Nodup) (hi:X.N[i]?=some x) (hx:Loc X.env.scope x) (ho:QE X o to) (hr:QSs X rest u) (hyz:(y==z)=false)
  (hs:swapsWith (.Call (.Attribute o "replace" apos) [.Constant (.str y) j1 p1, .Constant (.str z) j2 p2] [] cpos) (some (.Name x pos')) pos.line X.env=pure false:=by rfl) (hf:X.fn x=true\/X.env.scope.names.lookup x=some .local:=by first|exact .inl rfl|exact .inr rfl|assumption)
  (hbase:attributeBase o "replace" X.env (eval o X.env)=eval o X.env:=by rfl)
  (hfew:((backTo cpos (starEach [.Constant (.str y) j1 p1, .Constant (.str z) j2 p2] X.env)).all (fun x => !x.1)&&(backToKw cpos (keywordEach [] X.env)).all (fun x=>x.1.isSome)
   && decide (([.Constant (.str y) j1 p1, .Constant (.str z) j2 p2]:List Expr).length+([]:List Keyword).length+(if([]:List Keyword).isEmpty then 0 else 1)<30))=true:=by rfl)
  (hline:(apos.endLine==cpos.line)=true:=by rfl) (hst:starEach [.Constant (.str y) j1 p1, .Constant (.str z) j2 p2] X.env=[(false,eval (.Constant (.str y) j1 p1) X.env),(false,eval (.Constant (.str z) j2 p2) X.env)]:=by rfl) :
  QSp X (.Assign [.Name x pos'] (.Call (.Attribute o "replace" apos) [.Constant (.str y) j1 p1, .Constant (.str z) j2 p2] [] cpos) pos::rest) (tSeq (tAsg (tRep to y z) (qZ i)) u):=⟨fun pins s σ H D hk I h=>by
 refine wpAny_execs_cons (thn (Q:=SP X pins { D with nx:=u D }) ?_ fun f s1 q=>?_)
 ·refine wpAny_Assign_Name (thn (Q:=EP X pins σ _) ?_ fun v s1 ⟨y,H1,I1,r1,q1⟩=>xL I1 hN hi hx r1 (fun s2 I2=>⟨_,H1,I2,q1⟩) hf) hs
  refine wpAny_Call_method_late hbase hfew hline rfl (thn (Jn hk (ho.h pins s σ H _ I h)) fun v s1 ⟨⟨x,H1,I1,r1,w,ex,hw,q1⟩,hk1⟩=>?_)
  subst ex
  obtain⟨tw,rfl⟩:=r1
  refine⟨"str", "str.replace", PySem.F.plainAttrs_str,PySem.F.slot_str_replace,PySem.F.type_str_replace,typeIs_str _ _ _,(fun _ e=>nomatch e), ?_⟩
  rw[hst]
  refine Calls.callWith_builtin rfl (Calls.evalArgs_plain (Calls.spliced_cons (Calls.Constant_str (k:=j1) (pos:=p1) (Calls.spliced_cons (Calls.Constant_str (k:=j2) (pos:=p2) (Calls.spliced_nil ?_))))))
  exact SC.replace (Nat.ne_of_gt hk1) (Nat.succ_ne_zero _) (Nat.ne_of_lt (Nat.lt_succ_self _)) hyz hw fun t' k=>⟨.str _,H1,((I1.tok _).tok _).tok _,⟨_,rfl⟩,q1⟩
 ·cases f with
  |next =>
   obtain⟨σ',H',I',q⟩:=q
   exact hr.h pins s1 σ' H' D I' q
  |ret v=>exact q
  |brk=>exact q
  |cont=>exact q⟩
end
section
variable {to:TE} {uo:UE}
def uRep (uo:UE) (y z:Str):UE:=fun ρ M Q=>uo ρ M fun x M1=>∃w,x=.p (.str w)/\w.length+(w.length+1)*z.length<=16777216/\Q (.p (.str (Txt.replace w y z))) M1
theorem ce_rep {y z:Str} (ho:ZE to uo):ZE (tRep to y z) (uRep uo y z):=⟨fun A ι σ H ρ M Qu Q w e q k =>
 ho.h A ι σ H ρ M _ _ w e q fun x M1 ι1 v H1 l1 w1 r1 ⟨ww,ex,hw,q1⟩=>by
  subst ex
  cases r1 with
  |p r =>
  cases r
  exact⟨ww,rfl,hw,k _ M1 ι1 _ H1 l1 w1 (.p (.str _)) q1⟩⟩
end
end L2
namespace Hd
open PySem PySem.W PySem.Calls PyProof.Rows
def topT (tb:String->Option Builtin) (p:Program) (w:World) (m:Nat) (an:Option Value):Nat->SharedT->Thread->Option SharedT
 |0,_,_=>none
 |k+1,s,t=>match through t with
  |true=>some s
  |false=>match stepOk m an t with
   |false=>none
   |true=>match stepT (denote tb) p w s t with
    |some (s1,t1)=>topT tb p w m an k s1 t1
    |none=>none
theorem ZB {tb:String->Option Builtin} {p:Program} {w:World} {m:Nat} {an:Option Value} :
  ∀{k:Nat} {s r:SharedT} {t:Thread},topT tb p w m an k s t=some r->topRun tb p w m an k s.abs t=some r.abs
 |0,_,_,_,h=>by cases h
 |k+1,s,r,t,h=>by
  unfold topT at h
  unfold topRun
  cases ht:through t with
  |true=>rw[ht] at h; cases h; rfl
  |false =>
   rw[ht] at h
   cases hk:stepOk m an t with
   |false=>rw[hk] at h; cases h
   |true =>
    rw[hk] at h
    cases hs:stepT (denote tb) p w s t with
    |none=>rw[hs] at h; cases h
    |some x =>
     obtain⟨s1,t1⟩:=x
     rw[hs] at h
     rw[stepT_spec hs]
     exact ZB h
noncomputable def bootT (P:Params):BT :=
 .node (boot_o_0 P) (.node (boot_o_1 P) (.node (boot_o_3 P) (.node (boot_o_7 P) .nil .nil) .nil) (.node (boot_o_5 P) (.node (boot_o_9 P) .nil .nil) .nil))
  (.node (boot_o_2 P) (.node (boot_o_4 P) (.node (boot_o_8 P) .nil .nil) .nil) (.node (boot_o_6 P) (.node (boot_o_10 P) .nil .nil) .nil))
abbrev bootL:Life:={}
theorem Yo (P:Params):boot_heap P=absHeap (bootT P) 11 bootL:=by kernel_rfl
noncomputable def S0 (w:World) (os:OsState):SharedT:=⟨bootT w.params,11,bootL, #[],boot_drawn,boot_toks,os⟩
noncomputable def Look (p q:Program) (loose:List Str) (Xt:Shared->Bool) {α:Type} (Yf:Shared->α) (w:World) (s:Shared) :=
 ((staticsOk (importedModules p.main.body) (boot_heap w.params) s.heap&&namesBound p s.heap&&gensDone s&&laidKept (boot_heap w.params) s.heap),openSeen q loose (importedModules p.main.body) Xt true s,Yf s)
theorem left_of {p q:Program} {loose:List Str} {Xt:Shared->Bool} {α:Type} {Yf:Shared->α} {Ya:World->α} {N M:Nat}
  (e:opening p=plainProg p.main.scope.names) (hN:Nat.ble 600 N=true) (f:∀s,fenceModules? p s=some s) (le:Nat.ble M N=true)
  (run:∀w os,(topT treeTable p w 11 (some (.ref 6)) M (S0 w os) (topStub p)).map (fun s=>Look p q loose Xt Yf w s.abs)=some (true,openGood q loose,Ya w))
  (hs:∀P:Params,((boot_heap P).isNs mainGlobals,(boot_heap P).nsMap mainGlobals "__annotations__")=(true,some (.ref 6))):LeftO p q loose Xt Yf Ya N:=fun w=>by
 obtain⟨⟨h,gs,d,k,os⟩,e1,e2⟩:=Option.map_eq_some_iff.mp (boot_open e hN f w)
 obtain⟨rfl,rfl,rfl,rfl⟩:h=boot_heap w.params/\gs=Array.mk []/\d=boot_drawn/\k=boot_toks:=by simpa using e2
 obtain⟨z1,z3⟩:_/\_:=by simpa only[Prod.mk.injEq] using hs w.params
 obtain⟨r,r1,r2⟩:=Option.map_eq_some_iff.mp (run w os)
 obtain⟨l1,l2,l3⟩:_/\_/\_:=by simpa only[Look,Prod.mk.injEq] using r2
 have r3:=topRun_mono (N-M) _ _ _ _ (ZB r1)
 rw[show M+(N-M)=N by have:=Nat.le_of_ble_eq_true le; omega] at r3
 have a:(S0 w os).abs=⟨boot_heap w.params, #[],boot_drawn,boot_toks,os⟩:=by rw[Yo]; rfl
 rw[a] at r3
 have t:topFrom treeTable p w N ⟨boot_heap w.params, #[],boot_drawn,boot_toks,os⟩=some r.abs:=by
  unfold topFrom
  dsimp only
  rw[z1,z3,show(boot_heap w.params).objs.size=11 from rfl,r3]
  show(match staticsOk (importedModules p.main.body) (boot_heap w.params) r.abs.heap&&namesBound p r.abs.heap&&gensDone r.abs&&laidKept (boot_heap w.params) r.abs.heap with|true=>_|false=>_)=_
  rw[l1]
 unfold openEnds
 rw[e1]
 show(topFrom treeTable p w N _).map _=_
 rw[t]
 exact congrArg some (Prod.ext l2 l3)
theorem four {α β δ1 δ2 δ3 δ4 ε ζ:Type} {o:Option α} {A:α->β} {S:α->δ1×δ2×δ3×δ4×ε} {C:α->ζ} {a:β} {g:δ1×δ2×δ3×δ4×ε} {c:ζ} (hA:o.map A=some a) (h1:o.map (fun s=>((S s).1,(S s).2.1,(S s).2.2.1,(S s).2.2.2.1))=some (g.1,g.2.1,g.2.2.1,g.2.2.2.1)) (h2:o.map (fun s=>(S s).2.2.2.2)=some g.2.2.2.2) (hC:o.map C=some c):o.map (fun s=>(A s,S s,C s))=some (a,g,c):=by
 cases o with
 |none=>cases hA
 |some r =>
  simp only[Option.map_some,Option.some.injEq,Prod.mk.injEq] at hA h1 h2 hC ⊢
  exact⟨hA,Prod.ext h1.1 (Prod.ext h1.2.1 (Prod.ext h1.2.2.1 (Prod.ext h1.2.2.2 h2))),hC⟩
theorem look4 {p q:Program} {loose:List Str} {Xt:Shared->Bool} {α:Type} {Yf:Shared->α} {w:World} {y:α} (o:Option SharedT)
  (hA:o.map (fun s=>staticsOk (importedModules p.main.body) (boot_heap w.params) s.abs.heap&&namesBound p s.abs.heap&&gensDone s.abs&&laidKept (boot_heap w.params) s.abs.heap)=some true)
  (hB:o.map (fun s=>((openSeen q loose (importedModules p.main.body) Xt true s.abs).1,(openSeen q loose (importedModules p.main.body) Xt true s.abs).2.1,(openSeen q loose (importedModules p.main.body) Xt true s.abs).2.2.1,(openSeen q loose (importedModules p.main.body) Xt true s.abs).2.2.2.1))=some ((openGood q loose).1,(openGood q loose).2.1,(openGood q loose).2.2.1,(openGood q loose).2.2.2.1))
  (hD:o.map (fun s=>(openSeen q loose (importedModules p.main.body) Xt true s.abs).2.2.2.2)=some (openGood q loose).2.2.2.2) (hC:o.map (fun s=>Yf s.abs)=some y):o.map (fun s=>Look p q loose Xt Yf w s.abs)=some (true,openGood q loose,y):=by
 cases o with
 |none=>cases hA
 |some r =>
  have hA:=Option.some.inj hA
  have hB:=Option.some.inj hB
  have hD:=Option.some.inj hD
  have hC:=Option.some.inj hC
  obtain⟨b1,b2⟩:=Prod.mk.inj hB
  obtain⟨b2,b3⟩:=Prod.mk.inj b2
  obtain⟨b3,b4⟩:=Prod.mk.inj b3
  exact congrArg some (Prod.ext hA (Prod.ext (Prod.ext b1 (Prod.ext b2 (Prod.ext b3 (Prod.ext b4 hD)))) hC))
theorem left_of4 {p q:Program} {loose:List Str} {Xt:Shared->Bool} {α:Type} {Yf:Shared->α} {Ya:World->α} {N M:Nat}
  (e:opening p=plainProg p.main.scope.names) (hN:Nat.ble 600 N=true) (f:∀s,fenceModules? p s=some s) (le:Nat.ble M N=true)
  (rA:∀w os,(topT treeTable p w 11 (some (.ref 6)) M (S0 w os) (topStub p)).map (fun s=>staticsOk (importedModules p.main.body) (boot_heap w.params) s.abs.heap&&namesBound p s.abs.heap&&gensDone s.abs&&laidKept (boot_heap w.params) s.abs.heap)=some true)
  (rB:∀w os,(topT treeTable p w 11 (some (.ref 6)) M (S0 w os) (topStub p)).map (fun s=>((openSeen q loose (importedModules p.main.body) Xt true s.abs).1,(openSeen q loose (importedModules p.main.body) Xt true s.abs).2.1,(openSeen q loose (importedModules p.main.body) Xt true s.abs).2.2.1,(openSeen q loose (importedModules p.main.body) Xt true s.abs).2.2.2.1))=some ((openGood q loose).1,(openGood q loose).2.1,(openGood q loose).2.2.1,(openGood q loose).2.2.2.1))
  (rD:∀w os,(topT treeTable p w 11 (some (.ref 6)) M (S0 w os) (topStub p)).map (fun s=>(openSeen q loose (importedModules p.main.body) Xt true s.abs).2.2.2.2)=some (openGood q loose).2.2.2.2)
  (rC:∀w os,(topT treeTable p w 11 (some (.ref 6)) M (S0 w os) (topStub p)).map (fun s=>Yf s.abs)=some (Ya w))
  (hs:∀P:Params,((boot_heap P).isNs mainGlobals,(boot_heap P).nsMap mainGlobals "__annotations__")=(true,some (.ref 6))):LeftO p q loose Xt Yf Ya N :=
 left_of e hN f le (fun w os=>look4 _ (rA w os) (rB w os) (rD w os) (rC w os)) hs
theorem boot_main (P:Params):((boot_heap P).isNs mainGlobals,(boot_heap P).nsMap mainGlobals "__annotations__")=(true,some (.ref 6)):=by kernel_rfl
end Hd
namespace Hd
open PySem PySem.W PySem.Calls PyProof.Rows
theorem close {r:OpenRow} {q:Program} {loose:List Str} {lv:List (Str×WData)} {H:Hook} {d:DefRec} {kwd:List (Str×Expr)} {N:Nat}
  (left:LeftO r.prog q loose (fun s=>xlAt q lv s&&recOk (RowW.records (OpenRow.toRowW r)) s) H.obs H.val N) (h1:defOf q r.name=some (d,kwd)) (h2:r.prog.theDef r.name=some (d.params,d.body,d.scope))
  (h3:kwWritten? d.params.kwonlyargs d.params.kw_defaults=some kwd) (h4:(!r.writes||r.records.isEmpty)=true) (h5:r.wellSaid=true) (h6:(chainsOk q&&opensWell r.prog&&(frees r.toRowW&&r.within.isEmpty))=true) (h7:r.prog.bare)
  (hw:r.toRowW.promised) (hc:WalkO q loose (XL q lv) H.says r.toRowW d kwd fun f vs=>PySem.call f vs):r.Holds :=
 holds_open left H.of H.keeps (fun s z=>xl_of s (Bool.and_eq_true_iff.mp z).1) XL.keeps h1 h2 h3 (fun s z=>recFacts_of (Bool.and_eq_true_iff.mp z).2) h4 h5 h6 h7 hw hc
end Hd
set_option maxHeartbeats 4000000
namespace Mw
open PySem L2 PyProof.Rows
def top (i:Nat):Stmt:=PySem.Challenge.pw_markwords_k63_texts_that_are_none.main.body.getD i (.Pass ⟨0,0,0,0⟩)
local macro_rules | `(tactic| walk_at "hp") => `(tactic| first|assumption|exact upd_same|(refine qX (by assumption) ?_; walk_at "hp")|(refine ju (by first|assumption|(apply Ne.symm; assumption)) ?_; walk_at "hp"))
local macro_rules | `(tactic| walk_at "go") => `(tactic| repeat (first|(simp only[L2.start,tSeq,kM,tAsg,tOp,tUn,tVar,tC,qZ,gSub,tRet,tRetN,tIfS,QR,tLM,tTru,xw,tBM,tBM0,tRev,jh,xu,ZL,jz,jx,kS,jA,rd_pi,tSl,zB,QQ,rd_I,rd_I0,rd_U,kR,rd_bl,tCB,zr,tNil,tTup,tLst,tYes,tAnd,tOr,tNot,tB,tIf,QU,tOrV,tNotV,jn,rd_l1,rd_l2,rd_lr,List.getElem?_cons_zero,List.getElem?_cons_succ,Option.some.injEq,exists_eq_left',List.set_cons_zero,List.set_cons_succ,vD,List.zip_cons_cons,List.zip_nil_left,List.zip_nil_right,List.map_cons,List.map_nil,List.length_cons,List.length_nil,List.replicate,List.append_nil,List.nil_append,List.cons_append,Bool.false_eq_true,if_true,if_false,decide_eq_true_eq,Nat.zero_add,xr,xq])|refine KM (by walk_at "hp") rfl ?_|refine ixT_at (by walk_at "hp") rfl ?_|refine KM (by walk_at "hp") at0 ?_|refine setL_at (by walk_at "hp") rfl ?_|refine len_at (by walk_at "hp") ?_|refine Qk (by walk_at "hp") ?_|refine gTup3_at (by walk_at "hp") ?_|refine lm_at (by walk_at "hp") ?_|refine it_at (by walk_at "hp") ?_|refine K2 rfl ?_|refine ne_at rfl ?_))
section
variable {P:Program} {w:World} {K:PySem.W.Frag} {mg:Str->Option Value} {base:Heap}
abbrev sBag:Stmt:=top 24
theorem scBag:FnScope ["script", "stir", "cell"] ["script"] (qc sBag):=⟨rfl,rfl,rfl,by decide +kernel,rfl,by decide +kernel,by decide +kernel⟩
abbrev VQ:Stmt:=top 25
theorem scDraw:FnScope ["bag", "many", "found"] ["bag", "many"] (qc VQ):=⟨rfl,rfl,rfl,by decide +kernel,rfl,by decide +kernel,by decide +kernel⟩
structure BagAt (H:Hp) (b:Addr):Prop where
 ex:∃(c:Addr) (ns:List Int) (i a st n:Int),H b=some (.lst [.ref c, .int i, .int a, .int st, .int n])/\H c=some (.lst (ns.map V.int))/\0<=i/\i<=ns.length/\ns.length<=63/\(∀x∈ns,0<=x)/\0<=a/\0<=st/\st<2147483647
def spBag (K:PySem.W.Frag):Sp:=fun vs H Q _=>∃(a:Addr) (ns:List Int),vs=[.ref a]/\SqL K H a (ns.map V.int)/\ns.length<=63/\∀(b:Addr) (H':Hp),H b=none->Same H H'->BagAt H' b->Q (.ref b) H'
theorem cut63 (ns:List Int) (h:ns.length<=63):cutV (ns.map V.int) none (some 63)=ns.map V.int:=by
 unfold cutV
 have e1:HT.sIx (ns.map V.int).length 0 none=0:=rfl
 have e2:HT.sIx (ns.map V.int).length (ns.map V.int).length (some 63)=min 63 (ns.map V.int).length:=HT.sIx_nat _ _ 63
 rw[e1,e2]
 simp only[List.drop_zero,List.length_map]
 rw[List.take_of_length_le]
 simp; omega
theorem Xb {ns:List Int} {i:Nat} {y:V} (h:(ns.map V.int)[i]?=some y):∃z,y=V.int z/\ns[i]?=some z:=by
 rw[List.getElem?_map] at h
 cases e:ns[i]? with
 |none=>rw[e] at h; cases h
 |some z=>rw[e] at h; exact⟨z,(Option.some.inj h).symm,rfl⟩
theorem ok_bag {f:Addr} {fd:FuncData} (F:Fun K "_law_bag" "_law_bag" sBag f fd) (N:Nms mg):FnOk P w K mg base CX0 1 f fd ["script"] (spBag K):=by
 refine F.okQ scBag (fun vs H Q E h=>?_) (fun cdv A outer s H vs Q E hr h=>?_)
 ·obtain⟨a,ns,rfl,_⟩:=h
  rfl
 ·obtain⟨a,ns,rfl,hS,hlen,k⟩:=h
  refine⟨_,(qg (qE (i:=1) scBag.nd rfl (Or.inl rfl) qe)
  (qg (ZQ PassesOwn.never rfl (xg (K:=K) rfl (qK (ve (K:=K) rfl) (qv 0) qR (qQ qe))) (vg (i:=2) scBag.nd rfl (Or.inl rfl))
   (qk (qE (i:=1) scBag.nd rfl (Or.inl rfl) (qx jS (qx vn (qx vn (qx ky (qv 1) qe) (qx jS (qv 2) qe)) qe) qe))))
  (qk (qG (vf (qa_c (Q6 [false,false,false] [] (xg (K:=K) rfl (qK (ve (K:=K) rfl) (qv 0) qR (qQ qe))) (fun _ _ _=>(vg (i:=2) scBag.nd rfl (Or.inl rfl))) (fun _ _ _=>vL) (fun _ _ _=>(qx jS (qr call_abs (by rfl) N.abs b_abs (qa_c (qv 2) qd)) (qx ZY qe qe)))) (qa_c qe (qa_c qe (qa_c (qv 1) (qa_c qe qd)))))))))), ?_⟩
  refine⟨_,rfl,_,rfl,a,_,rfl,hS,fun p hp=>?_⟩
  rw[cut63 ns hlen]
  refine⟨p,rfl,⟨_,SqL.of upd_same⟩,for_list (K:=K) (a:=p) (xs:=ns.map V.int) (fun i σ H2=>∃(st:Int) (v:Option V),σ=[some (.ref a),some (.int st),v]/\0<=st/\st<2147483647/\H2=upd H p (.lst (ns.map V.int)))
   ⟨17,none,rfl,by decide,by decide,rfl⟩ (fun i σ H2 _ ⟨_,_,_,_,_,e⟩=>by rw[e]; exact SqL.of upd_same) ?_ ?_⟩
  ·rintro i y σ H2 hi ⟨st,v,rfl,h0,h1,rfl⟩
   obtain⟨z,rfl,_⟩:=Xb hi
   (simp only[L2.start,tSeq,kM,tAsg,tOp,tUn,tVar,tC,qZ,gSub,tRet,tRetN,tIfS,QR,tLM,tTru,xw,tBM,tBM0,tRev,jh,xu,ZL,jz,jx,kS,jA,rd_pi,tSl,zB,QQ,rd_I,rd_I0,rd_U,kR,rd_bl,tCB,zr,tNil,tTup,tLst,tYes,tAnd,tOr,tNot,tB,tIf,QU,tOrV,tNotV,jn,rd_l1,rd_l2,rd_lr,List.getElem?_cons_zero,List.getElem?_cons_succ,Option.some.injEq,exists_eq_left',List.set_cons_zero,List.set_cons_succ,vD,List.zip_cons_cons,List.zip_nil_left,List.zip_nil_right,List.map_cons,List.map_nil,List.length_cons,List.length_nil,List.replicate,List.append_nil,List.nil_append,List.cons_append,Bool.false_eq_true,if_true,if_false,decide_eq_true_eq,Nat.zero_add,xr,xq])
   refine⟨.inr ⟨by decide,by decide⟩,by decide,by decide,_,_,rfl,Int.emod_nonneg _ (by decide),Int.emod_lt_of_pos _ (by decide),trivial⟩
  ·rintro σ H2 ⟨st,v,rfl,h0,h1,rfl⟩
   have hS2:SqL K (upd H p (.lst (ns.map V.int))) a (ns.map V.int):=((Same.refl H).upd hp).seq hS
   refine⟨_,rfl,_,rfl,a,_,rfl,hS2,fun p2 hp2=>?_⟩
   rw[cut63 ns hlen]
   obtain⟨f2,n2⟩:=Qp hp2
   refine⟨p2,rfl,⟨_,SqL.of upd_same⟩,fun acc hacc=>?_⟩
   obtain⟨g1,n3⟩:=Qp hacc
   obtain⟨g2,n4⟩:=Qp g1
   refine Yh (xs:=ns.map V.int) (fun i H3=>∃ys:List Int,H3 acc=some (.lst (ys.map V.int))/\ys.length=i/\(∀y∈ys,0<=y)/\H3 p2=some (.lst (ns.map V.int))/\Same H H3) ?_ ?_ ?_ ?_
   ·exact⟨[],upd_same,rfl,(fun _ h=>nomatch h),qX hacc upd_same,(((Same.refl H).upd hp).upd f2).upd g2⟩
   ·rintro i H3 _ ⟨ys,_,_,_,e,_⟩
    exact SqL.of e
   ·rintro i y H3 hi ⟨ys,e1,e2,e3,e4,e5⟩
    obtain⟨z,rfl,hz⟩:=Xb hi
    have hil:i<ns.length:=(List.getElem?_eq_some_iff.mp hz).1
    (simp only[L2.start,tSeq,kM,tAsg,tOp,tUn,tVar,tC,qZ,gSub,tRet,tRetN,tIfS,QR,tLM,tTru,xw,tBM,tBM0,tRev,jh,xu,ZL,jz,jx,kS,jA,rd_pi,tSl,zB,QQ,rd_I,rd_I0,rd_U,kR,rd_bl,tCB,zr,tNil,tTup,tLst,tYes,tAnd,tOr,tNot,tB,tIf,QU,tOrV,tNotV,jn,rd_l1,rd_l2,rd_lr,List.getElem?_cons_zero,List.getElem?_cons_succ,Option.some.injEq,exists_eq_left',List.set_cons_zero,List.set_cons_succ,vD,List.zip_cons_cons,List.zip_nil_left,List.zip_nil_right,List.map_cons,List.map_nil,List.length_cons,List.length_nil,List.replicate,List.append_nil,List.nil_append,List.cons_append,Bool.false_eq_true,if_true,if_false,decide_eq_true_eq,Nat.zero_add,xr,xq])
    refine⟨⟨by(repeat (first|exact ExtS.nl|refine ExtS.sm ?_|refine ExtS.no ?_)),trivial⟩,⟨by decide,by decide,by decide⟩,by decide,ys.map V.int,e1,qC (by simp; omega),ys++[(if z<0 then -z else z) % 10^(60:Int).toNat], ?_,by simp[e2], ?_,ju n3.symm e4,e5.upd g2⟩
    ·rw[upd_same,List.map_append]; rfl
    ·intro y hy
     rcases List.mem_append.mp hy with h|h
     ·exact e3 y h
     ·rw[List.mem_singleton.mp h]; exact Int.emod_nonneg _ (by decide)
   ·rintro H3 ⟨ys,e1,e2,e3,e4,e5⟩
    rw[List.length_map] at e2
    (simp only[L2.start,tSeq,kM,tAsg,tOp,tUn,tVar,tC,qZ,gSub,tRet,tRetN,tIfS,QR,tLM,tTru,xw,tBM,tBM0,tRev,jh,xu,ZL,jz,jx,kS,jA,rd_pi,tSl,zB,QQ,rd_I,rd_I0,rd_U,kR,rd_bl,tCB,zr,tNil,tTup,tLst,tYes,tAnd,tOr,tNot,tB,tIf,QU,tOrV,tNotV,jn,rd_l1,rd_l2,rd_lr,List.getElem?_cons_zero,List.getElem?_cons_succ,Option.some.injEq,exists_eq_left',List.set_cons_zero,List.set_cons_succ,vD,List.zip_cons_cons,List.zip_nil_left,List.zip_nil_right,List.map_cons,List.map_nil,List.length_cons,List.length_nil,List.replicate,List.append_nil,List.nil_append,List.cons_append,Bool.false_eq_true,if_true,if_false,decide_eq_true_eq,Nat.zero_add,xr,xq])
    refine⟨by decide,fun b hb=>?_⟩
    refine k b _ (e5.free hb) (e5.upd (e5.free hb)) ⟨acc,ys,0,0,st,0,upd_same,qX hb e1,by decide,by omega,by omega,e3,by decide,h0,h1⟩
theorem Ys {H:Hp} {b c:Addr} {ns:List Int} {i a st n:Int} (hb:H b=some (.lst [.ref c, .int i, .int a, .int st, .int n])) (hc:H c=some (.lst (ns.map V.int))):c≠b:=by
 intro e
 subst e
 rw[hb] at hc
 injection hc with hc
 injection hc with hc
 cases ns with
 |nil=>cases hc
 |cons z r=>cases hc
def xQ (H:Hp) (b c:Addr):Prop:=∃r,H b=some (.lst (.ref c::r))
theorem Vl {H H':Hp} {b c:Addr} {r r':List V} (h:H b=some (.lst (.ref c::r))) (h':H' b=some (.lst (.ref c::r'))):∀c',xQ H b c'->xQ H' b c':=fun c' ⟨q,e⟩=>by
 rw[h] at e
 injection e with e
 injection e with e
 injection e with e _
 injection e with e
 subst e
 exact⟨r',h'⟩
theorem head_inj {H:Hp} {b c c':Addr} (h:xQ H b c) (h':xQ H b c'):c=c':=by
 obtain⟨q,e⟩:=h
 obtain⟨q',e'⟩:=h'
 rw[e] at e'
 injection e' with e'
 injection e' with e'
 injection e' with e' _
 injection e'
def spDraw2:Sp:=fun vs H Q _=>∃(b:Addr) (many:Int),vs=[.ref b, .int many]/\BagAt H b/\0<many/\many.natAbs.log2<9000/\∀(found:Int) (H':Hp),0<=found->found<many->BagAt H' b->(∀x,x≠b->H' x=H x)->(∀c,xQ H b c->xQ H' b c)->Q (.int found) H'
theorem BagAt.put {H:Hp} {b p c0:Addr} {o:HO} (h:BagAt H b) (hh:xQ H b c0) (n1:p≠b) (n2:p≠c0):BagAt (L2.upd H p o) b:=by
 obtain⟨c,ns,i,a,st,n,hb,hc,r⟩:=h.ex
 have e:c0=c:=by
  obtain⟨q,e⟩:=hh
  rw[hb] at e
  injection e with e
  injection e with e
  injection e with e _
  injection e with e
  exact e.symm
 subst e
 exact⟨c0,ns,i,a,st,n,ju n1.symm hb,ju n2.symm hc,r⟩
theorem ok_draw2 {f:Addr} {fd:FuncData} (F:Fun K "_law_draw" "_law_draw" VQ f fd) (N:Nms mg):FnOk P w K mg base CX0 1 f fd ["bag", "many"] spDraw2:=by
 refine F.okQ scDraw (fun vs H Q E h=>?_) (fun cdv A outer s H vs Q E hr h=>?_)
 ·obtain⟨b,m,rfl,_⟩:=h
  rfl
 ·obtain⟨b,many,rfl,⟨c,ns,i,a,st,n,hb,hc,i0,i1,hl,hns,a0,s0,s1⟩,m0,mb,k⟩:=h
  have hcb:=Ys hb hc
  refine⟨_,(qg (vB (jO (ZN (qu v5 (qY (qt (K:=K) rfl) (qv 0) qe (fun _ _=>rfl)) qe (qD _)) (kW (qu VX (qY (qt (K:=K) rfl) (qv 0) qe (fun _ _=>rfl)) (qr v9 (by rfl) N.len zz (qa_c (qY (qt (K:=K) rfl) (qv 0) qe (fun _ _=>rfl)) qd)) (qD _)))))
   (qg (kn (qY (qt (K:=K) rfl) (qY (qt (K:=K) rfl) (qv 0) qe (fun _ _=>rfl)) (qY (qt (K:=K) rfl) (qv 0) qe (fun _ _=>rfl)) (fun _ _=>rfl)) (ko (qv 0) qe z0))
   (qk (kn (qx vn (qY (qt (K:=K) rfl) (qv 0) qe (fun _ _=>rfl)) qe) (ko (qv 0) qe z0))))
   (qk (vB (qu v5 (qY (qt (K:=K) rfl) (qv 0) qe (fun _ _=>rfl)) qe (qD _))
    (qg (kn (qx vn (qY (qt (K:=K) rfl) (qv 0) qe (fun _ _=>rfl)) qe) (ko (qv 0) qe z0))
    (qg (kn (qx jS (qx vn (qx vn (qx vn (qx ZY (qY (qt (K:=K) rfl) (qv 0) qe (fun _ _=>rfl)) qe) (qx ky qe (qY (qt (K:=K) rfl) (qv 0) qe (fun _ _=>rfl)))) (qx ky qe (qY (qt (K:=K) rfl) (qv 0) qe (fun _ _=>rfl)))) qe) qe) (ko (qv 0) qe z0))
    (qk (qG (qx jS (qx ZZ (qY (qt (K:=K) rfl) (qv 0) qe (fun _ _=>rfl)) qe) (qv 1))))))
    qH)))
  (qg (qE (i:=2) scDraw.nd rfl (Or.inl rfl) (qx jS (qY (qt (K:=K) rfl) (qv 0) qe (fun _ _=>rfl)) (qv 1)))
  (qg (kn (qx ZZ (qY (qt (K:=K) rfl) (qv 0) qe (fun _ _=>rfl)) (qv 1)) (ko (qv 0) qe z0))
  (qk (qG (qv 2)))))), ?_⟩
  walk_at "go"
  have fin:∀(z:Int) (H':Hp) (i' a' st' n':Int),0<=z->H' b=some (.lst [.ref c, .int i', .int (z / many), .int st', .int n'])->(∀x,x≠b->H' x=H x)->0<=i'->i'<=ns.length->0<=st'->st'<2147483647->Q (.int (z % many)) H':=fun z H' i' a' st' n' hz e1 e2 e3 e4 e5 e6 =>
   k _ _ (Int.emod_nonneg _ (by omega)) (Int.emod_lt_of_pos _ m0) ⟨c,ns,i',z / many,st',n',e1,by rw[e2 c hcb]; exact hc,e3,e4,hl,hns,Int.ediv_nonneg hz (by omega),e5,e6⟩ e2 (Vl hb e1)
  refine ite2 (fun ha=>?_) (fun ha=>?_)
  ·walk_at "go"
   refine ite2 (fun hi=>?_) (fun hi=>?_)
   ·rw[List.length_map] at hi
    obtain⟨j,rfl⟩:∃j:Nat,i=(j:Int):=⟨i.toNat,by omega⟩
    have hj:j<ns.length:=by omega
    walk_at "go"
    refine KM hc (zT (v:=.int ns[j]) (by rw[List.getElem?_map,List.getElem?_eq_getElem hj]; rfl)) ?_
    walk_at "go"
    refine⟨m0, ?_⟩
    walk_at "go"
    refine⟨⟨m0,mb⟩, ?_⟩
    walk_at "go"
    exact fin _ _ (j+1) 0 st n (hns _ (List.getElem_mem hj)) upd_same (fun x hx=>by rw[upd_ne hx,upd_ne hx,upd_ne hx]) (by omega) (by omega) s0 s1
   ·walk_at "go"
    rw[if_pos ha]
    walk_at "go"
    refine⟨⟨by decide,by decide,by omega⟩, ?_⟩
    walk_at "go"
    refine⟨.inl ⟨by decide,by decide⟩, ?_⟩
    walk_at "go"
    refine⟨.inl ⟨by decide,by decide⟩,by decide, ?_⟩
    walk_at "go"
    refine⟨⟨by decide,by decide⟩,m0, ?_⟩
    refine k _ _ (Int.emod_nonneg _ (by omega)) (Int.emod_lt_of_pos _ m0) ⟨c,ns,i,a,_,n+1,upd_same, ?_,i0,i1,hl,hns,a0,Int.emod_nonneg _ (by decide),Int.emod_lt_of_pos _ (by decide)⟩ (fun x hx=>by rw[upd_ne hx,upd_ne hx]) (Vl hb upd_same)
    walk_at "hp"
  ·walk_at "go"
   rw[if_neg ha]
   walk_at "go"
   refine⟨m0, ?_⟩
   walk_at "go"
   refine⟨⟨m0,mb⟩, ?_⟩
   walk_at "go"
   exact fin _ _ i 0 st n a0 upd_same (fun x hx=>by rw[upd_ne hx]) i0 i1 s0 s1
def MB (M:MM) (k:Nat) (o:MO) (L:List MO):MM:=M.set k o++L
theorem Xw {M:MM} {k:Nat} {o:MO} {L:List MO}:(MB M k o L).length=M.length+L.length:=by unfold MB; rw[List.length_append,List.length_set]
theorem Xv {M:MM} {k:Nat} {o x:MO} {L:List MO}:MB M k o L++[x]=MB M k o (L++[x]):=by unfold MB; rw[List.append_assoc]
theorem MB_get {M:MM} {k i:Nat} {o:MO} {L:List MO}:(MB M k o L)[M.length+i]?=L[i]?:=by
 unfold MB
 rw[List.getElem?_append_right (by rw[List.length_set]; omega),List.length_set,Nat.add_sub_cancel_left]
theorem zZ {M:MM} {k i:Nat} {o x:MO} {L:List MO} (h:L[i]?=some x:=by rfl):(MB M k o L)[M.length+i]?=some x:=MB_get.trans h
theorem Yx {M:MM} {k i:Nat} {o x:MO} {L:List MO}:(MB M k o L).set (M.length+i) x=MB M k o (L.set i x):=by
 unfold MB
 rw[List.set_append_right _ _ (by rw[List.length_set]; omega),List.length_set,Nat.add_sub_cancel_left]
theorem j8 {M:MM} {k:Nat} {o:MO} {L:List MO} (h:k<M.length):(MB M k o L)[k]?=some o:=by
 unfold MB
 rw[List.getElem?_append_left (by rw[List.length_set]; exact h),List.getElem?_set_self h]
theorem zc {M:MM} {k:Nat} {o o':MO} {L:List MO} (h:k<M.length):(MB M k o L).set k o'=MB M k o' L:=by
 unfold MB
 rw[List.set_append_left _ _ (by rw[List.length_set]; exact h),List.set_set]
theorem zY {M:MM} {k:Nat} {o:MO} {L:List MO}:(MB M k o L).take M.length=M.set k o:=by
 unfold MB
 rw[List.take_left' (by rw[List.length_set])]
theorem zi {M:MM} {k:Nat} {o:MO} (h:M[k]?=some o):k<M.length/\M=MB M k o []:=by
 refine⟨(List.getElem?_eq_some_iff.mp h).1, ?_⟩
 unfold MB
 rw[List.append_nil]
 obtain⟨hk,rfl⟩:=List.getElem?_eq_some_iff.mp h
 rw[List.set_getElem_self]
theorem zW {M:MM} {k:Nat} {o:MO} {L:List MO} (h:PurO o):zh M (MB M k o L):=fun i x hi e=>by
 unfold MB at e
 rw[List.getElem?_append_left (by rw[List.length_set]; exact hi)] at e
 by_cases hk:k=i
 ·subst hk
  rw[List.getElem?_set_self hi] at e
  cases e
  exact .inr h
 ·rw[List.getElem?_set_ne hk] at e
  exact .inl e
structure BagO (o:MO):Prop where
 ex:∃(ns:List Int) (i a st n:Int),o=.lst [.p (intsT ns), .p (.int i), .p (.int a), .p (.int st), .p (.int n)]/\0<=i/\i<=ns.length/\ns.length<=63/\(∀x∈ns,0<=x)/\0<=a/\0<=st/\st<2147483647
theorem BagO.pur {o:MO} (h:BagO o):PurO o:=by
 obtain⟨ns,i,a,st,n,rfl,_⟩:=h.ex
 exact⟨[intsT ns, .int i, .int a, .int st, .int n],rfl⟩
def jq:List U->MM->UK->Prop:=fun us M Q=>∃(k:Nat) (o:MO) (many:Int),us=[.m k, .p (.int many)]/\M[k]?=some o/\BagO o/\0<many/\many.natAbs.log2<9000/\∀(found:Int) (o':MO),0<=found->found<many->BagO o'->Q (.p (.int found)) (M.set k o')
theorem qI {M:MM} {k:Nat} {o:MO} {L:List MO} {many:Int} {Q:UK} (hk:k<M.length) (B:BagO o) (h0:0<many) (h1:many.natAbs.log2<9000) (q:∀(found:Int) (o':MO),0<=found->found<many->BagO o'->Q (.p (.int found)) (MB M k o' L)):jq [.m k, .p (.int many)] (MB M k o L) Q :=
 ⟨k,o,many,rfl,j8 hk,B,h0,h1,fun f o' f0 f1 B'=>by rw[zc hk]; exact q f o' f0 f1 B'⟩
theorem ints_inv {A:Addr->Prop} {H:Hp} {v:V} {ns:List Int} (r:RepT A H v (intsT ns)):∃p,v=.ref p/\¬A p/\H p=some (.lst (ns.map V.int)):=by
 obtain⟨p,vs,rfl,na,h,q⟩:=r.lst_inv
 refine⟨p,rfl,na, ?_⟩
 have:vs=ns.map V.int:=by
  clear h r na
  induction ns generalizing vs with
  |nil=>cases q; rfl
  |cons n ns ih =>
   cases q with
   |cons a b=>cases a; rw[ih _ b]; rfl
 rw[h,this]
theorem Xa {A:Addr->Prop} {H:Hp} {p:Addr} {ns:List Int} (na:¬A p) (h:H p=some (.lst (ns.map V.int))):RepT A H (.ref p) (intsT ns):=by
 refine .lstP na h ?_
 induction ns with
 |nil=>exact .nil
 |cons n ns ih=>exact .cons (.int n) (by
   clear h ih
   induction ns with
   |nil=>exact .nil
   |cons n ns ih=>exact .cons (.int n) ih)
theorem bag_obj {A:Addr->Prop} {ι:List Addr} {H:Hp} {b:Addr} {o:MO} (hb:BagO o) (r:ObjR A ι H b o):BagAt H b/\∃c,xQ H b c/\¬Av A ι c/\∃ns:List Int,H c=some (.lst (ns.map V.int)):=by
 obtain⟨ns,i,a,st,n,rfl,k⟩:=hb.ex
 obtain⟨vs,h,q⟩:=r
 cases q with
 |cons q1 q =>
 cases q with
 |cons q2 q =>
 cases q with
 |cons q3 q =>
 cases q with
 |cons q4 q =>
 cases q with
 |cons q5 q =>
 cases q
 cases q1 with
 |p q1 =>
 obtain⟨c,rfl,nc,hc⟩:=ints_inv q1
 cases q2 with
 |p q2 =>
 cases q3 with
 |p q3 =>
 cases q4 with
 |p q4 =>
 cases q5 with
 |p q5 =>
 cases q2; cases q3; cases q4; cases q5
 exact⟨⟨c,ns,i,a,st,n,h,hc,k⟩,c,⟨_,h⟩,nc,ns,hc⟩
theorem Xr {A:Addr->Prop} {ι:List Addr} {H:Hp} {b c:Addr} (B:BagAt H b) (hd:xQ H b c) (nc:¬Av A ι c):∃o,BagO o/\ObjR A ι H b o/\∃x,H b=some x/\∀H',H' b=some x->(∀y z,H y=some z->y≠b->H' y=some z)->ObjR A ι H' b o:=by
 obtain⟨c',ns,i,a,st,n,h,hc,k⟩:=B.ex
 have:c=c':=head_inj hd ⟨_,h⟩
 subst this
 have ncb:c≠b:=Ys h hc
 refine⟨_,⟨ns,i,a,st,n,rfl,k⟩,⟨_,h, .cons (.p (Xa nc hc)) (.cons (.p (.int _)) (.cons (.p (.int _)) (.cons (.p (.int _)) (.cons (.p (.int _)) .nil))))⟩,_,h,fun H' e f=>⟨_,e, .cons (.p (Xa nc (f _ _ hc ncb))) (.cons (.p (.int _)) (.cons (.p (.int _)) (.cons (.p (.int _)) (.cons (.p (.int _)) .nil))))⟩⟩
theorem ok_drawU {f:Addr} {fd:FuncData} (F:Fun K "_law_draw" "_law_draw" VQ f fd) (N:Nms mg):FnOk P w K mg base CX0 1 f fd ["bag", "many"] (spU jq):=by
 refine(ok_draw2 F N).imp fun vs H Q E h=>?_
 obtain⟨A,ι,M,us,Qu,w1,r,⟨k,o,many,rfl,em,hb,h0,h1,q⟩,kk⟩:=h
 cases r with
 |cons r1 r =>
 cases r with
 |cons r2 r =>
 cases r
 cases r2 with
 |p r2 =>
 cases r2
 cases r1 with
 |m ek =>
 rename_i b
 have ro:=w1.obj k b o ek em
 obtain⟨B,c,hd,nc,ns,hcs⟩:=bag_obj hb ro
 refine⟨b,many,rfl,B,h0,h1,fun found H' f0 f1 B' fr hdk=>?_⟩
 have hd':=hdk c hd
 have hmem:=List.mem_of_getElem? ek
 obtain⟨o',hb',ro',x,hx,_⟩:=Xr (A:=A) (ι:=ι) B' hd' nc
 have eH:H'=L2.upd H b x:=by
  funext y
  by_cases z:y=b
  ·subst z; rw[L2.upd_same]; exact hx
  ·rw[L2.upd_ne z]; exact fr y z
 subst eH
 exact kk _ _ ι _ _ (.put hmem) (w1.put ek ro') (.p (.int _)) (q found o' f0 f1 hb')
theorem up1 {a:T} {R:T->Prop}:(∃t,U.p a=.p t/\R t)=R a:=propext ⟨fun⟨_,e,h⟩=>by cases e; exact h,fun h=>⟨a,rfl,h⟩⟩
theorem xE {α β:Type} {f:α->β} {l:List α} {i:Nat} {y:β} (h:(l.map f)[i]?=some y):∃x,l[i]?=some x/\y=f x:=by
 rw[List.getElem?_map] at h
 cases e:l[i]? with
 |none=>rw[e] at h; cases h
 |some n=>rw[e] at h; cases h; exact⟨n,rfl,rfl⟩
theorem t2_at {M:MM} {u a b:U} {R:U->U->Prop} (h:vi M u=some [a,b]) (q:R a b):T2S M u R:=⟨a,b,h,q⟩
theorem t3_at {M:MM} {u a b c:U} {R:U->U->U->Prop} (h:vi M u=some [a,b,c]) (q:R a b c):T3S M u R:=⟨a,b,c,h,q⟩
theorem useq {a b:US} {E:UEnds} {ρ:UEnv} {M:MM} (h:a { E with nx:=b E } ρ M):uSeq a b E ρ M:=h
local macro_rules | `(tactic| walk_at "vs") => `(tactic| simp only[zD,uNext,uAsg,Jh,rd_name2,rd_name3,rd_var,rd_varS,uC,uCons,uNil,rd_op,rd_opS,rd_sI,rd_sI0,rd_eqI,rd_neI,rd_eqS,rd_neS,rd_eqB,rd_neB,uIsN,V8,rd_intS,rd_blS,rd_neg,rd_bits,rd_b,rd_andV,rd_orV,rd_notV,uAnd,uOr,uNot,uIf,rd_chain,rd_chP,rd_ch,rd_pur0,rd_purC,JH,rd_tup,rd_lst,uNew,uNewT,rd_ix,rd_sns0,rd_snsC,rd_cb,rd_abs',rd_min',rd_max',rd_int',rd_intB,rd_len,rd_lenP,rd_sl,rd_slS,rd_part,JI,rd_cat,rd_str,rd_iter,rd_iterP,rd_rng1,uFor,kL,Qg,rd_t2,rd_t3,rd_callP,rd_callS,rd_callU,rd_me,rd_app,uDrop,uRet,uRetN,uIfS,uYes,ss,uIsi,uIsi2,isU,isT,uIxK,uInK,vt,uDNew,rd_din,rd_dput,rd_idxK,rd_lrng2,rd_sub,rd_par,rd_par3,rd_p2,rd_p3,rd_name4,rd_t4,rd_fld,JJ,rd_meth,rd_make,JG,Bool.or_true,Bool.true_or,Bool.or_false,Bool.false_or,uIfC,iteT_int,iteT_str,rd_rev,rd_revP,up1,frzB_p,frzN_p,MO.lst.injEq,rd_dget,Zu,Xv,Xw,MB_get,Yx,Option.some.injEq,List.map_cons,List.map_nil,List.length_cons,List.length_nil,List.replicate,List.append_nil,List.nil_append,List.cons_append,List.getElem?_cons_zero,List.getElem?_cons_succ,List.set_cons_zero,List.set_cons_succ,List.zip_cons_cons,List.zip_nil_left,List.zip_nil_right,Bool.false_eq_true,if_true,if_false,decide_eq_true_eq,decide_true,decide_false,Bool.not_true,Bool.not_false,true_and,and_true,Nat.reduceAdd,Nat.reduceSub,Nat.zero_add,exists_eq_left'])
local macro_rules | `(tactic| walk_at "v") => `(tactic| repeat (first|with_reducible refine useq ?_|walk_at "vs" | ((with_reducible refine gdIx ?_); first|refine zf rfl ?_|refine zf at0 ?_|refine zf at1 ?_|refine ixt_at rfl ?_)|((with_reducible refine gdT2 ?_); refine t2_at rfl ?_)|((with_reducible refine gdT3 ?_); refine t3_at rfl ?_)|((with_reducible refine gdMe ?_); first|refine me_at rfl ?_|refine me_at zZ ?_)|((with_reducible refine gdLen ?_); first|refine KB rfl ?_|refine KB zZ ?_)))
abbrev xN:Stmt:=top 26
theorem JB:FnScope ["found", "due"] ["found", "due"] (qc xN):=⟨rfl,rfl,rfl,by decide +kernel,rfl,by decide +kernel,by decide +kernel⟩
theorem ndAlike1:(["found", "due", "k"]:List Str).Nodup:=by decide +kernel
def flatA:V->Bool
 |.non=>true
 |.bl _=>true
 |.int _=>true
 |.str _=>true
 |_=>false
def AL (H:Hp):Nat->V->V->Prop
 |0,_,_=>False
 |n+1,x,y=>(x=y/\flatA x=true)\/∃(p q:Addr) (xs ys:List V),x=.ref p/\y=.ref q/\((H p=some (.lst xs)/\H q=some (.lst ys))\/(H p=some (.tup xs)/\H q=some (.tup ys)))/\xs.length=ys.length/\xs.length<=10000000/\∀(j:Nat) (x y:V),xs[j]?=some x->ys[j]?=some y->AL H n x y
theorem AL.same {H H':Hp} (s:Same H H'):∀{n:Nat} {x y:V},AL H n x y->AL H' n x y
 |0,_,_,h=>h
 |n+1,_,_,h=>by
  rcases h with h|⟨p,q,xs,ys,e1,e2,h,l1,l2,k⟩
  ·exact .inl h
  ·refine .inr ⟨p,q,xs,ys,e1,e2, ?_,l1,l2,fun j x y a b=>(k j x y a b).same s⟩
   rcases h with⟨h1,h2⟩|⟨h1,h2⟩
   ·exact .inl ⟨s _ _ h1,s _ _ h2⟩
   ·exact .inr ⟨s _ _ h1,s _ _ h2⟩
def kN (n:Nat):Sp:=fun vs H Q _=>∃x y:V,vs=[x,y]/\AL H n x y/\∀H',Same H H'->Q (.bl true) H'
theorem ty_flat {K:PySem.W.Frag} {H:Hp} {v:V} (h:flatA v=true):∃t,TyOf K H v (.type t)/\PySem.W.kitAny K (.type t) [.type "list", .type "tuple"]=some false/\∃b i s,PySem.W.kitOne K (.type t) (.type "bool")=some b/\PySem.W.kitOne K (.type t) (.type "int")=some i/\PySem.W.kitOne K (.type t) (.type "str")=some s:=by
 cases v with
 |non=>exact⟨_,TyOf.non,rfl,_,_,_,rfl,rfl,rfl⟩
 |bl b=>exact⟨_,TyOf.bl b,rfl,_,_,_,rfl,rfl,rfl⟩
 |int i=>exact⟨_,TyOf.int i,rfl,_,_,_,rfl,rfl,rfl⟩
 |str s=>exact⟨_,TyOf.str s,rfl,_,_,_,rfl,rfl,rfl⟩
 |_=>cases h
theorem ixA_at {H:Hp} {p:Addr} {xs:List V} {i:Int} {v:V} {Q:VK} (h:SqL K H p xs\/SqT K H p xs) (e:atI xs i=some v) (q:Q v H):rIxA K (.ref p) (.int i) H Q :=
 h.elim (fun h=>.inl ⟨p,xs,i,v,rfl,rfl,h,e,q⟩) fun h=>.inr ⟨p,xs,i,v,rfl,rfl,h,e,q⟩
theorem Qa {n:Nat} {f:Addr} {fd:FuncData} (F:Fun K "_law_alike" "_law_alike" xN f fd) (N:Nms mg) (DAlike:Def P w K mg base "_law_alike" (n+1) ["found", "due"] (kN n)):FnOk P w K mg base CX0 (n+2) f fd ["found", "due"] (kN (n+1)):=by
 refine F.okQ JB (fun vs H Q E h=>?_) (fun cdv A outer s H vs Q E hr h=>?_)
 ·obtain⟨_,_,rfl,_⟩:=h
  rfl
 ·obtain⟨x,y,rfl,hA,k⟩:=h
  refine⟨_,(qg (vB (jj (qr (Vx (K:=K) rfl) (by rfl) N.isinstance qB (qa_c (qv 1) (qa_c (kq (qa_c (vC (v:=.ty "list") (by rfl) N.list kF rfl) (qa_c (vC (v:=.ty "tuple") (by rfl) N.tuple Qz rfl) qd))) qd))))
   (qg (vB (jO (Q5 (jk (jj (qr (Vx (K:=K) rfl) (by rfl) N.isinstance qB (qa_c (qv 0) (qa_c (kq (qa_c (vC (v:=.ty "list") (by rfl) N.list kF rfl) (qa_c (vC (v:=.ty "tuple") (by rfl) N.tuple Qz rfl) qd))) qd))))) (jP (qu XO (qr (vK (K:=K) rfl) (by rfl) N.isinstance qB (qa_c (qv 0) (qa_c (vC (v:=.ty "list") (by rfl) N.list kF rfl) qd))) (qr (vK (K:=K) rfl) (by rfl) N.isinstance qB (qa_c (qv 1) (qa_c (vC (v:=.ty "list") (by rfl) N.list kF rfl) qd))) (qD _)))))
    (qk (qG Q7))
    qH)
   (qg (vB (qu XO (qr (xt (K:=K) rfl) (by rfl) N.len zz (qa_c (qv 0) qd)) (qr (xt (K:=K) rfl) (by rfl) N.len zz (qa_c (qv 1) qd)) (qD _))
    (qk (qG Q7))
    qH)
   (qk (qG (qr (Xp rfl) (by rfl) N.all b_all (qa_c (Q6 [true,true] ["k"] (zK rfl N.range (qa_c (qr (xt (K:=K) rfl) (by rfl) N.len zz (qa_c (qv 1) qd)) qd)) (fun _ _ _=>(vg (i:=2) ndAlike1 rfl (Or.inl rfl))) (fun _ _ _=>vL) (fun _ _ _=>(qw DAlike (hr.mono (by first|decide|exact Nat.le_refl _)) (qa_c (qY (KK (K:=K) rfl) (qv 0) (qv 2) (fun _ _=>rfl)) (qa_c (qY (KK (K:=K) rfl) (qv 1) (qv 2) (fun _ _=>rfl)) qd))))) qd))))))
   qH)
  (qg (vB (jO (Q5 (qu XO (qr (vK (K:=K) rfl) (by rfl) N.isinstance qB (qa_c (qv 0) (qa_c (vC (v:=.ty "bool") (by rfl) N.bool b_bool rfl) qd))) (qr (vK (K:=K) rfl) (by rfl) N.isinstance qB (qa_c (qv 1) (qa_c (vC (v:=.ty "bool") (by rfl) N.bool b_bool rfl) qd))) (qD _)) (jP (qu XO (qr (vK (K:=K) rfl) (by rfl) N.isinstance qB (qa_c (qv 0) (qa_c (vC (v:=.ty "int") (by rfl) N.int Zm rfl) qd))) (qr (vK (K:=K) rfl) (by rfl) N.isinstance qB (qa_c (qv 1) (qa_c (vC (v:=.ty "int") (by rfl) N.int Zm rfl) qd))) (qD _)))))
   (qk (qG Q7))
   qH)
  (qk (qG (ZV (vX v5 (qr (vK (K:=K) rfl) (by rfl) N.isinstance qB (qa_c (qv 0) (qa_c (vC (v:=.ty "str") (by rfl) N.str b_str rfl) qd))) (qr (vK (K:=K) rfl) (by rfl) N.isinstance qB (qa_c (qv 1) (qa_c (vC (v:=.ty "str") (by rfl) N.str b_str rfl) qd))) (qD _)) (ZU (vX v5 (qv 0) (qv 1) (qD _)))))))), ?_⟩
  walk_at "go"
  refine⟨by decide,fun p1 hp1=>?_⟩
  walk_at "go"
  have s1:Same H (upd H p1 (.tup [.ty "list", .ty "tuple"])):=(Same.refl H).upd hp1
  rcases hA with⟨rfl,hf⟩|⟨p,q,xs,ys,rfl,rfl,h,l1,l2,kk⟩
  ·obtain⟨t,ty,e1,b,i,st,e2,e3,e4⟩:=ty_flat (K:=K) (H:=upd H p1 (.tup [.ty "list", .ty "tuple"])) hf
   refine⟨x,p1, ["list", "tuple"],t,false,rfl,upd_same,ty,e1, ?_⟩
   walk_at "go"
   refine jl ty e2 ?_
   refine jl ty e2 ?_
   walk_at "go"
   refine ite2 (fun hh=>absurd hh (by simp)) (fun _=>?_)
   refine jl ty e3 ?_
   refine jl ty e3 ?_
   walk_at "go"
   refine ite2 (fun hh=>absurd hh (by simp)) (fun _=>?_)
   refine jl ty e4 ?_
   refine jl ty e4 ?_
   walk_at "go"
   have hq:=k _ s1
   cases x with
   |non=>exact K2 rfl (by simpa[eqV] using hq)
   |bl b=>exact K2 rfl (by simpa[eqV] using hq)
   |int b=>exact K2 rfl (by simpa[eqV] using hq)
   |str b=>exact K2 rfl (by simpa[eqV] using hq)
   |_=>cases hf
  ·obtain⟨t,bl,tys,e1,e2⟩:∃(t:String) (bl:Bool),(∀H',Same H H'->TyOf K H' (.ref p) (.type t)/\TyOf K H' (.ref q) (.type t)/\(SqL K H' p xs\/SqT K H' p xs)/\(SqL K H' q ys\/SqT K H' q ys))/\PySem.W.kitAny K (.type t) [.type "list", .type "tuple"]=some true/\PySem.W.kitOne K (.type t) (.type "list")=some bl:=by
    rcases h with⟨h1,h2⟩|⟨h1,h2⟩
    ·exact⟨"list", true,(fun H' s=>⟨TyOf.lst (s _ _ h1),TyOf.lst (s _ _ h2), .inl (SqL.of (s _ _ h1)), .inl (SqL.of (s _ _ h2))⟩),rfl,rfl⟩
    ·exact⟨"tuple", false,(fun H' s=>⟨TyOf.tup (s _ _ h1),TyOf.tup (s _ _ h2), .inr (SqT.of (s _ _ h1)), .inr (SqT.of (s _ _ h2))⟩),rfl,rfl⟩
   refine⟨_,p1, ["list", "tuple"],t,true,rfl,upd_same,(tys _ s1).2.1,e1, ?_⟩
   walk_at "go"
   refine⟨by decide,fun p2 hp2=>?_⟩
   walk_at "go"
   have s2:=s1.trans ((Same.refl _).upd (o:=.tup [.ty "list", .ty "tuple"]) hp2)
   refine⟨_,p2, ["list", "tuple"],t,true,rfl,upd_same,(tys _ s2).1,e1, ?_⟩
   walk_at "go"
   refine ite2 (fun hh=>absurd hh (by decide)) (fun _=>?_)
   refine jl (tys _ s2).1 e2 ?_
   refine jl (tys _ s2).2.1 e2 ?_
   walk_at "go"
   refine ite2 (fun hh=>absurd hh (by simp)) (fun _=>?_)
   refine⟨p,xs,rfl,(tys _ s2).2.2.1, ?_⟩
   refine⟨q,ys,rfl,(tys _ s2).2.2.2, ?_⟩
   walk_at "go"
   refine ite2 (fun hh=>absurd hh (by simp[l1])) (fun _=>?_)
   refine⟨q,ys,rfl,(tys _ s2).2.2.2, ?_⟩
   refine rg_at (by omega) (by omega) ?_
   intro acc hacc
   generalize upd (upd H p1 (.tup [.ty "list", .ty "tuple"])) p2 (.tup [.ty "list", .ty "tuple"])=Hc at s2 hacc ⊢
   refine X5 (fun i H3=>Same Hc H3/\H3 acc=some (.lst ((List.replicate i true).map V.bl))) ?_ ?_ ?_
   ·exact⟨(Same.refl Hc).upd hacc,upd_same⟩
   ·rintro i H3 hi ⟨s3,e3⟩
    walk_at "go"
    have hi1:i<ys.length:=by omega
    have hi2:i<xs.length:=by omega
    have g1:xs[i]?=some xs[i]:=List.getElem?_eq_getElem hi2
    have g2:ys[i]?=some ys[i]:=List.getElem?_eq_getElem hi1
    have s13:=s2.trans s3
    rw[Int.zero_add]
    refine⟨⟨by(repeat (first|exact ExtS.nl|refine ExtS.sm ?_|refine ExtS.no ?_)),trivial⟩,ixA_at (tys _ s13).2.2.1 (zT g1) (ixA_at (tys _ s13).2.2.2 (zT g2) ?_)⟩
    refine⟨_,_,rfl,(kk i _ _ g1 g2).same s13,fun H6 s6=>?_⟩
    refine⟨_,s6 _ _ e3, ?_,(s3.trans s6).upd hacc, ?_⟩
    ·rw[List.length_map,List.length_replicate]
     have:10000000<sizeLine:=by decide
     omega
    ·rw[upd_same]
     have:(V.bl true::List.map V.bl (List.replicate i true))=List.map V.bl (List.replicate i true)++[V.bl true]:=by
      rw[List.map_replicate, <-List.replicate_succ,List.replicate_succ']
     rw[this]
   ·rintro H3 ⟨s3,e3⟩
    refine⟨acc,List.replicate (Int.toNat ys.length) true,rfl,e3, ?_⟩
    have:(List.replicate (Int.toNat ys.length) true).all id=true:=by simp
    rw[this]
    exact k H3 (s2.trans s3)
theorem Kf {f:Addr} {fd:FuncData} (F:Fun K "_law_alike" "_law_alike" xN f fd):FnOk P w K mg base CX0 1 f fd ["found", "due"] (kN 0):=by
 refine F.okQ JB (fun vs H Q E h=>?_) (fun cdv A outer s H vs Q E hr h=>?_)
 ·obtain⟨_,_,_,h,_⟩:=h
  exact h.elim
 ·obtain⟨_,_,_,h,_⟩:=h
  exact h.elim
theorem Ke {f:Addr} {fd:FuncData} (F:Fun K "_law_alike" "_law_alike" xN f fd) (N:Nms mg) (hm:mg "_law_alike" = some (.ref f)) (hk:PySem.W.keepIn K (.ref f)=true) (hb:Binds K fd ["found", "due"] []):FnOk P w K mg base CX0 4 f fd ["found", "due"] (kN 3) :=
 Qa F N ⟨f,fd,hm,hk,hb,Qa F N ⟨f,fd,hm,hk,hb,Qa F N ⟨f,fd,hm,hk,hb,Kf F⟩⟩⟩
def depT:Nat->T->Prop
 |0,_=>False
 |n+1, .tup xs=>xs.length<=10000000/\∀x∈xs,depT n x
 |n+1, .lst xs=>xs.length<=10000000/\∀x∈xs,depT n x
 |_+1,_=>True
def K1 (n:Nat):List T->(T->Prop)->Prop:=fun ts Q=>∃t,ts=[t,t]/\depT n t/\Q (.bl true)
theorem al_of {A:Addr->Prop} {H:Hp}:∀{n:Nat} {t:T} {x y:V},depT n t->RepT A H x t->RepT A H y t->AL H n x y
 |0,_,_,_,h,_,_=>h.elim
 |n+1, .non,_,_,_, .non, .non=>.inl ⟨rfl,rfl⟩
 |n+1, .bl b,_,_,_, .bl _, .bl _=>.inl ⟨rfl,rfl⟩
 |n+1, .int b,_,_,_, .int _, .int _=>.inl ⟨rfl,rfl⟩
 |n+1, .str b,_,_,_, .str _, .str _=>.inl ⟨rfl,rfl⟩
 |n+1, .tup xs,x,y,h,r1,r2=>by
  obtain⟨p,vs,rfl,_,h1,q1⟩:=r1.tup_inv
  obtain⟨p2,vs2,rfl,_,h2,q2⟩:=r2.tup_inv
  refine .inr ⟨p,p2,vs,vs2,rfl,rfl, .inr ⟨h1,h2⟩,by rw[q1.len,q2.len],by rw[q1.len]; exact h.1,fun j a b ha hb=>?_⟩
  obtain⟨t,ht,rt⟩:=Paired.getL q1 ha
  obtain⟨t',ht',rt'⟩:=Paired.getL q2 hb
  rw[ht] at ht'; cases ht'
  exact al_of (h.2 t (List.mem_of_getElem? ht)) rt rt'
 |n+1, .lst xs,x,y,h,r1,r2=>by
  obtain⟨p,vs,rfl,_,h1,q1⟩:=r1.lst_inv
  obtain⟨p2,vs2,rfl,_,h2,q2⟩:=r2.lst_inv
  refine .inr ⟨p,p2,vs,vs2,rfl,rfl, .inl ⟨h1,h2⟩,by rw[q1.len,q2.len],by rw[q1.len]; exact h.1,fun j a b ha hb=>?_⟩
  obtain⟨t,ht,rt⟩:=Paired.getL q1 ha
  obtain⟨t',ht',rt'⟩:=Paired.getL q2 hb
  rw[ht] at ht'; cases ht'
  exact al_of (h.2 t (List.mem_of_getElem? ht)) rt rt'
theorem XS {f:Addr} {fd:FuncData} (F:Fun K "_law_alike" "_law_alike" xN f fd) (N:Nms mg) (hm:mg "_law_alike" = some (.ref f)) (hk:PySem.W.keepIn K (.ref f)=true) (hb:Binds K fd ["found", "due"] []):FnOk P w K mg base CX0 4 f fd ["found", "due"] (spP (K1 3)):=by
 refine(Ke F N hm hk hb).imp fun vs H Q E h=>?_
 obtain⟨A,ts,Qt,hd,r,⟨t,rfl,hdep,q⟩,k⟩:=h
 cases r with
 |cons r1 r =>
 cases r with
 |cons r2 r =>
 cases r
 exact⟨_,_,rfl,al_of hdep r1 r2,fun H' s=>k _ _ H' s (.bl true) q⟩
theorem vy {p:Prop} [Decidable p] {a b:Prop} (h:¬p) (q:b):if p then a else b:=by rw[if_neg h]; exact q
theorem qS {p:Prop} [Decidable p] {a b:Prop} (h:p) (q:a):if p then a else b:=by rw[if_pos h]; exact q
def figL (l:List Nat):List Nat:=if l.head?=some 45 then l.tail else l
def digs:List Nat:=[48,49,50,51,52,53,54,55,56,57]
def zq (l:List Nat) (m:Int):Prop:=figL l≠[]/\((figL l).length:Int)<=m/\(∀c∈figL l,c∈digs)/\¬((figL l).head?=some 48/\1<l.length)
theorem xp:(("0123456789" : Str)).cps.toList=digs:=by decide +kernel
theorem Qq:(("-" : Str)).cps.toList=[45]:=by decide +kernel
theorem kG:(("0" : Str)).cps.toList=[48]:=by decide +kernel
theorem qO {t:Str}:t.length=t.cps.toList.length:=by simp[Str.length]
theorem str_ext {a b:Str}:a=b↔a.cps.toList=b.cps.toList:=⟨fun h=>by rw[h],fun h=>Str.ext' (Array.toList_inj.mp h)⟩
theorem VO {t:Str}:Txt.startswith t "-" = decide (t.cps.toList.head?=some 45):=by
 unfold Txt.startswith
 rw[StrLaws.subAt_eq,qO (t:=t),qO (t := "-"),Qq]
 cases t.cps.toList with
 |nil=>rfl
 |cons c r =>
  by_cases h:c=45
  ·subst h; simp
  ·simp[h]
theorem kg {t:Str} (h:1<=t.cps.toList.length):(Txt.slice t (some 1) none).cps.toList=t.cps.toList.tail:=by
 have hl:=qO (t:=t)
 rw[PyProof.Rows.slice_from_eq (x:=t) (i:=1) (b:=t.length) (by decide) (by omega) rfl]
 show(t.cps.toList.drop 1).take _=_
 rw[List.drop_one,List.take_of_length_le]
 rw[List.length_tail]
 omega
theorem slice_one {t:Str}:(Txt.slice t none (some 1) = "-")=(t.cps.toList.head?=some 45):=by
 by_cases h:1<=t.cps.toList.length
 ·have e:=PyProof.Rows.slice_closes_to (x:=t) (j:=1) ⟨by decide,by exact_mod_cast h⟩
  rw[beq_iff_eq] at e
  rw[e,str_ext,Qq]
  show(((t.cps.toList.drop 0).take 1)=[45])=_
  cases t.cps.toList with
  |nil=>simp
  |cons c r=>simp
 ·have e:t.cps.toList=[]:=by
   cases q:t.cps.toList with
   |nil=>rfl
   |cons c r=>rw[q] at h; simp at h
  have z:=Txt.slice_le t none (some 1)
  rw[qO,qO,e] at z
  have z2:(Txt.slice t none (some 1)).cps.toList=[]:=List.length_eq_zero_iff.mp (by simpa using z)
  rw[str_ext,z2,e,Qq]
  simp
theorem Yv {l:List Nat} (h:∀c∈l,c∈digs):NumText.AllDigits l:=fun c hc=>by
 have:=h c hc
 simp[digs] at this
 omega
theorem xo {t:Str} {m:Int} (h:zq t.cps.toList m) (hl:t.length<=640):∃i,PySem.intText? t=some i:=by
 obtain⟨h1,_,h2,_⟩:=h
 by_cases hs:t.cps.toList.head?=some 45
 ·unfold figL at h1 h2
  rw[if_pos hs] at h1 h2
  cases e:t.cps.toList with
  |nil=>rw[e] at hs; cases hs
  |cons c r =>
   rw[e] at hs h1 h2
   cases hs
   exact⟨_,intText_neg e (Yv h2) h1 (by omega)⟩
 ·unfold figL at h1 h2
  rw[if_neg hs] at h1 h2
  exact⟨_,intText_digits (Yv h2) h1 (by omega)⟩
theorem js {t:Str} (h:(figL t.cps.toList).head?=some 48):(t = "0")↔¬1<t.cps.toList.length:=by
 rw[str_ext,kG]
 unfold figL at h
 cases e:t.cps.toList with
 |nil=>rw[e] at h; simp at h
 |cons c r =>
  rw[e] at h
  cases r with
  |nil =>
   by_cases hc:c=45
   ·subst hc; simp at h
   ·simp[hc] at h
    simp[h]
  |cons d r=>simp
theorem jt {c:Nat} (h:(⟨#[c]⟩:Str) = "0"):c=48:=by
 have:=str_ext.mp h
 rw[kG] at this
 simpa using this
theorem jF {c:Nat} (h:c=48):(⟨#[c]⟩:Str) = "0" := by
 subst h
 exact str_ext.mpr (by rw[kG])
abbrev vA:Stmt:=top 16
theorem Q1:FnScope ["text", "signs"] ["text", "signs"] (qc vA):=⟨rfl,rfl,rfl,by decide +kernel,rfl,by decide +kernel,by decide +kernel⟩
theorem Qe:(["text", "signs", "sign"]:List Str).Nodup:=by decide +kernel
local macro_rules | `(tactic| walk_at "vx") => `(tactic| simp only[jf,xI,kK,xJ,zA,uTry,ze,je,QL,QN,endX,uAsG,ji,zG,jN,zJ,vV,vj,zH,zI,vW,vd])
local macro_rules | `(tactic| walk_at "pk") => `(tactic| (walk_at "v"; repeat ((first|walk_at "vx" |refine vy (by decide) ?_|refine qS rfl ?_); walk_at "v")))
theorem all_is {l:List Nat} {s:List Nat}:(l.map fun c=>decide (c∈s)).all id=decide (∀c∈l,c∈s):=by
 rw[Bool.eq_iff_iff,decide_eq_true_iff,List.all_eq_true]
 simp
def xS:List T->(T->Prop)->Prop:=fun ts Q=>∃t s:Str,ts=[.str t, .str s]/\t.length<=1000/\Q (.bl (decide (∀c∈t.cps.toList,c∈s.cps.toList)))
theorem Vc {f:Addr} {fd:FuncData} (F:Fun K "consists_of" "consists_of" vA f fd) (N:Nms mg):FnOk P w K mg base CX0 1 f fd ["text", "signs"] (spP xS):=by
 refine F.zP Q1 (fun ts Qt h=>?_) (fun cdv A outer s H E hr=>?_)
 ·obtain⟨_,_,rfl,_⟩:=h
  rfl
 refine⟨_,(qk (qG (qr (Xp rfl) (by rfl) N.all b_all (qa_c (Q6 [false,true] ["sign"] (ZR (qv 0)) (fun _ _ _=>(vg (i:=2) Qe rfl (Or.inl rfl))) (fun _ _ _=>vL) (fun _ _ _=>(vX J8 (qv 2) (qv 1) (by with_unfolding_all rfl)))) qd)))),_,(qN (xG cbl_all (qa (zx (Xk (qb 0)) (vq 2) xz (qm jR (qb 2) (qb 1))) qf))),fun ts Qt h=>?_⟩
 obtain⟨t,s,rfl,hl,k⟩:=h
 walk_at "pk"
 have hz:t.cps.size<=sizeLine:=Nat.le_trans hl (by decide)
 refine vU hz (fun i acc M=>M=[]/\acc=((t.cps.toList.take i).map fun c=>T.bl (decide (c∈s.cps.toList)))) ⟨rfl,rfl⟩ (fun i c acc M2 hc hl2 hI=>?_) (fun acc M2 hI=>?_)
 ·obtain⟨rfl,rfl⟩:=hI
  walk_at "pk"
  obtain⟨hi,rfl⟩:=List.getElem?_eq_some_iff.mp hc
  rw[List.take_add_one,List.map_append,List.getElem?_eq_getElem hi]
  rfl
 ·obtain⟨rfl,rfl⟩:=hI
  walk_at "pk"
  rw[List.take_of_length_le (by simp)]
  refine⟨_,(t.cps.toList.map fun c=>decide (c∈s.cps.toList)),rfl,by rw[<-Yq,List.map_map]; rfl, ?_⟩
  rw[all_is]
  exact k
abbrev vP:Stmt:=top 17
theorem scReadWhole:FnScope ["text", "most", "figures"] ["text", "most"] (qc vP):=⟨rfl,rfl,rfl,by decide +kernel,rfl,by decide +kernel,by decide +kernel⟩
def nt (n:Int):Str:=Str.ofString (toString n)
theorem nt_cps (n:Int):(nt n).cps.toList=(if n<0 then[45] else[])++(Nat.toDigits 10 n.natAbs).map Char.toNat:=by
 cases n with
 |ofNat m =>
  rw[if_neg (by simp)]
  exact PySem.W.KIN.signs_num m
 |negSucc m =>
  rw[if_pos (Int.negSucc_lt_zero m)]
  unfold nt
  rw[signs_ofString]
  show("-" ++ Nat.repr (m+1)).toList.map Char.toNat=_
  rw[String.toList_append,List.map_append,Nat.toList_repr]
  rfl
theorem K6 (m:Nat):NumText.AllDigits ((Nat.toDigits 10 m).map Char.toNat):=fun c hc=>by
 obtain⟨ch,hch,e⟩:=List.mem_map.mp hc
 have r:=digit_range (Nat.isDigit_of_mem_toDigits (by decide) (by decide) hch)
 rw[<-e]
 exact r
theorem dig_ne (m:Nat):(Nat.toDigits 10 m).map Char.toNat≠[]:=fun e=>by
 have h:=PyProof.Rows.tDigits_len_ge 10 m
 rw[List.map_eq_nil_iff.mp e] at h
 exact absurd h (by decide)
theorem dig_head (m:Nat):((Nat.toDigits 10 m).map Char.toNat).head?=some 48->((Nat.toDigits 10 m).map Char.toNat).length<=1:=fun h=>by
 have e:=NumText.toDigits_all _ (K6 m)
 rw[PySem.W.KIN.val_back] at e
 cases q:(Nat.toDigits 10 m).map Char.toNat with
 |nil=>simp
 |cons c r =>
  rw[q] at h e
  cases h
  have hl:=congrArg List.length q
  rw[List.length_map] at hl
  rw[List.dropWhile_cons_of_pos (by decide)] at e
  rw[e] at hl
  revert hl
  have hd:=(List.dropWhile_sublist (l:=r) (· == 48)).length_le
  cases z:r.dropWhile (· == 48) with
  |nil=>intro hl; simp at hl ⊢; omega
  |cons a b=>rw[z] at hd; intro hl; simp at hl hd ⊢; omega
theorem nt_good {n:Int} (h:n.natAbs<10^60):zq (nt n).cps.toList 60/\(nt n).length<=61/\PySem.intText? (nt n)=some n:=by
 have hl:=PyProof.Rows.digits10_le (k:=60) (by decide) h
 have hd:=K6 n.natAbs
 have hne:=dig_ne n.natAbs
 have hh:=dig_head n.natAbs
 have hv:=PySem.W.KIN.val_back n.natAbs
 have e:=nt_cps n
 have hL:(nt n).length<=61:=by
  rw[qO,e,List.length_append,List.length_map]
  split<;>simp<;>omega
 have hm:∀c∈(Nat.toDigits 10 n.natAbs).map Char.toNat,c∈digs:=fun c hc=>by
  have:=hd c hc
  simp only[digs,List.mem_cons,List.not_mem_nil,or_false]
  omega
 have hl':((Nat.toDigits 10 n.natAbs).map Char.toNat).length<=60:=by rw[List.length_map]; exact hl
 generalize(Nat.toDigits 10 n.natAbs).map Char.toNat=ds at *
 by_cases hn:n<0
 ·rw[if_pos hn,List.singleton_append] at e
  have ef:figL (nt n).cps.toList=ds:=by rw[e]; rfl
  refine⟨⟨by rw[ef]; exact hne,by rw[ef]; omega,by rw[ef]; exact hm,fun z=>?_⟩,hL, ?_⟩
  ·rw[ef] at z
   have:=hh z.1
   cases ds with
   |nil=>exact hne rfl
   |cons c r =>
    cases r with
    |nil =>
     simp at z
     rw[z.1] at hv
     have:n.natAbs=0:=by rw[<-hv]; rfl
     omega
    |cons=>simp at this
  ·rw[intText_neg e hd hne (by omega),hv]
   congr 1
   omega
 ·rw[if_neg hn,List.nil_append] at e
  have h45:ds.head?≠some 45:=by
   cases ds with
   |nil=>simp
   |cons c r =>
    intro z
    cases z
    have:=hd 45 (by simp)
    omega
  have ef:figL (nt n).cps.toList=ds:=by rw[e]; unfold figL; rw[if_neg h45]
  refine⟨⟨by rw[ef]; exact hne,by rw[ef]; omega,by rw[ef]; exact hm,fun z=>?_⟩,hL, ?_⟩
  ·rw[ef,e] at z
   have:=hh z.1
   omega
  ·rw[intText_digits (by rw[e]; exact hd) (by rw[e]; exact hne) (by omega),e,hv]
   congr 1
   omega
theorem nt_free {n:Int} {c:Nat} (hc:c≠45/\(c<48\/57<c)):c∉(nt n).cps.toList:=PyProof.Rows.int_text_free' c hc n
theorem sp_is:(" " : Str)=⟨#[32]⟩:=by decide +kernel
theorem nl_is:("\n" : Str)=⟨#[10]⟩:=by decide +kernel
theorem Jw:(" " : Str).length=1:=by decide +kernel
theorem nl_len:("\n" : Str).length=1:=by decide +kernel
def txt1:T->Str
 |.int i=>nt i
 |.str z=>z
 |_ => ""
def PtOk (t:T):Prop:=(∃i,t=.int i/\i.natAbs<10^60)\/∃z,t=.str z/\z.length<=100
theorem log60 {i:Int} (h:i.natAbs<10^60):i.natAbs.log2<1920:=by
 by_cases z:i.natAbs=0
 ·rw[z]; decide
 ·exact(Nat.log2_lt z).mpr (Nat.lt_of_lt_of_le h (Nat.le_trans (m:=2^200) (by decide) (Nat.pow_le_pow_right (by decide) (by decide))))
theorem PtOk.len {t:T} (h:PtOk t):(txt1 t).length<=100:=by
 rcases h with⟨i,rfl,h⟩|⟨z,rfl,h⟩
 ·have:=(nt_good h).2.1
  show(nt i).length<=100
  omega
 ·exact h
theorem PtOk.str {t:T} (h:PtOk t) {Q:T->Prop} (q:Q (.str (txt1 t))):sStrX [t] Q:=by
 rcases h with⟨i,rfl,h⟩|⟨z,rfl,h⟩
 ·exact .inl ⟨i,rfl,log60 h,q⟩
 ·exact .inr ⟨z,rfl,q⟩
theorem sum_le {l:List Nat} {n:Nat} (h:∀x∈l,x<=n):l.sum<=l.length*n:=by
 induction l with
 |nil=>simp
 |cons a l ih =>
  have h1:=h a (by simp)
  have h2:=ih fun x hx=>h x (by simp[hx])
  simp only[List.sum_cons,List.length_cons,Nat.add_mul]
  omega
theorem V4 {l:List Str} {n:Nat} (h:∀x∈l,x.length<=n):(l.map (·.length)).sum<=l.length*n:=by
 have:=sum_le (l:=l.map (·.length)) (n:=n) fun x hx=>by obtain⟨y,hy,rfl⟩:=List.mem_map.mp hx; exact h y hy
 rwa [List.length_map] at this
def itTt (ts:List T):UIt:=⟨ts.length,fun _=>True,fun i z=>∃t,ts[i]?=some t/\z=.p t⟩
def ItTS (x:U) (M:MM) (Q:UIt->MM->Prop):Prop:=∃us,vi M x=some us/\Q ⟨us.length,fun M=>vi M x=some us,fun i z=>us[i]?=some z⟩ M
theorem jw {ua:UE} {ρ:UEnv} {M:MM} {Q:UIt->MM->Prop}:Jj ua ρ M Q=ua ρ M fun x M1=>ItTS x M1 Q:=rfl
theorem comp_tup {ts:List T} {M:MM} {ug:UG} {ut:UT} {ue:UE} {ρ0:UEnv} {R:UEnv->MM->UIt->MM->Prop} {Q:UK} (h:QC (itTt ts) ug ut ue ρ0 M Q):ItTS (.p (.tup ts)) M fun it M1=>QC it ug ut ue ρ0 M1 Q:=by
 obtain⟨hz,Iv,h0,hs,hd⟩:=h
 refine⟨ts.map U.p,rfl,by rw[List.length_map]; exact hz,Iv,h0,fun i acc M2 hi ha hI=>⟨rfl,fun u hu=>?_⟩,fun acc M2 hI=>⟨rfl, ?_⟩⟩
 ·rw[List.length_map] at hi
  obtain⟨t,ht,rfl⟩:=xE hu
  exact(hs i acc M2 hi ha hI).2 _ ⟨t,ht,rfl⟩
 ·rw[List.length_map] at hI
  exact(hd acc M2 hI).2
theorem Je {ts:List T} {M:MM} {ug:UG} {ut:UT} {ue:UE} {ρ0:UEnv} {Q:UK} (hz:ts.length<=sizeLine) (Iv:Nat->List T->MM->Prop) (h0:Iv 0 [] M) (hs:∀i t acc M2,ts[i]?=some t->acc.length<=i->Iv i acc M2->ug (.p t) ρ0 M2 fun ρ4 M4=>ut ρ4 M4 fun b M5=>if b=true then ue ρ4 M5 fun z M6=>∃t,z=.p t/\Iv (i+1) (acc++[t]) M6 else Iv (i+1) acc M5) (hd:∀acc M2,Iv ts.length acc M2->Q (.p (.lst acc)) M2):ItTS (.p (.tup ts)) M fun it M1=>QC it ug ut ue ρ0 M1 Q :=
 comp_tup (R:=fun _ _ _ _=>True) ⟨hz,Iv,h0,fun i acc M2 hi ha hI=>⟨trivial,fun u ⟨t,ht,e⟩=>by subst e; exact hs i t acc M2 ht ha hI⟩,fun acc M2 hI=>⟨trivial,hd acc M2 hI⟩⟩
local macro_rules | `(tactic| walk_at "vx") => `(tactic| simp only[zG,jN,zJ,vV,vj,zH,zI,vW,vd,Zv,Zy,uCmpT,uMe0,kT,xH,xK,uInD,Zw,uInK,jw])
local macro_rules | `(tactic| walk_at "pk") => `(tactic| (walk_at "v"; repeat ((first|walk_at "vx" |refine vy (by decide) ?_|refine qS rfl ?_); walk_at "v")))
theorem jI {α:Type} {l:List α} {i:Nat} {x:α} (h:l[i]?=some x):l.take (i+1)=l.take i++[x]:=by rw[List.take_add_one,h]; rfl
def vF:List Nat:=[97,98,99,100,101,102,103,104,105,106,107,108,109,110,111,112,113,114,115,116,117,118,119,120,121,122]
theorem Z9:(("abcdefghijklmnopqrstuvwxyz" : Str)).cps.toList=vF:=by decide +kernel
def KdOk (k:Str):Prop:=1<=k.length/\k.length<=8/\∀c∈k.cps.toList,c∈vF
abbrev Rw:=Str×List T
def rowT (r:Rw):T:=.tup (.str r.1::r.2)
def rowS (r:Rw):Str:=Txt.join " " (r.1::r.2.map txt1)
def scrS (rs:List Rw):Str:=Txt.join "\n" (rs.map rowS)
def lettersL:List (Str×Str):=[("number", "rn"),("sign", "rk"),("one", "ro"),("copy", "rr"),("plus", "rrr"),("less", "rrr"),("times", "rrr"),("over", "rrr"),("rest", "rrr"),("pair", "rrr"),("first", "rr"),("second", "rr"),("set_first", "rr"),("set_second", "rr"),("below", "rrt"),("same", "rrt"),("kind", "rwt"),("tell", "r"),("jump", "t"),("end", "")]
def formsT:List (Str×List Str):=[("number", ["r", "n"]),("sign", ["r", "k"]),("one", ["r", "three"]),("copy", ["r", "r"]),("plus", ["r", "r", "r"]),("less", ["r", "r", "r"]),("times", ["r", "r", "r"]),("over", ["r", "r", "r"]),("rest", ["r", "r", "r"]),("pair", ["r", "r", "r"]),("first", ["r", "r"]),("second", ["r", "r"]),("set_first", ["r", "r"]),("set_second", ["r", "r"]),("below", ["r", "r", "t"]),("same", ["r", "r", "t"]),("kind", ["r", "kind", "t"]),("tell", ["r"]),("jump", ["t"]),("end", [])]
def zQ (c:Nat):Str:=if c=111 then "three" else if c=119 then "kind" else if c=110 then "n" else if c=107 then "k" else if c=116 then "t" else "r"
def okC (c:Nat):Bool:=decide (c∈[114,110,107,111,119,116])
theorem zg {w l:Str} (h:lettersL.lookup w=some l):formsT.lookup w=some (l.cps.toList.map zQ)/\(∀c∈l.cps.toList,okC c=true)/\l.cps.size<=3/\32∉w.cps.toList/\10∉w.cps.toList/\w.length<=100:=by
 have key:∀x∈lettersL,formsT.lookup x.1=some (x.2.cps.toList.map zQ)/\(∀c∈x.2.cps.toList,okC c=true)/\x.2.cps.size<=3/\32∉x.1.cps.toList/\10∉x.1.cps.toList/\x.1.length<=100:=by decide +kernel
 have hm:(w,l)∈lettersL:=by
  generalize lettersL=L at h
  induction L with
  |nil=>cases h
  |cons a L ih =>
   obtain⟨a1,a2⟩:=a
   rw[List.lookup_cons] at h
   cases e:w==a1 with
   |true=>rw[e] at h; cases h; rw[eq_of_beq e]; exact .head _
   |false=>rw[e] at h; exact .tail _ (ih h)
 exact key _ hm
def PartOk (c:Nat) (t:T):Prop:=if c=111\/c=119 then ∃z,t=.str z/\KdOk z else ∃i:Int,t=.int i/\i.natAbs<10^60
theorem PartOk.pt {c:Nat} {t:T} (h:PartOk c t):PtOk t:=by
 unfold PartOk at h
 split at h
 ·obtain⟨z,rfl,hz⟩:=h; exact .inr ⟨z,rfl,by have:=hz.2.1; omega⟩
 ·obtain⟨i,rfl,hi⟩:=h; exact .inl ⟨i,rfl,hi⟩
theorem let_free {k:Str} (h:KdOk k) {c:Nat} (hc:c∉vF):c∉k.cps.toList:=fun z=>hc (h.2.2 c z)
theorem PartOk.free {c d:Nat} {t:T} (h:PartOk c t) (h1:d∉vF) (h2:d≠45/\(d<48\/57<d)):d∉(txt1 t).cps.toList:=by
 unfold PartOk at h
 split at h
 ·obtain⟨z,rfl,hz⟩:=h; exact let_free hz h1
 ·obtain⟨i,rfl,hi⟩:=h; exact nt_free h2
structure RowOk (r:Rw) (l:Str):Prop where
 k:lettersL.lookup r.1=some l
 n:r.2.length=l.cps.toList.length
 p:∀(i:Nat) c t,l.cps.toList[i]?=some c->r.2[i]?=some t->PartOk c t
def VF (rs:List Rw):Prop:=∀r∈rs,∃l,RowOk r l
theorem RowOk.mem {r:Rw} {l:Str} (h:RowOk r l):∀t∈r.2,∃c,PartOk c t:=fun t ht=>by
 obtain⟨i,hi⟩:=List.getElem?_of_mem ht
 have h1:=(List.getElem?_eq_some_iff.mp hi).1
 exact⟨_,h.p i _ t (List.getElem?_eq_getElem (by rw[<-h.n]; exact h1)) hi⟩
theorem RowOk.len {r:Rw} {l:Str} (h:RowOk r l):r.2.length<=3:=by
 have:=(zg h.k).2.2.1
 have h2:=h.n
 rw[Array.length_toList] at h2
 omega
theorem RowOk.small {r:Rw} {l:Str} (h:RowOk r l):∀z∈r.1::r.2.map txt1,z.length<=100:=fun z hz=>by
 rcases List.mem_cons.mp hz with rfl|hz
 ·exact(zg h.k).2.2.2.2.2
 ·obtain⟨t,ht,rfl⟩:=List.mem_map.mp hz
  obtain⟨c,hc⟩:=h.mem t ht
  exact hc.pt.len
theorem RowOk.sum {r:Rw} {l:Str} (h:RowOk r l):((r.1::r.2.map txt1).map (·.length)).sum+(r.1::r.2.map txt1).length*(" " : Str).length<=404:=by
 have:=V4 h.small
 have h2:=h.len
 rw[Jw]
 simp only[List.length_cons,List.length_map] at this ⊢
 omega
theorem RowOk.slen {r:Rw} {l:Str} (h:RowOk r l):(rowS r).length<=404:=Nat.le_trans Vi h.sum
theorem RowOk.sp {r:Rw} {l:Str} (h:RowOk r l):∀z∈r.1::r.2.map txt1,32∉z.cps.toList:=fun z hz=>by
 rcases List.mem_cons.mp hz with rfl|hz
 ·exact(zg h.k).2.2.2.1
 ·obtain⟨t,ht,rfl⟩:=List.mem_map.mp hz
  obtain⟨c,hc⟩:=h.mem t ht
  exact hc.free (by decide) ⟨by decide,by decide⟩
theorem RowOk.nl {r:Rw} {l:Str} (h:RowOk r l):10∉(rowS r).cps.toList:=KI (by decide +kernel) fun z hz=>by
 rcases List.mem_cons.mp hz with rfl|hz
 ·exact(zg h.k).2.2.2.2.1
 ·obtain⟨t,ht,rfl⟩:=List.mem_map.mp hz
  obtain⟨c,hc⟩:=h.mem t ht
  exact hc.free (by decide) ⟨by decide,by decide⟩
theorem scr_sum {rs:List Rw} (h:VF rs) (hl:rs.length<=100):((rs.map rowS).map (·.length)).sum+(rs.map rowS).length*("\n" : Str).length<=50000:=by
 have:=V4 (l:=rs.map rowS) (n:=404) fun z hz=>by obtain⟨r,hr,rfl⟩:=List.mem_map.mp hz; obtain⟨l,hl⟩:=h r hr; exact hl.slen
 rw[nl_len]
 rw[List.length_map] at this ⊢
 omega
local macro_rules | `(tactic| walk_at "vx") => `(tactic| simp only[jf,xI,kK,xJ,zA,uTry,ze,je,QL,QN,endX,uAsG,ji,zG,jN,zJ,vV,vj,zH,zI,vW,vd,xI,ze,uIfX,uOpX,uCbX,kb,XA,uX0,kc,xH,xK,uInD,uInK,kL])
local macro_rules | `(tactic| walk_at "pk") => `(tactic| (walk_at "v"; repeat ((first|walk_at "vx" |refine vy (by decide) ?_|refine qS rfl ?_); walk_at "v")))
theorem vG {t:Str} {m:Int} (g:zq t.cps.toList m) (hm:m<=600):t.length<=640:=by
 have h:=g.2.1
 have:t.cps.toList.length<=(figL t.cps.toList).length+1:=by
  unfold figL
  split
  ·rw[List.length_tail]; omega
  ·omega
 rw[qO]
 omega
def V9:List U->MM->UK->UX->Prop:=fun us M Q X=>∃(t:Str) (m:Int),us=[.p (.str t), .p (.int m)]/\(t.length<=1000000/\m<=600)/\(∀i,zq t.cps.toList m->PySem.intText? t=some i->Q (.p (.int i)) M)/\(¬zq t.cps.toList m->X "NoText" none M)
theorem J9 {CN:Addr} {f:Addr} {fd:FuncData} (F:Fun K "read_whole" "read_whole" vP f fd) (N:Nms mg) (GFig:GStr mg "FIGURES" "0123456789") (ONoText:ExcC K mg "NoText" CN) (DConsistsOf:Def P w K mg base "consists_of" 1 ["text", "signs"] (spP xS)):FnOk P w K mg base (CXe P w) 2 f fd ["text", "most"] (spX mg V9):=by
 refine F.zX scReadWhole (fun us M Qu Xu h=>?_) (fun cdv A outer s H E hr=>?_)
 ·obtain⟨_,_,rfl,_⟩:=h
  rfl
 refine⟨_,(jB (qx_of (qE (i:=2) scReadWhole.nd rfl (Or.inl rfl) (jE (jj (jo PySem.F.plainAttrs_str PySem.F.slot_str_startswith PySem.F.type_str_startswith Kn (qv 0) (qa_c qo qd))) (qK jL (qv 0) (qQ qe) qR) (qv 0))))
  (jB (qx_if (jO (Q5 (jk (kX op_le op_le qe (qr v8 (by rfl) N.len zz (qa_c (qv 2) qd)) (qv 1))) (jP (jk (jj (qw DConsistsOf (hr.mono (by first|decide|exact Nat.le_refl _)) (qa_c (qv 2) (qa_c (JS GFig rfl) qd))))))))
   (zu (jD rfl rfl ONoText (qa_c qo qd)))
   kU)
  (jB (qx_if (jO (ZN (qu v5 (qY KJ (qv 2) qe (fun _ _=>rfl)) qo (qD _)) (kW (qu XO (qv 0) qo (qD _)))))
   (zu (jD rfl rfl ONoText (qa_c qo qd)))
   kU)
  (zu (qx_of (qG (vk Vz (by rfl) N.int Zm (qa_c (qv 0) qd)))))))),_,(ql (qA (ce_if (ct_b (jr XW (qb 0) (qa (ce_c (.str _)) qf))) (j5 (qb 0) (va (ce_c (.int _))) vb) (qb 0)) (qp 2))
   (ql (vI (X4 (j4 (qy (Qy (qP fun _ _=>.bl _) (qP fun _ _=>.bl _) (ce_c (.int _)) (xG zy (qa (qb 2) qf)) (qb 1)))) (j4 (ct_b (vO (qa (qb 2) (qa (ce_c (.str _)) qf))))))
   (jH (qa (ce_c (.str _)) qf))
   qJ)
   (ql (vI (Yd (qy (qm vm (qm VT (qb 2) (ce_c (.int _))) (ce_c (.str _)))) (qy (qm opl_ne (qb 0) (ce_c (.str _)))))
   (jH (qa (ce_c (.str _)) qf))
   qJ)
   (qN (xG Xn (qa (qb 0) qf)))))),fun us M Qu Xu h=>?_⟩
 obtain⟨t,m,rfl,hl,k1,k2⟩:=h
 obtain⟨hL,hz⟩:640<=sizeLine/\t.length<=sizeLine:=⟨by decide,Nat.le_trans hl.1 (by decide)⟩
 walk_at "pk"
 have key:∀f:Str,f=(if Txt.startswith t "-" = true then Txt.slice t (some 1) none else t)->f.cps.toList=figL t.cps.toList/\f.length<=t.length:=fun f e=>by
  subst e
  rw[VO]
  unfold figL
  by_cases h:t.cps.toList.head?=some 45
  ·rw[if_pos h,decide_eq_true h,if_pos rfl]
   exact⟨kg (by cases q:t.cps.toList with
    |nil=>rw[q] at h; cases h
    |cons=>simp),Txt.slice_le ..⟩
  ·rw[if_neg h,decide_eq_false h,if_neg (by decide)]
   exact⟨rfl,Nat.le_refl _⟩
 by_cases hs:Txt.startswith t "-" = true
 ·refine qS hs ⟨hz, ?_⟩
  obtain⟨hf,hfl⟩:=key _ (if_pos hs).symm
  have hlen:=(qO).trans (congrArg List.length hf)
  have no:¬zq t.cps.toList m->1<=sizeLine/\∃nm p ρ,tagU "NoText" none [some (U.p (T.str t)),some (U.p (T.int m)),some (U.p (T.str (Txt.slice t (some 1) none)))]=tagU nm p ρ/\List.length ρ=3/\Xu nm p M:=fun g=>⟨by decide,_,_,_,rfl,rfl,k2 g⟩
  walk_at "pk"
  refine⟨Nat.le_trans hfl hz, ?_⟩
  refine ite2 (fun h1=>?_) (fun h1=>no fun g=>g.1 (List.length_eq_zero_iff.mp (by omega)))
  refine ite2 (fun h2=>no fun g=>?_) (fun h2=>?_)
  ·have g2:=g.2.1
   rw[<-hlen] at g2
   rw[decide_eq_true g2] at h2
   cases h2
  have h2':(((figL t.cps.toList).length:Nat):Int)<=m:=by
   rw[<-hlen]
   simpa using h2
  refine⟨_,_,rfl,(by have:=hl.2; omega), ?_⟩
  rw[hf,xp]
  walk_at "pk"
  by_cases h3:∀c∈figL t.cps.toList,c∈digs
  ·rw[decide_eq_true h3]
   walk_at "pk"
   cases e:figL t.cps.toList with
   |nil=>rw[e] at hlen; simp at hlen; omega
   |cons c r =>
   refine⟨_,_,c,rfl,rfl,Nat.le_trans hfl hz,by rw[hf,e]; exact at0, ?_⟩
   walk_at "pk"
   have yes:zq t.cps.toList m->sIntX [T.str t] fun t=>Qu (U.p t) M:=fun g=>by
    have h640:=vG g hl.2
    obtain⟨i,hi⟩:=xo g h640
    exact⟨t,i,rfl,h640,hi,k1 i g hi⟩
   have hd:(figL t.cps.toList).head?=some c:=by rw[e]; rfl
   have ne:figL t.cps.toList≠[]:=by rw[e]; simp
   refine ite2 (fun h4=>?_) (fun h4=>yes ⟨ne,h2',h3,fun z=>h4 (jF (Option.some.inj (hd.symm.trans z.1)))⟩)
   have c48:=jt h4
   subst c48
   refine ite2 (fun h5=>no fun g=>g.2.2.2 ⟨hd, ?_⟩) (fun h5=>yes ⟨ne,h2',h3,fun z=>?_⟩)
   ·by_cases h6:1<t.cps.toList.length
    ·exact h6
    ·rw[decide_eq_true ((js hd).mpr h6)] at h5
     cases h5
   ·exact(js hd).mp (by simpa using h5) z.2
  ·rw[decide_eq_false h3]
   walk_at "pk"
   exact no fun g=>h3 g.2.2.1
 ·refine vy hs ?_
  obtain⟨hf,hfl⟩:=key _ (if_neg hs).symm
  have hlen:=(qO).trans (congrArg List.length hf)
  have no:¬zq t.cps.toList m->1<=sizeLine/\∃nm p ρ,tagU "NoText" none [some (U.p (T.str t)),some (U.p (T.int m)),some (U.p (T.str t))]=tagU nm p ρ/\List.length ρ=3/\Xu nm p M:=fun g=>⟨by decide,_,_,_,rfl,rfl,k2 g⟩
  walk_at "pk"
  refine⟨Nat.le_trans hfl hz, ?_⟩
  refine ite2 (fun h1=>?_) (fun h1=>no fun g=>g.1 (List.length_eq_zero_iff.mp (by omega)))
  refine ite2 (fun h2=>no fun g=>?_) (fun h2=>?_)
  ·have g2:=g.2.1
   rw[<-hlen] at g2
   rw[decide_eq_true g2] at h2
   cases h2
  have h2':(((figL t.cps.toList).length:Nat):Int)<=m:=by
   rw[<-hlen]
   simpa using h2
  refine⟨_,_,rfl,(by have:=hl.2; omega), ?_⟩
  rw[show t.cps.toList=figL t.cps.toList from hf,xp]
  walk_at "pk"
  by_cases h3:∀c∈figL t.cps.toList,c∈digs
  ·rw[decide_eq_true h3]
   walk_at "pk"
   cases e:figL t.cps.toList with
   |nil=>rw[e] at hlen; simp at hlen; omega
   |cons c r =>
   refine⟨_,_,c,rfl,rfl,Nat.le_trans hfl hz,by rw[hf,e]; exact at0, ?_⟩
   walk_at "pk"
   have yes:zq t.cps.toList m->sIntX [T.str t] fun t=>Qu (U.p t) M:=fun g=>by
    have h640:=vG g hl.2
    obtain⟨i,hi⟩:=xo g h640
    exact⟨t,i,rfl,h640,hi,k1 i g hi⟩
   have hd:(figL t.cps.toList).head?=some c:=by rw[e]; rfl
   have ne:figL t.cps.toList≠[]:=by rw[e]; simp
   refine ite2 (fun h4=>?_) (fun h4=>yes ⟨ne,h2',h3,fun z=>h4 (jF (Option.some.inj (hd.symm.trans z.1)))⟩)
   have c48:=jt h4
   subst c48
   refine ite2 (fun h5=>no fun g=>g.2.2.2 ⟨hd, ?_⟩) (fun h5=>yes ⟨ne,h2',h3,fun z=>?_⟩)
   ·by_cases h6:1<t.cps.toList.length
    ·exact h6
    ·rw[decide_eq_true ((js hd).mpr h6)] at h5
     cases h5
   ·exact(js hd).mp (by simpa using h5) z.2
  ·rw[decide_eq_false h3]
   walk_at "pk"
   exact no fun g=>h3 g.2.2.1
abbrev vz:Stmt:=top 18
theorem Q0:FnScope ["text"] ["text"] (qc vz):=⟨rfl,rfl,rfl,by decide +kernel,rfl,by decide +kernel,by decide +kernel⟩
def gNumX:List U->MM->UK->UX->Prop:=fun us M Q X=>∃t:Str,us=[.p (.str t)]/\t.length<=1000000/\(∀i,zq t.cps.toList 60->PySem.intText? t=some i->Q (.p (.int i)) M)/\(¬zq t.cps.toList 60->X "NoText" none M)
theorem XR {f:Addr} {fd:FuncData} (F:Fun K "read_number" "read_number" vz f fd) (GMostF:GInt mg "MOST_FIGURES" 60) (DReadWhole:DefX P w K mg base "read_whole" 2 ["text", "most"] (spX mg V9)):FnOk P w K mg base (CXe P w) 3 f fd ["text"] (spX mg gNumX):=by
 refine F.zX Q0 (fun us M Qu Xu h=>?_) (fun cdv A outer s H E hr=>?_)
 ·obtain⟨_,rfl,_⟩:=h
  rfl
 refine⟨_,(zu (qx_ret (x8 DReadWhole (hr.mono (by first|decide|exact Nat.le_refl _)) (qa_c (qv 0) (qa_c (JT GMostF rfl) qd))))),_,(Qv (jd (qa (qb 0) (qa (ce_c (.int _)) qf)))),fun us M Qu Xu h=>?_⟩
 obtain⟨t,rfl,hl,k1,k2⟩:=h
 walk_at "pk"
 exact⟨t,60,rfl,⟨hl,by decide⟩,k1,fun g=>⟨_,_,_,rfl,rfl,k2 g⟩⟩
abbrev vh:Stmt:=top 19
theorem kP:FnScope ["text"] ["text"] (qc vh):=⟨rfl,rfl,rfl,by decide +kernel,rfl,by decide +kernel,by decide +kernel⟩
def gLetX:List U->MM->UK->UX->Prop:=fun us M Q X=>∃t:Str,us=[.p (.str t)]/\t.length<=1000000/\(KdOk t->Q (.p (.str t)) M)/\(¬KdOk t->X "NoText" none M)
theorem VZ {CN:Addr} {f:Addr} {fd:FuncData} (F:Fun K "read_letters" "read_letters" vh f fd) (N:Nms mg) (GLet:GStr mg "LETTERS" "abcdefghijklmnopqrstuvwxyz") (GMostL:GInt mg "MOST_LETTERS" 8) (ONoText:ExcC K mg "NoText" CN) (DConsistsOf:Def P w K mg base "consists_of" 1 ["text", "signs"] (spP xS)):FnOk P w K mg base (CXe P w) 2 f fd ["text"] (spX mg gLetX):=by
 refine F.zX kP (fun us M Qu Xu h=>?_) (fun cdv A outer s H E hr=>?_)
 ·obtain⟨_,rfl,_⟩:=h
  rfl
 refine⟨_,(jB (qx_if (jO (Q5 (jk (kX op_le op_le qe (qr v8 (by rfl) N.len zz (qa_c (qv 0) qd)) (JT GMostL rfl))) (jP (jk (jj (qw DConsistsOf (hr.mono (by first|decide|exact Nat.le_refl _)) (qa_c (qv 0) (qa_c (JS GLet rfl) qd))))))))
   (zu (jD rfl rfl ONoText (qa_c qo qd)))
   kU)
  (zu (qx_of (qG (qv 0))))),_,(ql (vI (X4 (j4 (qy (Qy (qP fun _ _=>.bl _) (qP fun _ _=>.bl _) (ce_c (.int _)) (xG zy (qa (qb 0) qf)) (ce_c (.int _))))) (j4 (ct_b (vO (qa (qb 0) (qa (ce_c (.str _)) qf))))))
   (jH (qa (ce_c (.str _)) qf))
   qJ)
   (qN (qb 0))),fun us M Qu Xu h=>?_⟩
 obtain⟨t,rfl,hl,k1,k2⟩:=h
 have no:¬KdOk t->1<=sizeLine/\∃nm p ρ,tagU "NoText" none [some (U.p (T.str t))]=tagU nm p ρ/\List.length ρ=1/\Xu nm p M:=fun g=>⟨by decide,_,_,_,rfl,rfl,k2 g⟩
 walk_at "pk"
 refine⟨Nat.le_trans hl (by decide),ite2 (fun h1=>ite2 (fun h2=>no fun g=>?_) fun h2=>?_) fun h1=>no fun g=>h1 (by have:=g.1; omega)⟩
 ·have:=g.2.1
  rw[decide_eq_true (by omega)] at h2
  cases h2
 have h2':(t.length:Int)<=8:=by simpa using h2
 refine⟨t,_,rfl,by omega, ?_⟩
 rw[Z9]
 walk_at "pk"
 by_cases h3:∀c∈t.cps.toList,c∈vF
 ·rw[decide_eq_true h3]
  walk_at "pk"
  exact k1 ⟨by omega,by omega,h3⟩
 ·rw[decide_eq_false h3]
  walk_at "pk"
  exact no fun g=>h3 g.2.2
theorem okC_is {c:Nat} (h:okC c=true):c=111\/c=119\/c=110\/c=107\/c=116\/c=114:=by
 have:c=114\/c=110\/c=107\/c=111\/c=119\/c=116:=by simpa[okC] using h
 omega
open Classical in
noncomputable def vN (c:Nat) (x:Str):Option T:=if c=111\/c=119 then(if KdOk x then some (.str x) else none) else(if zq x.cps.toList 60 then(PySem.intText? x).map T.int else none)
structure Tup2 (K:PySem.W.Frag) (mg:Str->Option Value) (nm:Str) (p:Addr) (x y:Str):Prop where
 mg:mg nm=some (.ref p)
 ex:∃(t u:Tok) (n:Nat) (sl:Array (Option Value)),K.lookup p=some ⟨.type "tuple", none, .seq #[.str x t, .str y u] n,sl⟩
theorem Tup2.kt {mg:Str->Option Value} {nm:Str} {p:Addr} {x y:Str} (T2:Tup2 K mg nm p x y):KTu K p [.str x, .str y]:=fun H=>by
 obtain⟨t,u,n,sl,e⟩:=T2.ex
 exact .inr ⟨_,_,n,e,rfl,rfl,by show 2<=sizeLine; decide, .cons ⟨t,rfl⟩ (.cons ⟨u,rfl⟩ .nil)⟩
theorem inV_strs {z:Str} {l:List Str}:inV (.str z) (l.map V.str)=decide (z∈l):=by
 unfold inV
 rw[List.any_map]
 induction l with
 |nil=>rfl
 |cons a l ih =>
  rw[List.any_cons,ih]
  show(decide (a=z)||decide (z∈l))=_
  by_cases h:a=z
  ·simp[h]
  ·simp[h,Ne.symm h]
abbrev zk:Stmt:=top 20
theorem XF:FnScope ["form", "text"] ["form", "text"] (qc zk):=⟨rfl,rfl,rfl,by decide +kernel,rfl,by decide +kernel,by decide +kernel⟩
def K0:List U->MM->UK->UX->Prop:=fun us M Q X=>∃(c:Nat) (x:Str),us=[.p (.str (zQ c)), .p (.str x)]/\okC c=true/\x.length<=1000000/\(∀p,vN c x=some p->Q (.p p) M)/\(vN c x=none->X "NoText" none M)
theorem ok_partX {tp:Addr} {f:Addr} {fd:FuncData} (F:Fun K "read_part" "read_part" zk f fd) (T2:Tup2 K mg "TEXT_PARTS" tp "three" "kind") (DReadLetters:DefX P w K mg base "read_letters" 2 ["text"] (spX mg gLetX)) (DReadNumber:DefX P w K mg base "read_number" 3 ["text"] (spX mg gNumX)):FnOk P w K mg base (CXe P w) 4 f fd ["form", "text"] (spX mg K0):=by
 refine F.zX XF (fun us M Qu Xu h=>?_) (fun cdv A outer s H E hr=>?_)
 ·obtain⟨_,_,rfl,_⟩:=h
  rfl
 refine⟨_,(zu (qx_ret (JP (qu (op_inK (K:=K) rfl) (qv 0) (zL (v:=.ref tp) rfl T2.mg rfl) (by with_unfolding_all rfl)) (x8 DReadLetters (hr.mono (by first|decide|exact Nat.le_refl _)) (qa_c (qv 1) qd)) (x8 DReadNumber (hr.mono (by first|decide|exact Nat.le_refl _)) (qa_c (qv 1) qd))))),_,(Qv (cx_if (qy (ce_inK T2.kt rfl (qb 0))) (jd (qa (qb 1) qf)) (jd (qa (qb 1) qf)))),fun us M Qu Xu h=>?_⟩
 obtain⟨c,x,rfl,oc,hl,k1,k2⟩:=h
 have vs2:([V.str "three", V.str "kind"]:List V)=(["three", "kind"]:List Str).map V.str:=rfl
 have hin:inV (.str (zQ c)) [V.str "three", V.str "kind"]=decide (c=111\/c=119):=by
  rw[vs2,inV_strs]
  rcases okC_is oc with rfl|rfl|rfl|rfl|rfl|rfl<;>decide +kernel
 walk_at "pk"
 refine ite2 (fun h=>?_) (fun h=>?_)
 ·have hc:c=111\/c=119:=by rw[hin] at h; exact of_decide_eq_true h
  refine⟨x,rfl,hl,fun g=>k1 _ ?_,fun g=>⟨_,_,_,rfl,rfl,k2 ?_⟩⟩
  ·unfold vN; rw[if_pos hc,if_pos g]
  ·unfold vN; rw[if_pos hc,if_neg g]
 ·have hc:¬(c=111\/c=119):=fun z=>h (by rw[hin]; exact decide_eq_true z)
  refine⟨x,rfl,hl,fun i g hi=>k1 _ ?_,fun g=>⟨_,_,_,rfl,rfl,k2 ?_⟩⟩
  ·unfold vN; rw[if_neg hc,if_pos g,hi]; rfl
  ·unfold vN; rw[if_neg hc,if_neg g]
local macro_rules | `(tactic| walk_at "vx") => `(tactic| simp only[jf,xI,kK,xJ,zA,uTry,ze,je,QL,QN,endX,uAsG,ji,zG,jN,zJ,vV,vj,zH,zI,vW,vd,xI,ze,uIfX,uOpX,uCbX,kb,XA,uX0,kc,xH,xK,uInD,uInK,kL])
local macro_rules | `(tactic| walk_at "pk") => `(tactic| (walk_at "v"; repeat ((first|walk_at "vx" |refine vy (by decide) ?_|refine qS rfl ?_); walk_at "v")))
theorem forms_eq:formsT=lettersL.map fun x=>(x.1,x.2.cps.toList.map zQ):=by decide +kernel
theorem Z6 {α β:Type} {f:α->β} {w:Str}:∀{L:List (Str×α)},(L.map fun x=>(x.1,f x.2)).lookup w=(L.lookup w).map f
 | []=>rfl
 | (a,b)::L=>by
  rw[List.map_cons,List.lookup_cons,List.lookup_cons]
  cases w==a with
  |true=>rfl
  |false=>exact Z6
theorem ja {w:Str}:formsT.lookup w=(lettersL.lookup w).map fun l=>l.cps.toList.map zQ:=by rw[forms_eq]; exact Z6 (f:=fun l:Str=>l.cps.toList.map zQ)
theorem Z7 {α:Type} {w:Str}:∀{L:List (Str×α)},(L.map (·.1)).contains w=(L.lookup w).isSome
 | []=>rfl
 | (a,b)::L=>by
  rw[List.map_cons,List.contains_cons,List.lookup_cons]
  cases w==a with
  |true=>rfl
  |false=>rw[Bool.false_or]; exact Z7
theorem Kx {w l:Str} (h:lettersL.lookup w=some l):(∀c∈l.cps.toList,okC c=true)/\l.cps.toList.length<=3:=by
 have key:∀x∈lettersL,(∀c∈x.2.cps.toList,okC c=true)/\x.2.cps.toList.length<=3:=by decide +kernel
 have hm:(w,l)∈lettersL:=by
  generalize lettersL=L at h
  induction L with
  |nil=>cases h
  |cons a L ih =>
   obtain⟨a1,a2⟩:=a
   rw[List.lookup_cons] at h
   cases e:w==a1 with
   |true=>rw[e] at h; cases h; rw[eq_of_beq e]; exact .head _
   |false=>rw[e] at h; exact .tail _ (ih h)
 exact key _ hm
def hasW (z:Str) (zs:List Str):Bool:=match lettersL.lookup z with|none=>false|some l=>decide (zs.length=l.cps.toList.length)
noncomputable def qT:List Nat->List Str->Option (List T)
 |c::cs,x::xs=>match vN c x with|none=>none|some p=>(qT cs xs).map (p :: ·)
 |_,_=>some []
theorem jQ {i c:Nat} {x:Str}:∀{i:Nat} {cs:List Nat} {xs:List Str},cs[i]?=some c->xs[i]?=some x->vN c x=none->qT cs xs=none
 |_, [],_,h,_,_=>by simp at h
 |_,_::_, [],_,h,_=>by simp at h
 |0,c'::cs,x'::xs,h1,h2,h=>by
  have e1:c'=c:=by simpa using h1
  have e2:x'=x:=by simpa using h2
  subst e1 e2
  unfold qT
  rw[h]
 |i+1,c'::cs,x'::xs,h1,h2,h=>by
  have ih:=jQ (i:=i) (cs:=cs) (xs:=xs) (by simpa using h1) (by simpa using h2) h
  unfold qT
  rw[ih]
  cases vN c' x'<;>rfl
theorem xi:∀{cs:List Nat} {xs:List Str} {acc:List T},qT cs xs=some acc->acc.length<=cs.length
 | [],_,acc,h=>by
  have:acc=[]:=by simpa[qT] using h.symm
  simp[this]
 |_::_, [],acc,h=>by
  have:acc=[]:=by simpa[qT] using h.symm
  simp[this]
 |c::cs,x::xs,acc,h=>by
  unfold qT at h
  cases e:vN c x with
  |none=>rw[e] at h; cases h
  |some q =>
   rw[e] at h
   dsimp only at h
   cases e2:qT cs xs with
   |none=>rw[e2] at h; cases h
   |some a =>
    rw[e2] at h
    cases h
    have:=xi e2
    simp only[List.length_cons]
    omega
theorem xj {c:Nat} {x:Str} {p:T} (h:vN c x=some p):∀{i:Nat} {cs:List Nat} {xs:List Str} {acc:List T},cs[i]?=some c->xs[i]?=some x->qT (cs.take i) (xs.take i)=some acc->qT (cs.take (i+1)) (xs.take (i+1))=some (acc++[p])
 |_, [],_,_,h1,_,_=>by simp at h1
 |_,_::_, [],_,_,h1,_=>by simp at h1
 |0,c'::cs,x'::xs,acc,h1,h2,h3=>by
  have e1:c'=c:=by simpa using h1
  have e2:x'=x:=by simpa using h2
  subst e1 e2
  have:acc=[]:=by simpa[qT] using h3.symm
  subst this
  simp[qT,h]
 |i+1,c'::cs,x'::xs,acc,h1,h2,h3=>by
  rw[List.take_succ_cons,List.take_succ_cons] at h3 ⊢
  unfold qT at h3 ⊢
  cases e:vN c' x' with
  |none=>rw[e] at h3; cases h3
  |some q =>
   rw[e] at h3
   dsimp only at h3 ⊢
   cases e2:qT (cs.take i) (xs.take i) with
   |none=>rw[e2] at h3; cases h3
   |some a =>
    rw[e2] at h3
    have ih:=xj h (i:=i) (cs:=cs) (xs:=xs) (acc:=a) (by simpa using h1) (by simpa using h2) e2
    rw[ih]
    cases h3
    rfl
noncomputable def rowR (t:Str):Option Rw:=match Txt.split t ⟨#[32]⟩ with | []=>none|z::zs=>match lettersL.lookup z with|none=>none|some l=>if zs.length=l.cps.toList.length then(qT l.cps.toList zs).map fun ps=>(z,ps) else none
theorem cut1 {x:T} {xs:List T}:cutT (x::xs) (some 1) none=xs:=by
 have e1:HT.sIx (x::xs).length 0 (some 1)=1:=by
  unfold HT.sIx
  simp
 have e2:HT.sIx (x::xs).length (x::xs).length none=(x::xs).length:=rfl
 unfold cutT
 rw[e1,e2]
 simp
theorem cutH {x:T} {xs:List T}:cutT (x::xs) none (some 1)=[x]:=by
 have e1:HT.sIx (x::xs).length (x::xs).length (some 1)=1:=by
  unfold HT.sIx
  simp
 have e2:HT.sIx (x::xs).length 0 none=0:=rfl
 unfold cutT
 rw[e1,e2]
 rfl
abbrev zl:Stmt:=top 15
theorem XG:FnScope ["row"] ["row"] (qc zl):=⟨rfl,rfl,rfl,by decide +kernel,rfl,by decide +kernel,by decide +kernel⟩
def gHasW:List T->(T->Prop)->Prop:=fun ts Q=>∃(z:Str) (zs:List Str),ts=[.lst ((z::zs).map T.str)]/\Q (.bl (hasW z zs))
theorem ok_hasW {fo:Addr} {rows:List (Str×Addr×List Str)} {f:Addr} {fd:FuncData} (F:Fun K "has_parts" "has_parts" zl f fd) (N:Nms mg) (DForms:KDt K w mg "FORMS" fo rows) (nsF:(fo==sysModules)=false) (eF:kdT rows=formsT):FnOk P w K mg base CX0 1 f fd ["row"] (spP gHasW):=by
 refine F.zP XG (fun ts Qt h=>?_) (fun cdv A outer s H E hr=>?_)
 ·obtain⟨_,_,rfl,_⟩:=h
  rfl
 refine⟨_,(qk (qG (ZV (vX (op_inD DForms.d nsF) (qY (qt (K:=K) rfl) (qv 0) qe (fun _ _=>rfl)) (zL (v:=.ref fo) rfl DForms.d.g rfl) (by with_unfolding_all rfl)) (ZU (vX v5 (qr v9 (by rfl) N.len zz (qa_c (qv 0) qd)) (qx vn (qr (xt (K:=K) rfl) (by rfl) N.len zz (qa_c (qe_kd DForms.d rfl (qY (qt (K:=K) rfl) (qv 0) qe (fun _ _=>rfl)) (fun _ _=>rfl)) qd)) qe) (qD _)))))),_,(qN (Zk (ce_inD (vJ (qb 0) (ce_c (.int _)))) (qm vm (kC (qa (qb 0) qf)) (qm (qP fun _ _=>.int _) (ce_lenKD DForms (vJ (qb 0) (ce_c (.int _)))) (ce_c (.int _)))))),fun ts Qt h=>?_⟩
 obtain⟨z,zs,rfl,q⟩:=h
 have hks:(rows.map fun r=>(r.1,V.ref r.2.1)).map (·.1)=formsT.map (·.1):=by rw[<-eF,List.map_map,List.map_map]; rfl
 rw[hks,eF]
 unfold hasW at q
 walk_at "pk"
 refine⟨z,rfl, ?_⟩
 rw[Z7,ja]
 cases e:lettersL.lookup z with
 |none =>
  rw[e] at q
  exact q
 |some l =>
  rw[e] at q
  refine qS rfl ?_
  walk_at "pk"
  refine⟨z,_,rfl,by rw[ja,e]; rfl, ?_⟩
  rw[show decide ((((zs.map T.str).length+1:Nat):Int)=((l.cps.toList.map zQ).length:Int)+1)=decide (zs.length=l.cps.toList.length) from decide_eq_decide.mpr (by simp; omega)]
  exact q
theorem jv {x:Str} {c:Nat}:Txt.split x ⟨#[c]⟩≠[]:=fun e=>by
 by_cases h:x.length<1
 ·unfold Txt.split at e
  rw[if_pos (by simp; exact .inl h)] at e
  cases e
 ·have hj:=StrLaws.join_split x ⟨#[c]⟩
  rw[e] at hj
  have h0:(Txt.join ⟨#[c]⟩ ([]:List Str)).length=0:=by rw[show Txt.join ⟨#[c]⟩ ([]:List Str)=Builtin.Str.glued ⟨#[c]⟩ [] from rfl,StrLaws.glued_eq_join]; rfl
  rw[<-hj] at h
  have h0':(Str.join ⟨#[c]⟩ ([]:List Str)).length=0:=rfl
  first|exact h (by rw[h0]; decide)|exact h (by rw[h0']; decide)
theorem mem_sum {l:List Nat} {n:Nat} (h:n∈l):n<=l.sum:=by
 induction l with
 |nil=>cases h
 |cons a l ih =>
  rw[List.sum_cons]
  rcases List.mem_cons.mp h with rfl|h
  ·omega
  ·have:=ih h; omega
theorem zt {x z:Str} {c:Nat} (h:z∈Txt.split x ⟨#[c]⟩):z.length<=x.length:=by
 have hw:=PyProof.Rows.split_weight x ⟨#[c]⟩ (Nat.le_refl 1)
 have h1:=mem_sum (List.mem_map.mpr ⟨z,h,rfl⟩:z.length∈(Txt.split x ⟨#[c]⟩).map (·.length))
 have h2:=List.length_pos_of_mem h
 omega
theorem zE {x:Str} {c:Nat}:(Txt.split x ⟨#[c]⟩).length<=x.length+1:=by
 have hw:=PyProof.Rows.split_weight x ⟨#[c]⟩ (Nat.le_refl 1)
 omega
abbrev xa:Stmt:=top 21
theorem scReadRow:FnScope ["text", "parts"] ["text"] (qc xa):=⟨rfl,rfl,rfl,by decide +kernel,rfl,by decide +kernel,by decide +kernel⟩
theorem XT:(["text", "parts", "form", "part"]:List Str).Nodup:=by decide +kernel
def gRowX:List U->MM->UK->UX->Prop:=fun us M Q X=>∃t:Str,us=[.p (.str t)]/\t.length<=900000/\(∀r,rowR t=some r->Q (.p (rowT r)) M)/\(rowR t=none->X "NoText" none M)
theorem ok_rowX {CN:Addr} {fo:Addr} {rows:List (Str×Addr×List Str)} {f:Addr} {fd:FuncData} (F:Fun K "read_row" "read_row" xa f fd) (N:Nms mg) (DForms:KDt K w mg "FORMS" fo rows) (eF:kdT rows=formsT) (ONoText:ExcC K mg "NoText" CN) (DHasParts:Def P w K mg base "has_parts" 1 ["row"] (spP gHasW)) (DReadPart:DefX P w K mg base "read_part" 4 ["form", "text"] (spX mg K0)):FnOk P w K mg base (CXe P w) 5 f fd ["text"] (spX mg gRowX):=by
 refine F.zXh scReadRow (fun us M Qu Xu h=>?_) (fun cdv A outer s H E hr=>?_)
 ·obtain⟨_,rfl,_⟩:=h
  rfl
 refine⟨_,(Q4 (qxh_of (qx_of (qE (i:=1) scReadRow.nd rfl (Or.inl rfl) (jo PySem.F.plainAttrs_str PySem.F.slot_str_split PySem.F.type_str_split xk (qv 0) (qa_c qo qd)))))
  (Q4 (qxh_of (qx_if (jk (jj (qw DHasParts (hr.mono (by first|decide|exact Nat.le_refl _)) (qa_c (qv 1) qd))))
   (zu (jD rfl rfl ONoText (qa_c qo qd)))
   kU))
  (ZM (JO (XM xU (by rfl) N.tuple Qz (qxa_c (qxc_op zM (qxc_calm (qK (ve (K:=K) rfl) (qv 1) qR (qQ qe))) (qxc_lc [false,false] ["form", "part"] (qi_zip (b1:=false) (b2:=true) (K:=K) rfl rfl N.zip (qa_c (qe_kd DForms.d rfl (qY (qt (K:=K) rfl) (qv 1) qe (fun _ _=>rfl)) (fun _ _=>rfl)) (qa_c (qK (ve (K:=K) rfl) (qv 1) (qQ qe) qR) qd))) (fun _ _ _=>(qg_t2K (K:=K) (i:=2) (j:=3) rfl XT rfl rfl rfl (Or.inl rfl) (Or.inl rfl) (Or.inr rfl) (Or.inr rfl))) (fun _ _ _=>vL) (fun _ _ _ _=>(x8 DReadPart (hr.mono (by first|decide|exact Nat.le_refl _)) (qa_c (qv 2) (qa_c (qv 3) qd)))))) qxa_nil)))))),_,(ql (qA (jr zN (qb 0) (qa (ce_c (.str _)) qf)) (qp 1))
   (ql (vI (j4 (ct_b (vO (qa (qb 1) qf))))
   (jH (qa (ce_c (.str _)) qf))
   qJ)
   (Qv (cx_cb Vv (cxa_cons (cx_op v3 (cx_0 (j6 (qb 1) vb (va (ce_c (.int _))))) (Yc (ci_zipKD DForms (vJ (qb 1) (ce_c (.int _))) (j6 (qb 1) (va (ce_c (.int _))) vb)) (Yi 2 3) xz (jd (qa (qb 2) (qa (qb 3) qf))))) cxa_nil))))),fun us M Qu Xu h=>?_⟩
 obtain⟨t,rfl,hl,k1,k2⟩:=h
 rw[eF]
 have hne:Txt.split t ⟨#[32]⟩≠[]:=jv
 have hsm:∀x∈Txt.split t ⟨#[32]⟩,x.length<=1000000:=fun x hx=>Nat.le_trans (zt hx) (by omega)
 have hfw:=zE (x:=t) (c:=32)
 unfold rowR at k1 k2
 walk_at "pk"
 cases ez:Txt.split t ⟨#[32]⟩ with
 |nil=>exact absurd ez hne
 |cons z zs =>
 rw[ez] at k1 k2 hsm hfw
 refine⟨32,z::zs,by rw[sp_is],ez,Nat.le_trans (m:=1000000) (by omega) (by decide), ?_⟩
 dsimp only at k1 k2
 walk_at "pk"
 refine⟨z,zs,rfl, ?_⟩
 walk_at "pk"
 unfold hasW
 cases e:lettersL.lookup z with
 |none =>
  rw[e] at k1 k2
  exact qS rfl ⟨by decide,_,_,_,rfl,rfl,k2 rfl⟩
 |some l =>
  rw[e] at k1 k2
  dsimp only at k1 k2 ⊢
  by_cases hn:zs.length=l.cps.toList.length
  rotate_left
  ·rw[if_neg hn] at k1 k2
   exact qS (by rw[decide_eq_false hn]; rfl) ⟨by decide,_,_,_,rfl,rfl,k2 rfl⟩
  rw[if_pos hn] at k1 k2
  refine vy (by rw[decide_eq_true hn]; decide) ?_
  walk_at "pk"
  refine⟨z,_,rfl,by rw[ja,e]; rfl, ?_⟩
  rw[cut1,cutH]
  refine⟨zs.map T.str,rfl, ?_⟩
  have hc:=Kx e
  have hlen:min (l.cps.toList.map zQ).length (zs.map T.str).length=zs.length:=by simp only[List.length_map]; omega
  refine⟨by show min _ _<=_; rw[hlen]; exact Nat.le_of_lt (qC (by omega)),fun i acc M'=>M'=M/\qT (l.cps.toList.take i) (zs.take i)=some acc,⟨rfl,rfl⟩, ?_, ?_⟩
  ·rintro i acc M' hi _ ⟨rfl,hp⟩
   refine⟨rfl, ?_⟩
   rintro u ⟨s',t',h1,h2,rfl⟩
   obtain⟨c,hc1,rfl⟩:=xE h1
   obtain⟨x,hx1,rfl⟩:=xE h2
   walk_at "pk"
   refine⟨c,x,rfl,hc.1 c (List.mem_of_getElem? hc1),hsm x (List.mem_cons_of_mem _ (List.mem_of_getElem? hx1)),fun p hpr=>?_,fun hpr=>⟨_,_,_,rfl,rfl,k2 ?_⟩⟩
   ·exact⟨p,rfl,rfl,xj hpr hc1 hx1 hp⟩
   ·rw[jQ (i:=i) hc1 hx1 hpr]; rfl
  ·rintro acc M' ⟨rfl,hp⟩
   refine⟨rfl, ?_⟩
   have hp:qT (l.cps.toList.take (min (l.cps.toList.map zQ).length (zs.map T.str).length)) (zs.take (min (l.cps.toList.map zQ).length (zs.map T.str).length))=some acc:=hp
   rw[hlen,List.take_length,List.take_of_length_le (by omega)] at hp
   walk_at "pk"
   have hal:=xi hp
   exact⟨Nat.le_of_lt (qC (by omega)),_,rfl,k1 (z,acc) (by rw[hp]; rfl)⟩
abbrev XH:Stmt:=top 22
theorem scRead:FnScope ["text"] ["text"] (qc XH):=⟨rfl,rfl,rfl,by decide +kernel,rfl,by decide +kernel,by decide +kernel⟩
theorem ndRead1:(["text", "row"]:List Str).Nodup:=by decide +kernel
noncomputable def vH:List Str->Option (List Rw)
 | []=>some []
 |t::ts=>match rowR t with|none=>none|some r=>(vH ts).map (r :: ·)
theorem ZJ {t:Str} (h:rowR t=none):∀{i:Nat} {ts:List Str},ts[i]?=some t->vH ts=none
 |_, [],h1=>by simp at h1
 |0,t'::ts,h1=>by
  have e:t'=t:=by simpa using h1
  subst e
  unfold vH
  rw[h]
 |i+1,t'::ts,h1=>by
  unfold vH
  rw[ZJ h (i:=i) (ts:=ts) (by simpa using h1)]
  cases rowR t'<;>rfl
theorem Q3 {t:Str} {r:Rw} (h:rowR t=some r):∀{i:Nat} {ts:List Str} {acc:List Rw},ts[i]?=some t->vH (ts.take i)=some acc->vH (ts.take (i+1))=some (acc++[r])
 |_, [],_,h1,_=>by simp at h1
 |0,t'::ts,acc,h1,h2=>by
  have e:t'=t:=by simpa using h1
  subst e
  have:acc=[]:=by simpa[vH] using h2.symm
  subst this
  simp[vH,h]
 |i+1,t'::ts,acc,h1,h2=>by
  rw[List.take_succ_cons] at h2 ⊢
  unfold vH at h2 ⊢
  cases e:rowR t' with
  |none=>rw[e] at h2; cases h2
  |some q =>
   rw[e] at h2
   dsimp only at h2 ⊢
   cases e2:vH (ts.take i) with
   |none=>rw[e2] at h2; cases h2
   |some a =>
    rw[e2] at h2
    rw[Q3 h (i:=i) (ts:=ts) (acc:=a) (by simpa using h1) e2]
    cases h2
    rfl
def KZ:List U->MM->UK->UX->Prop:=fun us M Q X=>∃t:Str,us=[.p (.str t)]/\t.length<=900000/\(∀rs,vH (Txt.split t ⟨#[10]⟩)=some rs->Q (.p (.lst (rs.map rowT))) M)/\(vH (Txt.split t ⟨#[10]⟩)=none->X "NoText" none M)
theorem ok_readX {f:Addr} {fd:FuncData} (F:Fun K "read" "read" XH f fd) (DReadRow:DefX P w K mg base "read_row" 5 ["text"] (spX mg gRowX)):FnOk P w K mg base (CXe P w) 6 f fd ["text"] (spX mg KZ):=by
 refine F.zXh scRead (fun us M Qu Xu h=>?_) (fun cdv A outer s H E hr=>?_)
 ·obtain⟨_,rfl,_⟩:=h
  rfl
 refine⟨_,(ZM (JO (qxc_lc [false] ["row"] (xg (K:=K) rfl (jo PySem.F.plainAttrs_str PySem.F.slot_str_split PySem.F.type_str_split xk (qv 0) (qa_c qo qd))) (fun _ _ _=>(vg (i:=1) ndRead1 rfl (Or.inl rfl))) (fun _ _ _=>vL) (fun _ _ _ _=>(x8 DReadRow (hr.mono (by first|decide|exact Nat.le_refl _)) (qa_c (qv 1) qd)))))),_,(Qv (Yc (Qx (jr zN (qb 0) (qa (ce_c (.str _)) qf))) (vq 1) xz (jd (qa (qb 1) qf)))),fun us M Qu Xu h=>?_⟩
 obtain⟨t,rfl,hl,k1,k2⟩:=h
 have hfw:=zE (x:=t) (c:=10)
 walk_at "pk"
 refine⟨10,_,by rw[nl_is],rfl,Nat.le_trans (m:=1000000) (by omega) (by decide), ?_⟩
 walk_at "pk"
 refine xW (ts:=(Txt.split t ⟨#[10]⟩).map T.str) (by rw[List.length_map]; exact Nat.le_trans (m:=1000000) (by omega) (by decide)) (fun i acc M'=>M'=M/\∃rs,vH ((Txt.split t ⟨#[10]⟩).take i)=some rs/\acc=rs.map rowT) ⟨rfl, [],rfl,rfl⟩ ?_ ?_
 ·rintro i x acc M' hx _ ⟨rfl,rs,hrs,rfl⟩
  obtain⟨y,hy,rfl⟩:=xE hx
  walk_at "pk"
  refine⟨y,rfl,Nat.le_trans (zt (List.mem_of_getElem? hy)) hl,fun r hr=>⟨rowT r,rfl,rfl,rs++[r],Q3 hr hy hrs,by simp⟩,fun hr=>⟨_,_,_,rfl,rfl,k2 (ZJ hr hy)⟩⟩
 ·rintro acc M' ⟨rfl,rs,hrs,rfl⟩
  rw[List.length_map,List.take_length] at hrs
  exact k1 rs hrs
def wtc (c:Nat):Nat:=if c=10 then 51 else 1
def wtl (l:List Nat):Nat:=(l.map wtc).sum
def wt (t:Str):Nat:=wtl t.cps.toList
theorem VH (a b:List Nat):wtl (a++b)=wtl a+wtl b:=by simp[wtl]
theorem X8 (c:Nat):1<=wtc c/\wtc c<=51:=by unfold wtc; split<;>omega
theorem VG:∀l:List Nat,l.length<=wtl l/\wtl l<=51*l.length
 | []=>⟨Nat.le_refl _,Nat.le_refl _⟩
 |c::l=>by
  have h:=VG l
  have h2:=X8 c
  have e:wtl (c::l)=wtc c+wtl l:=by simp[wtl]
  rw[e,List.length_cons]
  omega
theorem vT (t:Str):t.length<=wt t:=by rw[qO]; exact(VG _).1
theorem wt_le (t:Str):wt t<=51*t.length:=by rw[qO]; exact(VG _).2
theorem xx (a b:Str):wt (a++b)=wt a+wt b:=by
 unfold wt
 rw[<-VH]
 congr 1
 show(a.cps++b.cps).toList=_
 rw[Array.toList_append]
theorem kI (y:Str):∀zs:List Str,zs≠[]->wt (Str.join y zs)+wt y=(zs.map wt).sum+zs.length*wt y
 | [],h=>absurd rfl h
 | [z],_=>by
  show wt z+wt y=_
  simp
 |z::z'::zs,_=>by
  have ih:=kI y (z'::zs) (by simp)
  show wt (z++y++Str.join y (z'::zs))+wt y=_
  rw[xx,xx,List.map_cons,List.sum_cons,List.length_cons,Nat.succ_mul]
  omega
theorem kJ {y:Str} {zs:List Str}:wt (Txt.join y zs)<=(zs.map wt).sum+zs.length*wt y:=by
 show wt (Builtin.Str.glued y zs)<=_
 rw[StrLaws.glued_eq_join]
 by_cases h:zs=[]
 ·subst h
  exact Nat.zero_le _
 ·have:=kI y zs h
  omega
theorem kH (x:Str) (c:Nat):((Txt.split x ⟨#[c]⟩).map wt).sum+(Txt.split x ⟨#[c]⟩).length*wtc c=wt x+wtc c:=by
 have h:=kI ⟨#[c]⟩ (Txt.split x ⟨#[c]⟩) jv
 rw[StrLaws.join_split] at h
 have e:wt ⟨#[c]⟩=wtc c:=by simp[wt,wtl]
 rw[e] at h
 exact h.symm
theorem wtl_sub {a b:List Nat} (h:List.Sublist a b):wtl a<=wtl b:=by
 induction h with
 |slnil=>exact Nat.le_refl _
 |cons x _ ih=>simp only[wtl,List.map_cons,List.sum_cons] at ih ⊢; omega
 |cons_cons x _ ih=>simp only[wtl,List.map_cons,List.sum_cons] at ih ⊢; omega
theorem wt_to {t:Str} {j:Int} (h0:0<=j) (h1:j<=t.length):wt (Txt.slice t none (some j))=wtl (t.cps.toList.take j.toNat):=by
 have e:=PyProof.Rows.slice_closes_to (x:=t) (j:=j) ⟨h0,by rw[<-qO]; exact h1⟩
 rw[beq_iff_eq] at e
 rw[e]
 show wtl ((t.cps.toList.drop 0).take (j-0).toNat)=_
 rw[List.drop_zero,Int.sub_zero]
theorem wt_from {t:Str} {i:Int} (h0:0<=i):wt (Txt.slice t (some i) none)=wtl (t.cps.toList.drop i.toNat):=by
 rcases Int.lt_or_le (t.length:Int) i with h|h
 ·rw[PyProof.Rows.slice_beyond (Int.le_of_lt h),List.drop_of_length_le (by rw[<-qO]; omega)]
  rfl
 ·rw[PyProof.Rows.slice_from_eq (x:=t) (i:=i) (b:=t.length) h0 h rfl]
  show wtl ((t.cps.toList.drop i.toNat).take _)=_
  rw[List.take_of_length_le (by rw[List.length_drop, <-qO]; omega)]
theorem X9 {t:Str} {i j:Int} (h0:0<=i) (h1:i<=t.length) (h2:i<=j):wt (Txt.slice t none (some i))+wt (Txt.slice t (some j) none)<=wt t:=by
 rw[wt_to h0 h1,wt_from (by omega), <-VH]
 refine wtl_sub ?_
 have:t.cps.toList.take i.toNat++t.cps.toList.drop i.toNat=t.cps.toList:=List.take_append_drop ..
 rw[<-this]
 refine List.Sublist.append (by rw[this]; exact List.Sublist.refl _) ?_
 rw[this,show j.toNat=i.toNat+(j.toNat-i.toNat) by omega, <-List.drop_drop]
 exact List.drop_sublist ..
theorem wt_rep {x:Str}:wt (Txt.replace x ⟨#[10]⟩ ⟨#[]⟩)<=x.length:=by
 unfold wt
 rw[PyProof.Rows.replace_strikes,qO]
 have key:∀l:List Nat,wtl (l.filter (· != 10))<=l.length:=fun l=>by
  induction l with
  |nil=>exact Nat.le_refl _
  |cons c l ih =>
   rw[List.filter_cons]
   split
   ·rename_i h
    have:wtc c=1:=by unfold wtc; rw[if_neg (by simpa using h)]
    simp only[wtl,List.map_cons,List.sum_cons,List.length_cons] at ih ⊢
    omega
   ·rw[List.length_cons]; omega
 exact key _
theorem ZH:∀{l:List (Nat×Nat×Nat)} {c v:Nat},l.all (fun r=>decide (10<r.2.2))=true->Unicode.shifted l c=some v->v≠10
 | [],_,_,_,h=>by cases h
 | (a,b,t)::r,c,v,h,e=>by
  rw[List.all_cons,Bool.and_eq_true] at h
  unfold Unicode.shifted at e
  split at e
  ·cases e
  ·split at e
   ·cases e
    have:10<t:=by simpa using h.1
    omega
   ·exact ZH h.2 e
theorem up_ne {c:Nat} (h:c≠10):∀d∈Unicode.upperOf c,d≠10:=fun d hd=>by
 unfold Unicode.upperOf Unicode.image at hd
 split at hd
 ·rename_i cs hl
  have:=StrLaws.lookup_all (p:=fun l=>l.all fun x=>decide (x≠10)) _ c cs (by decide +kernel) hl
  rw[List.all_eq_true] at this
  simpa using this d hd
 ·rw[List.mem_singleton] at hd
  subst hd
  cases e:Unicode.shifted UnicodeData.oneUpper c with
  |none=>exact h
  |some v=>exact ZH (by decide +kernel) e
theorem up_wt (c:Nat):wtl (Unicode.upperOf c)<=3*wtc c:=by
 by_cases h:c=10
 ·subst h
  decide +kernel
 ·have h3:=StrLaws.upperOf_le3 c
  have h1:wtl (Unicode.upperOf c)=(Unicode.upperOf c).length:=by
   have h2:=up_ne h
   generalize Unicode.upperOf c=l at h2
   induction l with
   |nil=>rfl
   |cons x l ih =>
    have e:wtc x=1:=by unfold wtc; rw[if_neg (h2 x (by simp))]
    have:=ih fun d hd=>h2 d (by simp[hd])
    simp only[wtl,List.map_cons,List.sum_cons,List.length_cons] at this ⊢
    omega
  have:=(X8 c).1
  omega
theorem wt_upper (x:Str):wt (Txt.upper x)<=3*wt x:=by
 have e:(Txt.upper x).cps.toList=x.cps.toList.flatMap Unicode.upperOf:=by
  have key:∀l:List Nat,(l.mapIdx fun _ c=>(Unicode.upperOf c).toArray).toArray.flatten.toList=l.flatMap Unicode.upperOf:=fun l=>by
   rw[Array.toList_flatten]
   have h:∀(n:Nat) (l:List Nat),(List.map (Array.toList ∘ fun x:Nat×Nat=>(Unicode.upperOf x.fst).toArray) (l.zipIdx n))=l.map Unicode.upperOf:=fun n l=>by
    induction l generalizing n with
    |nil=>rfl
    |cons a l ih=>rw[List.zipIdx_cons,List.map_cons,ih,List.map_cons]; rfl
   simp only[List.flatMap,List.mapIdx_eq_zipIdx_map,List.map_map,List.map_toArray]
   rw[<-h 0 l]
  rw[<-key]
  show(Array.mapIdx (fun _ c=>(Unicode.upperOf c).toArray) x.cps).flatten.toList=_
  congr 2
  apply Array.toList_inj.mp
  simp
 unfold wt
 rw[e]
 generalize x.cps.toList=l
 induction l with
 |nil=>exact Nat.le_refl _
 |cons c l ih =>
  rw[List.flatMap_cons,VH]
  have:=up_wt c
  have e:wtl (c::l)=wtc c+wtl l:=by simp[wtl]
  omega
local macro_rules | `(tactic| walk_at "vx") => `(tactic| simp only[zG,jN,zJ,vV,vj,zH,zI,vW,vd,Zv,Zy,uCmpT,uMe0,kT,xH,xK,uInD,Zw,uInK,jw,uCatA,uLenT,rd_slT,QM,Jf])
local macro_rules | `(tactic| walk_at "pk") => `(tactic| (walk_at "v"; repeat ((first|walk_at "vx" |refine vy (by decide) ?_|refine qS rfl ?_); walk_at "v")))
theorem Zn {xs:List T} {j:Int} (h0:0<=j) (h1:j<xs.length):∃t,atI xs j=some t/\t∈xs:=by
 obtain⟨k,rfl⟩:∃k:Nat,j=(k:Int):=⟨j.toNat,by omega⟩
 have hk:k<xs.length:=by exact_mod_cast h1
 exact⟨xs[k],zT (List.getElem?_eq_getElem hk),List.getElem_mem hk⟩
theorem at_ex {α:Type} {l:List α} {i:Int} (h0:0<=i) (h1:i<l.length):∃c,atI l i=some c:=by
 have e:l[i.toNat]?=some (l[i.toNat]'(by omega)):=List.getElem?_eq_getElem _
 have:=zT (j:=i.toNat) e
 rw[show((i.toNat:Nat):Int)=i by omega] at this
 exact⟨_,this⟩
theorem ix_len {z:Str} {i:Int} (h0:0<=i) (h1:i<z.length):∃c,atI z.cps.toList i=some c:=at_ex h0 (by rw[<-qO]; exact h1)
theorem at2 {x y j:Int} (h0:0<=j) (h1:j<2):∃a,atI [T.int x,T.int y] j=some (.int a)/\(a=x\/a=y):=by
 rcases(show j=0\/j=1 by omega) with rfl|rfl
 ·exact⟨_,rfl, .inl rfl⟩
 ·exact⟨_,rfl, .inr rfl⟩
theorem log_few {n:Int} (h:0<=n/\n<=8000):n.natAbs.log2<9000:=Nat.lt_of_le_of_lt (Nat.log2_le_self _) (by omega)
abbrev signs95:Str:=("0123456789- \nabcdefghijklmnopqrstuvwxyz_ABCDEFGHIJKLMNOPQRSTUVWXYZ" : Str)++("!\"#$&'()*+,./:;<=>?\x40[\\]^`{|}~" : Str)
theorem Jy:signs95.length=95:=by decide +kernel
abbrev xf:Stmt:=top 32
theorem scAnySign:FnScope ["bag", "some"] ["bag"] (qc xf):=⟨rfl,rfl,rfl,by decide +kernel,rfl,by decide +kernel,by decide +kernel⟩
def KU:List U->MM->UK->Prop:=fun us M Q=>∃(k:Nat) (o:MO),us=[.m k]/\M[k]?=some o/\BagO o/\∀(c:Nat) (o':MO),BagO o'->Q (.p (.str ⟨#[c]⟩)) (M.set k o')
theorem Vd {f:Addr} {fd:FuncData} (F:Fun K "_law_any_sign" "_law_any_sign" xf f fd) (N:Nms mg) (DDraw:Def P w K mg base "_law_draw" 1 ["bag", "many"] (spU jq)):FnOk P w K mg base CX0 2 f fd ["bag"] (spU KU):=by
 refine F.zV scAnySign (fun us M Qu h=>?_) (fun cdv A outer s H E hr=>?_)
 ·obtain⟨_,_,rfl,_⟩:=h
  rfl
 refine⟨_,(qg (qE (i:=1) scAnySign.nd rfl (Or.inl rfl) qo)
  (qg (qE (i:=1) scAnySign.nd rfl (Or.inl rfl) (qx qW (qv 1) qo))
  (qk (qG (qY KJ (qv 1) (qw DDraw (hr.mono (by first|decide|exact Nat.le_refl _)) (qa_c (qv 0) (qa_c (qY (qt (K:=K) rfl) (vf (qa_c qe (qa_c qe qd))) (qw DDraw (hr.mono (by first|decide|exact Nat.le_refl _)) (qa_c (qv 0) (qa_c qe qd))) (fun _ _=>rfl)) qd))) (fun _ _=>rfl)))))),_,(ql (qA (ce_c (.str _)) (qp 1))
   (ql (qA (qm zj (qb 1) (ce_c (.str _))) (qp 1))
   (qN (qm VT (qb 1) (qj (qa (qb 0) (qa (vJ (vx (qa (ce_c (.int _)) (qa (ce_c (.int _)) qf))) (qj (qa (qb 0) (qa (ce_c (.int _)) qf)))) qf))))))),fun us M M1 Qu e1 h=>?_⟩
 obtain⟨k,o,rfl,em,hB,post⟩:=h
 obtain⟨hkl,eM⟩:=zi em
 rw[e1.trans eM]
 have fin:∀(c:Nat) (o':MO),BagO o'->zh M (MB M k o' [])/\Qu (.p (.str ⟨#[c]⟩)) (List.take (List.length M) (MB M k o' [])):=fun z o' B=>⟨zW B.pur,by rw[zY]; exact post z o' B⟩
 walk_at "pk"
 refine⟨by decide +kernel, ?_⟩
 refine qI hkl hB (by decide) (by decide) fun d1 o1 d10 d11 B1=>?_
 obtain⟨n,hn,hn2⟩:=at2 (x:=13) (y:=95) d10 d11
 refine zf hn ?_
 refine qI hkl B1 (by omega) (log_few (by omega)) fun d2 o2 d20 d21 B2=>?_
 obtain⟨c,hc⟩:=ix_len (z:=signs95) (i:=d2) d20 (by rw[Jy]; omega)
 walk_at "pk"
 refine⟨_,_,c,rfl,rfl,by decide +kernel,hc, ?_⟩
 walk_at "pk"
 exact fin c o2 B2
theorem VP {M:MM} {k:Nat} {o:MO} {L:List MO} {Q:UK} (hk:k<M.length) (B:BagO o) (q:∀(c:Nat) (o':MO),BagO o'->Q (.p (.str ⟨#[c]⟩)) (MB M k o' L)):KU [.m k] (MB M k o L) Q :=
 ⟨k,o,rfl,j8 hk,B,fun x o' B'=>by rw[zc hk]; exact q x o' B'⟩
abbrev XJ:Stmt:=top 33
theorem scBlot:FnScope ["bag", "many", "way"] ["bag"] (qc XJ):=⟨rfl,rfl,rfl,by decide +kernel,rfl,by decide +kernel,by decide +kernel⟩
theorem ndBlot1:(["bag", "many", "way", "k"]:List Str).Nodup:=by decide +kernel
def gBlot:List U->MM->UK->Prop:=fun us M Q=>∃(k:Nat) (o:MO),us=[.m k]/\M[k]?=some o/\BagO o/\∀(z:Str) (o':MO),z.length<=50->BagO o'->Q (.p (.str z)) (M.set k o')
theorem ok_blotU {f:Addr} {fd:FuncData} (F:Fun K "_law_blot" "_law_blot" XJ f fd) (N:Nms mg) (DDraw:Def P w K mg base "_law_draw" 1 ["bag", "many"] (spU jq)) (DAnySign:Def P w K mg base "_law_any_sign" 2 ["bag"] (spU KU)):FnOk P w K mg base CX0 3 f fd ["bag"] (spU gBlot):=by
 refine F.zV scBlot (fun us M Qu h=>?_) (fun cdv A outer s H E hr=>?_)
 ·obtain⟨_,_,rfl,_⟩:=h
  rfl
 refine⟨_,(qg (qE (i:=1) scBlot.nd rfl (Or.inl rfl) (qw DDraw (hr.mono (by first|decide|exact Nat.le_refl _)) (qa_c (qv 0) (qa_c qe qd))))
  (qg (qE (i:=2) scBlot.nd rfl (Or.inl rfl) (qw DDraw (hr.mono (by first|decide|exact Nat.le_refl _)) (qa_c (qv 0) (qa_c qe qd))))
  (qg (vB (qu v5 (qv 2) qe (qD _))
   (qk (qG (qx xC qo (qv 1))))
   qH)
  (qk (qG (jE (qu v5 (qv 2) qe (qD _)) (qx xC (qw DAnySign (hr.mono (by first|decide|exact Nat.le_refl _)) (qa_c (qv 0) qd)) (qv 1)) (jo PySem.F.plainAttrs_str PySem.F.slot_str_join PySem.F.type_str_join (xl (K:=K) rfl) qo (qa_c (Q6 [true,false,false] ["k"] (zK rfl N.range (qa_c (qv 1) qd)) (fun _ _ _=>(vg (i:=3) ndBlot1 rfl (Or.inl rfl))) (fun _ _ _=>vL) (fun _ _ _=>(qw DAnySign (hr.mono (by first|decide|exact Nat.le_refl _)) (qa_c (qv 0) qd)))) qd)))))))),_,(ql (qA (qj (qa (qb 0) (qa (ce_c (.int _)) qf))) (qp 1))
   (ql (qA (qj (qa (qb 0) (qa (ce_c (.int _)) qf))) (qp 2))
   (ql (vI (qy (qm vm (qb 2) (ce_c (.int _))))
   (qN (qm zw (ce_c (.str _)) (qb 1)))
   qJ)
   (qN (ce_if (qy (qm vm (qb 2) (ce_c (.int _)))) (qm zw (qj (qa (qb 0) qf)) (qb 1)) (jr xm (ce_c (.str _)) (qa (zx (Qw (qa (qb 1) qf)) (vq 3) xz (qj (qa (qb 0) qf))) qf))))))),fun us M M1 Qu e1 h=>?_⟩
 obtain⟨k,o,rfl,em,B,q⟩:=h
 obtain⟨hk,eM⟩:=zi em
 rw[eM] at e1
 subst e1
 have fin:∀(z:Str) (o':MO) (L:List MO),BagO o'->z.length<=50->zh M (MB M k o' L)/\Qu (.p (.str z)) (List.take (List.length M) (MB M k o' L)):=fun z o' L B h1=>⟨zW B.pur,by rw[zY]; exact q z o' h1 B⟩
 walk_at "pk"
 refine qI hk B (by decide) (by decide) fun many o1 m0 m1 B1=>?_
 walk_at "pk"
 refine qI hk B1 (by decide) (by decide) fun way o2 w0 w1 B2=>?_
 walk_at "pk"
 have ml:∀z:Str,z.length=1->(Txt.mul z many).length<=50:=fun z hz=>by
  have:=Km (x:=z) (n:=many)
  rw[hz] at this
  omega
 refine ite2 (fun hw=>?_) (fun hw=>?_)
 ·exact⟨_,_,rfl,rfl,by decide +kernel,by omega,by omega,fin _ _ _ B2 (ml _ (by decide +kernel))⟩
 walk_at "pk"
 refine ite2 (fun hw2=>?_) (fun hw2=>?_)
 ·refine VP hk B2 fun c o3 B3=>?_
  walk_at "pk"
  exact⟨_,_,rfl,rfl,by show 1<=1000; decide,by omega,by omega,fin _ _ _ B3 (ml _ rfl)⟩
 ·refine ZK (by omega) (by omega) ?_
  refine QJ (Nat.le_of_lt (qC (by omega))) (fun j acc M'=>∃o cs,BagO o/\M'=MB M k o []/\cs.length=j/\acc=cs.map fun c=>T.str ⟨#[c]⟩) ⟨o2, [],B2,rfl,rfl,rfl⟩ ?_ ?_
  ·rintro j acc M' hj _ ⟨o3,cs,B3,rfl,hl,rfl⟩
   walk_at "pk"
   refine VP hk B3 fun c o4 B4=>?_
   walk_at "pk"
   exact⟨o4,cs++[c],B4,rfl,by simp[hl],by simp⟩
  ·rintro acc M' ⟨o3,cs,B3,rfl,hl,rfl⟩
   walk_at "pk"
   have hw:((cs.map fun c=>(⟨#[c]⟩:Str)).map (·.length)).sum+(cs.map fun c=>(⟨#[c]⟩:Str)).length*("" : Str).length<=20:=by
    have:=V4 (l:=cs.map fun c=>(⟨#[c]⟩:Str)) (n:=1) fun x hx=>by obtain⟨c,_,rfl⟩:=List.mem_map.mp hx; exact Nat.le_refl 1
    rw[show("" : Str).length=0 by decide +kernel]
    rw[List.length_map] at this
    omega
   refine⟨cs.map fun c=>(⟨#[c]⟩:Str),by rw[List.map_map]; rfl,Nat.le_trans hw (by decide),fin _ _ _ B3 (Nat.le_trans Vi (Nat.le_trans hw (by decide)))⟩
theorem Yr {M:MM} {k:Nat} {o:MO} {L:List MO} {Q:UK} (hk:k<M.length) (B:BagO o) (q:∀(z:Str) (o':MO),z.length<=50->BagO o'->Q (.p (.str z)) (MB M k o' L)):gBlot [.m k] (MB M k o L) Q :=
 ⟨k,o,rfl,j8 hk,B,fun n o' hn B'=>by rw[zc hk]; exact q n o' hn B'⟩
abbrev xb:Stmt:=top 28
theorem JA:FnScope [] [] (qc xb):=⟨rfl,rfl,rfl,by decide +kernel,rfl,by decide +kernel,by decide +kernel⟩
def vp:List (Key×U):=lettersL.map fun x=>(.inr x.1, .p (.str x.2))
def v7:List U->MM->UK->Prop:=fun us M Q=>us=[]/\Q (.m M.length) (M++[.dK vp])
theorem jp {f:Addr} {fd:FuncData} (F:Fun K "_law_letters" "_law_letters" xb f fd):FnOk P w K mg base CX0 1 f fd [] (spU v7):=by
 refine F.zU JA (fun us M Qu h=>?_) (fun cdv A outer s H E hr=>?_)
 ·rw[h.1]; rfl
 refine⟨_,(qk (qG (qe_dictC (.cons (.cons (.cons (.cons (.cons (.cons (.cons (.cons (.cons (.cons (.cons (.cons (.cons (.cons (.cons (.cons (.cons (.cons (.cons (.cons .nil)))))))))))))))))))) (by decide) (by decide) (by decide +kernel)))),_,(qN ce_dictC),fun us M Qu h=>?_⟩
 obtain⟨rfl,q⟩:=h
 exact q
theorem V3 {M:MM} {k:Nat} {o:MO} {L:List MO} {Q:UK} (q:Q (.m (M.length+L.length)) (MB M k o (L++[.dK vp]))):v7 [] (MB M k o L) Q:=⟨rfl,by rw[Xw,Xv]; exact q⟩
def wordsL:List Str:=lettersL.map (·.1)
theorem lsd_at {M:MM} {k i:Nat} {o:MO} {L:List MO} {Q:UK} (h:L[i]?=some (.dK vp)) (q:Q (.p (.lst (wordsL.map T.str))) (MB M k o L)):LsDS [.m (M.length+i)] (MB M k o L) Q :=
 ⟨_,_,wordsL,rfl,MB_get.trans h,by decide +kernel,q⟩
theorem Zh {α:Type} {f:α->T} {l:List α} {j:Int} (h0:0<=j):cutT (l.map f) none (some j)=(l.take j.toNat).map f:=by
 unfold cutT
 have e:HT.sIx (l.map f).length (l.map f).length (some j)=min j.toNat l.length:=by
  show(if j<0 then _ else min j.toNat (l.map f).length)=_
  rw[if_neg (by omega),List.length_map]
 rw[e,HT.sIx_none,List.drop_zero,Nat.sub_zero,List.map_take]
 rcases Nat.le_total j.toNat l.length with h|h
 ·rw[Nat.min_eq_left h]
 ·rw[Nat.min_eq_right h,List.take_of_length_le (by rw[List.length_map]; exact Nat.le_refl _),List.take_of_length_le (by rw[List.length_map]; exact h)]
theorem xT {α:Type} {f:α->T} {l:List α} {j:Int} (h0:0<=j):cutT (l.map f) (some j) none=(l.drop j.toNat).map f:=by
 unfold cutT
 have e:HT.sIx (l.map f).length 0 (some j)=min j.toNat l.length:=by
  show(if j<0 then _ else min j.toNat (l.map f).length)=_
  rw[if_neg (by omega),List.length_map]
 rw[e,HT.sIx_none,List.take_of_length_le (by rw[List.length_drop]; exact Nat.le_refl _),List.map_drop]
 rcases Nat.le_total j.toNat l.length with h|h
 ·rw[Nat.min_eq_left h]
 ·rw[Nat.min_eq_right h,List.drop_of_length_le (by rw[List.length_map]; exact Nat.le_refl _),List.drop_of_length_le (by rw[List.length_map]; exact h)]
theorem Qh {n:Int} (h:n.natAbs<2^40):n.natAbs.log2<9000:=by
 by_cases z:n.natAbs=0
 ·rw[z]; decide
 ·exact Nat.lt_trans ((Nat.log2_lt z).mpr h) (by decide)
def words34:List Str:=(["1", "-", "", "A", "abcdefgh", "abcdefghi", "0", "-1", "00", "-0", Txt.mul "9" 60, "-" ++ Txt.mul "9" 61, "none", "set"]:List Str)++wordsL
theorem Xy {d:Int} (h0:0<=d) (h1:d<34):∃z:Str,atI (words34.map T.str) d=some (.str z)/\wt z<=70:=by
 obtain⟨t,ht,hm⟩:=Zn (xs:=words34.map T.str) h0 h1
 obtain⟨z,hz,rfl⟩:=List.mem_map.mp hm
 have key:∀z∈words34,wt z<=70:=by decide +kernel
 exact⟨z,ht,key z hz⟩
theorem sp_wt:wt (" " : Str)=1:=by decide +kernel
theorem Kz {zs:List Str} {y:Str} (h1:y.length=1) (h2:wt y=1):(zs.map (·.length)).sum+zs.length*y.length<=(zs.map wt).sum+zs.length*wt y:=by
 rw[h1,h2]
 have:(zs.map (·.length)).sum<=(zs.map wt).sum:=by
  induction zs with
  |nil=>exact Nat.le_refl _
  |cons z zs ih=>have:=vT z; simp only[List.map_cons,List.sum_cons]; omega
 omega
abbrev xc:Stmt:=top 34
theorem scBentRow:FnScope ["bag", "line", "words", "some", "k", "word", "way"] ["bag", "line"] (qc xc):=⟨rfl,rfl,rfl,by decide +kernel,rfl,by decide +kernel,by decide +kernel⟩
def Xc:List U->MM->UK->Prop:=fun us M Q=>∃(k:Nat) (o:MO) (line:Str),us=[.m k, .p (.str line)]/\M[k]?=some o/\BagO o/\wt line<=800000/\∀(z:Str) (o':MO),wt z<=wt line+100->BagO o'->Q (.p (.str z)) (M.set k o')
theorem Kd {f:Addr} {fd:FuncData} (F:Fun K "_law_bent_row" "_law_bent_row" xc f fd) (N:Nms mg) (DDraw:Def P w K mg base "_law_draw" 1 ["bag", "many"] (spU jq)) (DLetters:Def P w K mg base "_law_letters" 1 [] (spU v7)):FnOk P w K mg base CX0 2 f fd ["bag", "line"] (spU Xc):=by
 refine F.zV scBentRow (fun us M Qu h=>?_) (fun cdv A outer s H E hr=>?_)
 ·obtain⟨_,_,_,rfl,_⟩:=h
  rfl
 refine⟨_,(qg (qE (i:=2) scBentRow.nd rfl (Or.inl rfl) (vf (qa_c qo (qa_c qo (qa_c qo (qa_c qo (qa_c qo (qa_c qo (qa_c qo (qa_c qo (qa_c qo (qa_c qo (qa_c (qx xC qo qe) (qa_c (qx qW qo (qx xC qo qe)) (qa_c qo (qa_c qo qd))))))))))))))))
  (qg (qE (i:=2) scBentRow.nd rfl (Or.inl rfl) (qx zM (qv 2) (vk (kE rfl) (by rfl) N.list kF (qa_c (kZ DLetters (hr.mono (by first|decide|exact Nat.le_refl _))) qd))))
  (qg (qE (i:=3) scBentRow.nd rfl (Or.inl rfl) (jo PySem.F.plainAttrs_str PySem.F.slot_str_split PySem.F.type_str_split xk (qv 1) (qa_c qo qd)))
  (qg (qE (i:=4) scBentRow.nd rfl (Or.inl rfl) (qw DDraw (hr.mono (by first|decide|exact Nat.le_refl _)) (qa_c (qv 0) (qa_c (qx vn (qr v9 (by rfl) N.len zz (qa_c (qv 3) qd)) qe) qd))))
  (qg (qE (i:=5) scBentRow.nd rfl (Or.inl rfl) (qY (qt (K:=K) rfl) (qv 2) (qw DDraw (hr.mono (by first|decide|exact Nat.le_refl _)) (qa_c (qv 0) (qa_c qe qd))) (fun _ _=>rfl)))
  (qg (qE (i:=6) scBentRow.nd rfl (Or.inl rfl) (qw DDraw (hr.mono (by first|decide|exact Nat.le_refl _)) (qa_c (qv 0) (qa_c qe qd))))
  (qg (vB (qu v5 (qv 6) qe (qD _))
   (qk (qG (jo PySem.F.plainAttrs_str PySem.F.slot_str_join PySem.F.type_str_join (xl (K:=K) rfl) qo (qa_c (qx zM (qx zM (qK (ve (K:=K) rfl) (qv 3) qR (qQ (qv 4))) (vf (qa_c (qv 5) qd))) (qK (ve (K:=K) rfl) (qv 3) (qQ (qv 4)) qR)) qd))))
   qH)
  (qk (qG (jo PySem.F.plainAttrs_str PySem.F.slot_str_join PySem.F.type_str_join (xl (K:=K) rfl) qo (qa_c (qx zM (qx zM (qK (ve (K:=K) rfl) (qv 3) qR (qQ (qv 4))) (qx op_rep (vf (qa_c (qv 5) qd)) (vk j7 (by rfl) N.int Zm (qa_c (vX v5 (qv 6) qe (qD _)) qd)))) (qK (ve (K:=K) rfl) (qv 3) (qQ (qx vn (qv 4) qe)) qR)) qd))))))))))),_,(ql (qA (vx (qa (ce_c (.str _)) (qa (ce_c (.str _)) (qa (ce_c (.str _)) (qa (ce_c (.str _)) (qa (ce_c (.str _)) (qa (ce_c (.str _)) (qa (ce_c (.str _)) (qa (ce_c (.str _)) (qa (ce_c (.str _)) (qa (ce_c (.str _)) (qa (qm zw (ce_c (.str _)) (ce_c (.int _))) (qa (qm zj (ce_c (.str _)) (qm zw (ce_c (.str _)) (ce_c (.int _)))) (qa (ce_c (.str _)) (qa (ce_c (.str _)) qf))))))))))))))) (qp 2))
   (ql (qA (qm v3 (qb 2) (Xm (qa (qj qf) qf))) (qp 2))
   (ql (qA (jr zN (qb 1) (qa (ce_c (.str _)) qf)) (qp 3))
   (ql (qA (qj (qa (qb 0) (qa (qm (qP fun _ _=>.int _) (kC (qa (qb 3) qf)) (ce_c (.int _))) qf))) (qp 4))
   (ql (qA (vJ (qb 2) (qj (qa (qb 0) (qa (ce_c (.int _)) qf)))) (qp 5))
   (ql (qA (qj (qa (qb 0) (qa (ce_c (.int _)) qf))) (qp 6))
   (ql (vI (qy (qm vm (qb 6) (ce_c (.int _))))
   (qN (jr xm (ce_c (.str _)) (qa (qm v3 (qm v3 (j6 (qb 3) vb (va (qb 4))) (vx (qa (qb 5) qf))) (j6 (qb 3) (va (qb 4)) vb)) qf)))
   qJ)
   (qN (jr xm (ce_c (.str _)) (qa (qm v3 (qm v3 (j6 (qb 3) vb (va (qb 4))) (qm J4 (vx (qa (qb 5) qf)) (xG Zl (qa (qm vm (qb 6) (ce_c (.int _))) qf)))) (j6 (qb 3) (va (qm (qP fun _ _=>.int _) (qb 4) (ce_c (.int _)))) vb)) qf)))))))))),fun us M M1 Qu e1 h=>?_⟩
 obtain⟨k,o,line,rfl,em,B,hl,q⟩:=h
 obtain⟨hk,eM⟩:=zi em
 rw[eM] at e1
 subst e1
 have fin:∀(z:Str) (o':MO) (L:List MO),BagO o'->wt z<=wt line+100->zh M (MB M k o' L)/\Qu (.p (.str z)) (List.take (List.length M) (MB M k o' L)):=fun z o' L B h1=>⟨zW B.pur,by rw[zY]; exact q z o' h1 B⟩
 walk_at "pk"
 refine⟨_,_,rfl,rfl,by decide +kernel,by decide,by decide, ?_⟩
 refine⟨_,_,rfl,rfl,by decide +kernel,by decide,by decide, ?_⟩
 refine⟨_,_,rfl,rfl,by decide +kernel, ?_⟩
 walk_at "pk"
 refine V3 ?_
 walk_at "pk"
 refine lsd_at (i:=0) rfl ?_
 walk_at "pk"
 refine⟨Nat.le_of_lt (qC (by decide)), ?_⟩
 walk_at "pk"
 have hlw:=vT line
 have hsw:((Txt.split line ⟨#[32]⟩).map wt).sum+(Txt.split line ⟨#[32]⟩).length=wt line+1:=by
  have:=kH line 32
  rw[show wtc 32=1 from rfl,Nat.mul_one] at this
  exact this
 refine⟨32,_,by rw[sp_is],rfl,Nat.le_trans (m:=1000000) (by omega) (by decide), ?_⟩
 generalize Txt.split line ⟨#[32]⟩=zs at hsw ⊢
 walk_at "pk"
 simp only[List.length_map]
 refine qI hk B (by omega) (Qh (by omega)) fun d1 o1 d10 d11 B1=>?_
 walk_at "pk"
 refine qI hk B1 (by decide) (by decide) fun d2 o2 d20 d21 B2=>?_
 obtain⟨wd,hwd,hwl⟩:=Xy d20 d21
 walk_at "pk"
 refine zf hwd ?_
 walk_at "pk"
 refine qI hk B2 (by decide) (by decide) fun d3 o3 d30 d31 B3=>?_
 walk_at "pk"
 simp only[Zh d10,xT d10,xT (show 0<=d1+1 by omega)]
 have sm:∀(n:Nat),((zs.take n).map wt).sum+((zs.drop n).map wt).sum=(zs.map wt).sum:=fun n=>by rw[<-List.sum_append, <-List.map_append,List.take_append_drop]
 have sd:∀(n:Nat),((zs.drop (n+1)).map wt).sum<=((zs.drop n).map wt).sum:=fun n=>by
  rw[<-List.drop_drop]
  generalize zs.drop n=ys
  cases ys with
  |nil=>simp
  |cons y ys=>simp
 refine ite2 (fun hw=>?_) (fun hw=>?_)
 ·have h1:=sm d1.toNat
  rw[show(zs.take d1.toNat).map T.str++[T.str wd]++(zs.drop d1.toNat).map T.str=(zs.take d1.toNat++[wd]++zs.drop d1.toNat).map T.str by simp]
  have hj:((zs.take d1.toNat++[wd]++zs.drop d1.toNat).map wt).sum+(zs.take d1.toNat++[wd]++zs.drop d1.toNat).length*wt (" " : Str)<=wt line+100:=by
   rw[sp_wt]
   simp only[List.map_append,List.sum_append,List.length_append,List.length_take,List.length_drop,List.map_cons,List.map_nil,List.sum_cons,List.sum_nil,List.length_singleton]
   omega
  refine⟨?_, ?_, ?_⟩
  ·simp only[List.length_map,List.length_take]; exact Nat.le_trans (m:=1000000) (by omega) (by decide)
  ·simp only[List.length_map,List.length_take,List.length_drop,List.length_append,List.length_singleton]; exact Nat.le_trans (m:=1000000) (by omega) (by decide)
  ·exact⟨_,rfl,Nat.le_trans (Kz Jw sp_wt) (Nat.le_trans hj (Nat.le_trans (m:=1000000) (by omega) (by decide))),fin _ _ _ B3 (Nat.le_trans kJ hj)⟩
 walk_at "pk"
 have h1:=sm d1.toNat
 have h2:=sd d1.toNat
 rw[show(d1+1).toNat=d1.toNat+1 by omega]
 obtain⟨ws,hws,hwsl⟩:∃ws:List Str,(List.replicate (if d3=1 then(1:Int) else 0).toNat [T.str wd]).flatten=ws.map T.str/\(ws=[]\/ws=[wd]):=by
  split
  ·exact⟨[wd],rfl, .inr rfl⟩
  ·exact⟨[],rfl, .inl rfl⟩
 refine⟨_,_,rfl,rfl,by split<;>decide,by split<;>decide,by rw[List.length_singleton]; split<;>decide, ?_⟩
 rw[hws]
 have hws2:(ws.map wt).sum<=70/\ws.length<=1:=by
  rcases hwsl with rfl|rfl
  ·simp
  ·simp; omega
 have hj:((zs.take d1.toNat++ws++zs.drop (d1.toNat+1)).map wt).sum+(zs.take d1.toNat++ws++zs.drop (d1.toNat+1)).length*wt (" " : Str)<=wt line+100:=by
  rw[sp_wt]
  simp only[List.map_append,List.sum_append,List.length_append,List.length_take,List.length_drop]
  omega
 refine⟨_,_,rfl,rfl, ?_, ?_⟩
 ·simp only[List.length_map,List.length_take]; exact Nat.le_trans (m:=1000000) (by omega) (by decide)
 refine⟨_,_,rfl,rfl, ?_, ?_⟩
 ·simp only[List.length_map,List.length_take,List.length_drop,List.length_append]; exact Nat.le_trans (m:=1000000) (by omega) (by decide)
 rw[<-List.map_append, <-List.map_append]
 exact⟨_,rfl,Nat.le_trans (Kz Jw sp_wt) (Nat.le_trans hj (Nat.le_trans (m:=1000000) (by omega) (by decide))),fin _ _ _ B3 (Nat.le_trans kJ hj)⟩
local macro_rules | `(tactic| walk_at "vx") => `(tactic| simp only[jf,xI,kK,xJ,zA,uTry,ze,je,QL,QN,endX,uAsG,ji,zG,jN,zJ,vV,vj,zH,zI,vW,vd])
local macro_rules | `(tactic| walk_at "pk") => `(tactic| (walk_at "v"; repeat ((first|walk_at "vx" |refine vy (by decide) ?_|refine qS rfl ?_); walk_at "v")))
def nod (c:Nat):Bool:=!decide (c∈digs)
def one1 (c:Nat):T:=.str ⟨#[c]⟩
theorem Z1 {l:List Nat} {i c:Nat} (h:l[i]?=some c):((l.take (i+1)).filter nod).map one1=((l.take i).filter nod).map one1++(if nod c then[one1 c] else[]):=by
 obtain⟨hi,rfl⟩:=List.getElem?_eq_some_iff.mp h
 rw[List.take_add_one,List.filter_append,List.map_append,List.getElem?_eq_getElem hi]
 show _++(List.filter nod [l[i]]).map one1=_
 cases e:nod l[i]<;>simp[e]
theorem Qc {l:List Nat} {i c:Nat} (h:l[i]?=some c) (e:(!decide (c∈digs))=true):((l.take i).filter nod).map one1++[.str ⟨#[c]⟩]=((l.take (i+1)).filter nod).map one1:=by
 rw[Z1 h,show nod c=true from e]
 rfl
theorem Z2 {l:List Nat} {i c:Nat} (h:l[i]?=some c) (e:¬(!decide (c∈digs))=true):((l.take i).filter nod).map one1=((l.take (i+1)).filter nod).map one1:=by
 rw[Z1 h,show nod c=false from by simpa[nod] using e]
 simp
theorem Qd {l:List Nat} (h:∀c∈l,c∈digs):(l.filter nod).map one1=[]:=by
 rw[List.map_eq_nil_iff,List.filter_eq_nil_iff]
 intro c hc
 simp[nod,h c hc]
theorem Z3 {l:List Nat} (h:¬ ∀c∈l,c∈digs):((l.filter nod).map one1).length≠([]:List T).length:=fun z=>h fun c hc=>by
 have e:l.filter nod=[]:=by simpa using z
 have:=List.filter_eq_nil_iff.mp e c hc
 simpa[nod] using this
abbrev kh:Stmt:=top 36
theorem scValue:FnScope ["text", "most", "figures"] ["text", "most"] (qc kh):=⟨rfl,rfl,rfl,by decide +kernel,rfl,by decide +kernel,by decide +kernel⟩
theorem ndValue1:(["text", "most", "figures", "sign"]:List Str).Nodup:=by decide +kernel
def Qj:List T->(T->Prop)->Prop:=fun ts Q=>∃(t:Str) (m:Int),ts=[.str t, .int m]/\(t.length<=1000000/\m<=600)/\(∀i,zq t.cps.toList m->PySem.intText? t=some i->Q (.int i))/\(¬zq t.cps.toList m->Q .non)
theorem Ka {f:Addr} {fd:FuncData} (F:Fun K "_law_value" "_law_value" kh f fd) (N:Nms mg):FnOk P w K mg base CX0 1 f fd ["text", "most"] (spP Qj):=by
 refine F.zP scValue (fun ts Qt h=>?_) (fun cdv A outer s H E hr=>?_)
 ·obtain⟨_,_,rfl,_⟩:=h
  rfl
 refine⟨_,(qg (qE (i:=2) scValue.nd rfl (Or.inl rfl) (qv 0))
  (qg (vB (qu v5 (qK jL (qv 0) qR (qQ qe)) qo (qD _))
   (qk (qE (i:=2) scValue.nd rfl (Or.inl rfl) (qK jL (qv 0) (qQ qe) qR)))
   qH)
  (qg (vB (jO (Q5 (qu v5 (qv 2) qo (qD _)) (Q5 (qu op_gt (qr v8 (by rfl) N.len zz (qa_c (qv 2) qd)) (qv 1) (qD _)) (jP (jO (ZN (qu v5 (qY KJ (qv 2) qe (fun _ _=>rfl)) qo (qD _)) (kW (qu op_gt (qr v8 (by rfl) N.len zz (qa_c (qv 0) qd)) qe (qD _)))))))))
   (qk (qG xy))
   qH)
  (qg (vB (qu (op_neLK (K:=K) rfl hr.units) (Q6 [false,false,false] ["sign"] (ZR (qv 2)) (fun _ _ _=>(vg (i:=3) ndValue1 rfl (Or.inl rfl))) (fun _ _ _=>JQ (qu Va (qv 3) qo (by with_unfolding_all rfl))) (fun _ _ _=>(qv 3))) (vf qd) (qD _))
   (qk (qG xy))
   qH)
  (qk (qG (vk Vz (by rfl) N.int Zm (qa_c (qv 0) qd)))))))),_,(ql (qA (qb 0) (qp 2))
   (ql (vI (qy (qm vm (j5 (qb 0) vb (va (ce_c (.int _)))) (ce_c (.str _))))
   (qA (j5 (qb 0) (va (ce_c (.int _))) vb) (qp 2))
   qJ)
   (ql (vI (X4 (qy (qm vm (qb 2) (ce_c (.str _)))) (X4 (qy (qm (qP fun _ _=>.bl _) (xG zy (qa (qb 2) qf)) (qb 1))) (Yd (qy (qm vm (qm VT (qb 2) (ce_c (.int _))) (ce_c (.str _)))) (qy (qm (qP fun _ _=>.bl _) (xG zy (qa (qb 0) qf)) (ce_c (.int _)))))))
   (qN (ce_c .non))
   qJ)
   (ql (vI (qy (qm opl_neL (zx (Xk (qb 2)) (vq 3) (qy (qm jR (qb 3) (ce_c (.str _)))) (qb 3)) (vx qf)))
   (qN (ce_c .non))
   qJ)
   (qN (xG Xn (qa (qb 0) qf))))))),fun ts Qt h=>?_⟩
 obtain⟨t,m,rfl,hl,k1,k2⟩:=h
 have hz:t.length<=sizeLine:=Nat.le_trans hl.1 (by decide)
 have key:∀f:Str,f=(if Txt.slice t none (some 1) = "-" then Txt.slice t (some 1) none else t)->f.cps.toList=figL t.cps.toList/\f.length<=t.length:=fun f e=>by
  subst e
  unfold figL
  by_cases h:t.cps.toList.head?=some 45
  ·rw[if_pos h,if_pos (slice_one.symm▸h)]
   exact⟨kg (by cases q:t.cps.toList with
    |nil=>rw[q] at h; cases h
    |cons=>simp),Txt.slice_le ..⟩
  ·rw[if_neg h,if_neg (slice_one.symm▸h)]
   exact⟨rfl,Nat.le_refl _⟩
 walk_at "pk"
 refine⟨hz, ?_⟩
 by_cases hs:Txt.slice t none (some 1) = "-"
 ·refine qS hs ⟨hz, ?_⟩
  obtain⟨hf,hfl⟩:=key _ (if_pos hs).symm
  have hlen:=(qO).trans (congrArg List.length hf)
  have no:¬zq t.cps.toList m->Qt T.non:=k2
  walk_at "pk"
  refine ite2 (fun h1=>no fun g=>g.1 (by rw[<-hf,h1]; decide +kernel)) (fun h1=>?_)
  refine⟨Nat.le_trans hfl hz, ?_⟩
  refine ite2 (fun h2=>no fun g=>?_) (fun h2=>?_)
  ·have g2:=g.2.1
   rw[<-hlen] at g2
   omega
  have h2':(((figL t.cps.toList).length:Nat):Int)<=m:=by
   rw[<-hlen]
   omega
  cases e:figL t.cps.toList with
  |nil=>exact absurd (str_ext.mpr (by rw[hf,e]; decide +kernel)) h1
  |cons c r =>
  have hd:(figL t.cps.toList).head?=some c:=by rw[e]; rfl
  have ne:figL t.cps.toList≠[]:=by rw[e]; simp
  refine⟨_,_,c,rfl,rfl,Nat.le_trans hfl hz,by rw[hf,e]; exact at0, ?_⟩
  clear e
  walk_at "pk"
  refine ite2 (fun h4=>?_) (fun h4=>?_)
  ·have c48:=jt h4
   subst c48
   refine⟨hz, ?_⟩
   refine ite2 (fun h5=>no fun g=>g.2.2.2 ⟨hd, ?_⟩) (fun h5=>?_)
   ·rw[<-qO]
    omega
   ·have g4:¬((figL t.cps.toList).head?=some 48/\1<t.cps.toList.length):=fun z=>by
     rw[<-qO] at z
     omega
    walk_at "pk"
    refine vU (Nat.le_trans hfl hz) (fun i acc M=>M=[]/\acc=(((Txt.slice t (some 1) none).cps.toList.take i).filter nod).map one1) ⟨rfl,rfl⟩ (fun i c acc M2 hc hl2 hI=>?_) (fun acc M2 hI=>?_)
    ·obtain⟨rfl,rfl⟩:=hI
     walk_at "pk"
     rw[xp]
     refine ite2 (fun h7=>Qc hc h7) (fun h7=>Z2 hc h7)
    ·obtain⟨rfl,rfl⟩:=hI
     rw[List.take_of_length_le (by simp),hf]
     walk_at "pk"
     by_cases h3:∀c∈figL t.cps.toList,c∈digs
     ·rw[Qd h3]
      refine K3 (ns:=[]) (ms:=[]) ?_
      walk_at "pk"
      obtain⟨i,hi⟩:=xo ⟨ne,h2',h3,g4⟩ (vG ⟨ne,h2',h3,g4⟩ hl.2)
      exact⟨t,i,rfl,vG ⟨ne,h2',h3,g4⟩ hl.2,hi,k1 i ⟨ne,h2',h3,g4⟩ hi⟩
     ·refine⟨_,_,rfl,rfl, .inl ⟨Z3 h3, ?_⟩⟩
      walk_at "pk"
      exact no fun g=>h3 g.2.2.1
  ·have g4:¬((figL t.cps.toList).head?=some 48/\1<t.cps.toList.length):=fun z=>h4 (jF (Option.some.inj (hd.symm.trans z.1)))
   walk_at "pk"
   refine vU (Nat.le_trans hfl hz) (fun i acc M=>M=[]/\acc=(((Txt.slice t (some 1) none).cps.toList.take i).filter nod).map one1) ⟨rfl,rfl⟩ (fun i c acc M2 hc hl2 hI=>?_) (fun acc M2 hI=>?_)
   ·obtain⟨rfl,rfl⟩:=hI
    walk_at "pk"
    rw[xp]
    refine ite2 (fun h7=>Qc hc h7) (fun h7=>Z2 hc h7)
   ·obtain⟨rfl,rfl⟩:=hI
    rw[List.take_of_length_le (by simp),hf]
    walk_at "pk"
    by_cases h3:∀c∈figL t.cps.toList,c∈digs
    ·rw[Qd h3]
     refine K3 (ns:=[]) (ms:=[]) ?_
     walk_at "pk"
     obtain⟨i,hi⟩:=xo ⟨ne,h2',h3,g4⟩ (vG ⟨ne,h2',h3,g4⟩ hl.2)
     exact⟨t,i,rfl,vG ⟨ne,h2',h3,g4⟩ hl.2,hi,k1 i ⟨ne,h2',h3,g4⟩ hi⟩
    ·refine⟨_,_,rfl,rfl, .inl ⟨Z3 h3, ?_⟩⟩
     walk_at "pk"
     exact no fun g=>h3 g.2.2.1
 ·refine vy hs ?_
  obtain⟨hf,hfl⟩:=key _ (if_neg hs).symm
  have hlen:=(qO).trans (congrArg List.length hf)
  have no:¬zq t.cps.toList m->Qt T.non:=k2
  walk_at "pk"
  refine ite2 (fun h1=>no fun g=>g.1 (by rw[<-hf,h1]; decide +kernel)) (fun h1=>?_)
  refine⟨Nat.le_trans hfl hz, ?_⟩
  refine ite2 (fun h2=>no fun g=>?_) (fun h2=>?_)
  ·have g2:=g.2.1
   rw[<-hlen] at g2
   omega
  have h2':(((figL t.cps.toList).length:Nat):Int)<=m:=by
   rw[<-hlen]
   omega
  cases e:figL t.cps.toList with
  |nil=>exact absurd (str_ext.mpr (by rw[hf,e]; decide +kernel)) h1
  |cons c r =>
  have hd:(figL t.cps.toList).head?=some c:=by rw[e]; rfl
  have ne:figL t.cps.toList≠[]:=by rw[e]; simp
  refine⟨_,_,c,rfl,rfl,Nat.le_trans hfl hz,by rw[hf,e]; exact at0, ?_⟩
  clear e
  walk_at "pk"
  refine ite2 (fun h4=>?_) (fun h4=>?_)
  ·have c48:=jt h4
   subst c48
   refine⟨hz, ?_⟩
   refine ite2 (fun h5=>no fun g=>g.2.2.2 ⟨hd, ?_⟩) (fun h5=>?_)
   ·rw[<-qO]
    omega
   ·have g4:¬((figL t.cps.toList).head?=some 48/\1<t.cps.toList.length):=fun z=>by
     rw[<-qO] at z
     omega
    walk_at "pk"
    refine vU (Nat.le_trans hfl hz) (fun i acc M=>M=[]/\acc=(((t).cps.toList.take i).filter nod).map one1) ⟨rfl,rfl⟩ (fun i c acc M2 hc hl2 hI=>?_) (fun acc M2 hI=>?_)
    ·obtain⟨rfl,rfl⟩:=hI
     walk_at "pk"
     rw[xp]
     refine ite2 (fun h7=>Qc hc h7) (fun h7=>Z2 hc h7)
    ·obtain⟨rfl,rfl⟩:=hI
     rw[List.take_of_length_le (by simp),hf]
     walk_at "pk"
     by_cases h3:∀c∈figL t.cps.toList,c∈digs
     ·rw[Qd h3]
      refine K3 (ns:=[]) (ms:=[]) ?_
      walk_at "pk"
      obtain⟨i,hi⟩:=xo ⟨ne,h2',h3,g4⟩ (vG ⟨ne,h2',h3,g4⟩ hl.2)
      exact⟨t,i,rfl,vG ⟨ne,h2',h3,g4⟩ hl.2,hi,k1 i ⟨ne,h2',h3,g4⟩ hi⟩
     ·refine⟨_,_,rfl,rfl, .inl ⟨Z3 h3, ?_⟩⟩
      walk_at "pk"
      exact no fun g=>h3 g.2.2.1
  ·have g4:¬((figL t.cps.toList).head?=some 48/\1<t.cps.toList.length):=fun z=>h4 (jF (Option.some.inj (hd.symm.trans z.1)))
   walk_at "pk"
   refine vU (Nat.le_trans hfl hz) (fun i acc M=>M=[]/\acc=(((t).cps.toList.take i).filter nod).map one1) ⟨rfl,rfl⟩ (fun i c acc M2 hc hl2 hI=>?_) (fun acc M2 hI=>?_)
   ·obtain⟨rfl,rfl⟩:=hI
    walk_at "pk"
    rw[xp]
    refine ite2 (fun h7=>Qc hc h7) (fun h7=>Z2 hc h7)
   ·obtain⟨rfl,rfl⟩:=hI
    rw[List.take_of_length_le (by simp),hf]
    walk_at "pk"
    by_cases h3:∀c∈figL t.cps.toList,c∈digs
    ·rw[Qd h3]
     refine K3 (ns:=[]) (ms:=[]) ?_
     walk_at "pk"
     obtain⟨i,hi⟩:=xo ⟨ne,h2',h3,g4⟩ (vG ⟨ne,h2',h3,g4⟩ hl.2)
     exact⟨t,i,rfl,vG ⟨ne,h2',h3,g4⟩ hl.2,hi,k1 i ⟨ne,h2',h3,g4⟩ hi⟩
    ·refine⟨_,_,rfl,rfl, .inl ⟨Z3 h3, ?_⟩⟩
     walk_at "pk"
     exact no fun g=>h3 g.2.2.1
local macro_rules | `(tactic| walk_at "vx") => `(tactic| simp only[zG,jN,zJ,vV,vj,zH,zI,vW,vd,Zv,Zy,uCmpT,uMe0,kT,xH,xK,uInD,Zw,uInK,jw,uCatA])
local macro_rules | `(tactic| walk_at "pk") => `(tactic| (walk_at "v"; repeat ((first|walk_at "vx" |refine vy (by decide) ?_|refine qS rfl ?_); walk_at "v")))
def gAnyN:List U->MM->UK->Prop:=fun us M Q=>∃(k:Nat) (o:MO),us=[.m k]/\M[k]?=some o/\BagO o/\∀(n:Int) (o':MO),n.natAbs<10^60->BagO o'->Q (.p (.int n)) (M.set k o')
theorem any_at {M:MM} {k:Nat} {o:MO} {L:List MO} {Q:UK} (hk:k<M.length) (B:BagO o) (q:∀(n:Int) (o':MO),n.natAbs<10^60->BagO o'->Q (.p (.int n)) (MB M k o' L)):gAnyN [.m k] (MB M k o L) Q :=
 ⟨k,o,rfl,j8 hk,B,fun n o' hn B'=>by rw[zc hk]; exact q n o' hn B'⟩
abbrev vR:Stmt:=top 27
theorem scAnyNumber:FnScope ["bag", "kind", "sign"] ["bag"] (qc vR):=⟨rfl,rfl,rfl,by decide +kernel,rfl,by decide +kernel,by decide +kernel⟩
theorem ka {f:Addr} {fd:FuncData} (F:Fun K "_law_any_number" "_law_any_number" vR f fd) (N:Nms mg) (DDraw:Def P w K mg base "_law_draw" 1 ["bag", "many"] (spU jq)):FnOk P w K mg base CX0 2 f fd ["bag"] (spU gAnyN):=by
 refine F.zV scAnyNumber (fun us M Qu h=>?_) (fun cdv A outer s H E hr=>?_)
 ·obtain⟨_,_,rfl,_⟩:=h
  rfl
 refine⟨_,(qg (qE (i:=1) scAnyNumber.nd rfl (Or.inl rfl) (qw DDraw (hr.mono (by first|decide|exact Nat.le_refl _)) (qa_c (qv 0) (qa_c qe qd))))
  (qg (qE (i:=2) scAnyNumber.nd rfl (Or.inl rfl) (qx Q8 (qx ky (qw DDraw (hr.mono (by first|decide|exact Nat.le_refl _)) (qa_c (qv 0) (qa_c qe qd))) qe) qe))
  (qg (vB (qu VX (qv 1) qe (qD _))
   (qk (qG (qx Q8 (qw DDraw (hr.mono (by first|decide|exact Nat.le_refl _)) (qa_c (qv 0) (qa_c qe qd))) qe)))
   qH)
  (qg (vB (qu VX (qv 1) qe (qD _))
   (qk (qG (qx ky (qv 2) (qx Q8 (qx vn (qx op_shl qe (qw DDraw (hr.mono (by first|decide|exact Nat.le_refl _)) (qa_c (qv 0) (qa_c qe qd)))) (qw DDraw (hr.mono (by first|decide|exact Nat.le_refl _)) (qa_c (qv 0) (qa_c qe qd)))) qe))))
   qH)
  (qk (qG (qx ky (qv 2) (qw DDraw (hr.mono (by first|decide|exact Nat.le_refl _)) (qa_c (qv 0) (qa_c (qY (qt (K:=K) rfl) (vf (qa_c (qx ZY qe qe) (qa_c (qx ZY qe qe) qd))) (qx Q8 (qv 1) qe) (fun _ _=>rfl)) qd)))))))))),_,(ql (qA (qj (qa (qb 0) (qa (ce_c (.int _)) qf))) (qp 1))
   (ql (qA (qm (qP fun _ _=>.int _) (qm (VW fun _ _=>.int _) (qj (qa (qb 0) (qa (ce_c (.int _)) qf))) (ce_c (.int _))) (ce_c (.int _))) (qp 2))
   (ql (vI (qy (qm (qP fun _ _=>.bl _) (qb 1) (ce_c (.int _))))
   (qN (qm (qP fun _ _=>.int _) (qj (qa (qb 0) (qa (ce_c (.int _)) qf))) (ce_c (.int _))))
   qJ)
   (ql (vI (qy (qm (qP fun _ _=>.bl _) (qb 1) (ce_c (.int _))))
   (qN (qm (VW fun _ _=>.int _) (qb 2) (qm (qP fun _ _=>.int _) (qm (qP fun _ _=>.int _) (qm (VW fun _ _=>.int _) (ce_c (.int _)) (qj (qa (qb 0) (qa (ce_c (.int _)) qf)))) (qj (qa (qb 0) (qa (ce_c (.int _)) qf)))) (ce_c (.int _)))))
   qJ)
   (qN (qm (VW fun _ _=>.int _) (qb 2) (qj (qa (qb 0) (qa (vJ (vx (qa (qm (VW fun _ _=>.int _) (ce_c (.int _)) (ce_c (.int _))) (qa (qm (VW fun _ _=>.int _) (ce_c (.int _)) (ce_c (.int _))) qf))) (qm (qP fun _ _=>.int _) (qb 1) (ce_c (.int _)))) qf))))))))),fun us M M1 Qu e1 h=>?_⟩
 obtain⟨k,o,rfl,em,B,q⟩:=h
 obtain⟨hk,eM⟩:=zi em
 rw[eM] at e1
 subst e1
 walk_at "pk"
 refine qI hk B (by decide) (by decide) fun kd o1 k0 k1 B1=>?_
 walk_at "pk"
 refine qI hk B1 (by decide) (by decide) fun d1 o2 d10 d11 B2=>?_
 have hsg:d1*2-1=1\/d1*2-1 = -1:=by omega
 walk_at "pk"
 refine⟨.inl ⟨by omega,by omega⟩, ?_⟩
 walk_at "pk"
 have fin:∀(z:Int) (o':MO) (L:List MO),BagO o'->z.natAbs<10^60->zh M (MB M k o' L)/\Qu (.p (.int z)) (List.take (List.length M) (MB M k o' L)):=fun z o' L B h1=>⟨zW B.pur,by rw[zY]; exact q z o' h1 B⟩
 have sg:∀z:Int,z.natAbs<10^60->((d1*2-1)*z).natAbs<10^60:=fun z hz=>by rcases hsg with e|e<;>rw[e]<;>simpa using hz
 split
 ·refine qI hk B2 (by decide) (by decide) fun d2 o3 d20 d21 B3=>?_
  walk_at "pk"
  exact fin _ _ _ B3 (by omega)
 walk_at "pk"
 split
 ·refine qI hk B2 (by decide) (by decide) fun d2 o3 d20 d21 B3=>?_
  have hp:(2:Int)^d2.toNat<=2^190:=by
   have:=Nat.pow_le_pow_right (n:=2) (show 0<2 by decide) (show d2.toNat<=190 by omega)
   exact_mod_cast this
  have hp0:(0:Int)<2^d2.toNat:=Int.pow_pos (by decide)
  have hv:(2:Int)^190=1569275433846670190958947355801916604025588861116008628224:=by decide +kernel
  rw[hv] at hp
  walk_at "pk"
  refine⟨⟨by omega,by omega,by decide⟩, ?_⟩
  refine qI hk B3 (by decide) (by decide) fun d3 o4 d30 d31 B4=>?_
  walk_at "pk"
  refine⟨?_,fin _ _ _ B4 (sg _ (by omega))⟩
  exact .inl ⟨by omega,by omega⟩
 refine⟨⟨by decide,by decide,by decide⟩,⟨by decide,by decide,by decide⟩, ?_⟩
 obtain⟨t,ht,hm⟩:=Zn (xs:=[T.int (10^Int.toNat 60),T.int (10^Int.toNat 20)]) (j:=kd-4) (by omega) (by show kd-4<2; omega)
 refine zf ht ?_
 obtain⟨n,rfl,hn⟩:∃n:Int,t=.int n/\(0<n/\n.natAbs.log2<9000/\n<=10^60):=by
  simp only[List.mem_cons,List.not_mem_nil,or_false] at hm
  rcases hm with rfl|rfl<;>exact⟨_,rfl,by decide +kernel,by decide +kernel,by decide +kernel⟩
 refine qI hk B2 hn.1 hn.2.1 fun d3 o4 d30 d31 B4=>?_
 have:=hn.2.2
 walk_at "pk"
 exact⟨.inl ⟨by omega,by omega⟩,fin _ _ _ B4 (sg _ (by omega))⟩
theorem kd_seven:∀k:Str,k∈(["none", "no", "yes", "number", "sign", "one", "pair"]:List Str)->KdOk k:=fun k hk=>by
 simp only[List.mem_cons,List.not_mem_nil,or_false] at hk
 rcases hk with rfl|rfl|rfl|rfl|rfl|rfl|rfl<;>exact⟨by decide +kernel,by decide +kernel,by decide +kernel⟩
abbrev XI:Stmt:=top 29
theorem scPart:FnScope ["bag", "letter", "many", "some"] ["bag", "letter", "many"] (qc XI):=⟨rfl,rfl,rfl,by decide +kernel,rfl,by decide +kernel,by decide +kernel⟩
def gPart:List U->MM->UK->Prop:=fun us M Q=>∃(k:Nat) (o:MO) (c:Nat) (many:Int),us=[.m k, .p (.str ⟨#[c]⟩), .p (.int many)]/\M[k]?=some o/\BagO o/\okC c=true/\1<=many/\many<=60/\∀(t:T) (o':MO),PartOk c t->BagO o'->Q (.p t) (M.set k o')
theorem Kc {f:Addr} {fd:FuncData} (F:Fun K "_law_part" "_law_part" XI f fd) (N:Nms mg) (DDraw:Def P w K mg base "_law_draw" 1 ["bag", "many"] (spU jq)) (DAnyNumber:Def P w K mg base "_law_any_number" 2 ["bag"] (spU gAnyN)):FnOk P w K mg base CX0 3 f fd ["bag", "letter", "many"] (spU gPart):=by
 refine F.zV scPart (fun us M Qu h=>?_) (fun cdv A outer s H E hr=>?_)
 ·obtain⟨_,_,_,_,rfl,_⟩:=h
  rfl
 refine⟨_,(qg (vB (qu J8 (qv 1) qo (by with_unfolding_all rfl))
   (qk (qG (qw DDraw (hr.mono (by first|decide|exact Nat.le_refl _)) (qa_c (qv 0) (qa_c (JU (hu_of hr) (qe_disp (kY qo qe (kY qo (qv 2) (kY qo qe qps_nil))) rfl rfl (fun z=>nomatch z) (by decide)) (qv 1) (fun _ _=>rfl)) qd)))))
   qH)
  (qg (vB (qu v5 (qv 1) qo (qD _))
   (qk (qG (qw DAnyNumber (hr.mono (by first|decide|exact Nat.le_refl _)) (qa_c (qv 0) qd))))
   qH)
  (qg (qE (i:=3) scPart.nd rfl (Or.inl rfl) (jE (qu v5 (qv 1) qo (qD _)) (vf (qa_c qo (qa_c qo (qa_c qo qd)))) (vf (qa_c qo (qa_c qo (qa_c qo (qa_c qo qd)))))))
  (qk (qG (qY (qt (K:=K) rfl) (qv 3) (qw DDraw (hr.mono (by first|decide|exact Nat.le_refl _)) (qa_c (qv 0) (qa_c (qr v9 (by rfl) N.len zz (qa_c (qv 3) qd)) qd))) (fun _ _=>rfl))))))),_,(ql (vI (qy (qm jR (qb 1) (ce_c (.str _))))
   (qN (qj (qa (qb 0) (qa (Ym (ce_disp (Zi (ce_c (.str _)) (ce_c (.int _)) (Zi (ce_c (.str _)) (qb 2) (Zi (ce_c (.str _)) (ce_c (.int _)) cp_nil)))) (qb 1)) qf))))
   qJ)
   (ql (vI (qy (qm vm (qb 1) (ce_c (.str _))))
   (qN (qj (qa (qb 0) qf)))
   qJ)
   (ql (qA (ce_if (qy (qm vm (qb 1) (ce_c (.str _)))) (vx (qa (ce_c (.str _)) (qa (ce_c (.str _)) (qa (ce_c (.str _)) qf)))) (vx (qa (ce_c (.str _)) (qa (ce_c (.str _)) (qa (ce_c (.str _)) (qa (ce_c (.str _)) qf)))))) (qp 3))
   (qN (vJ (qb 3) (qj (qa (qb 0) (qa (kC (qa (qb 3) qf)) qf)))))))),fun us M M1 Qu e1 h=>?_⟩
 obtain⟨k,o,c,many,rfl,em,B,oc,m1,m2,q⟩:=h
 obtain⟨hk,eM⟩:=zi em
 rw[eM] at e1
 subst e1
 walk_at "pk"
 have fin:∀(z:T) (o':MO) (L:List MO),BagO o'->PartOk c z->zh M (MB M k o' L)/\Qu (.p z) (List.take (List.length M) (MB M k o' L)):=fun z o' L B h1=>⟨zW B.pur,by rw[zY]; exact q z o' h1 B⟩
 have e3:("rtk" : Str).cps.toList=[114,116,107]:=by decide +kernel
 have sk:∀{a b:Nat},(⟨#[a]⟩:Str)=⟨#[b]⟩->a=b:=fun h=>by injection h with h; injection h with h; injection h
 split
 ·rename_i hc
  rw[e3] at hc
  have hi:∀i:Int,0<=i->i<1000->PartOk c (.int i):=fun i h0 h1=>by
   unfold PartOk
   rw[if_neg (by rintro(rfl|rfl)<;>simp at hc)]
   exact⟨i,rfl,by omega⟩
  simp only[uDisp]
  walk_at "pk"
  refine⟨[(.inr "r", .p (.int 8)),(.inr "t", .p (.int many)),(.inr "k", .p (.int 128))],rfl,by show 3<=15; decide, ?_⟩
  have r1:(⟨#[114]⟩:Str) = "r" := by decide +kernel
  have r2:(⟨#[116]⟩:Str) = "t" := by decide +kernel
  have r3:(⟨#[107]⟩:Str) = "k" := by decide +kernel
  have hv:∃n:Int,1<=n/\n<1000/\valU (Vg [] [(.inr "r", .p (.int 8)),(.inr "t", .p (.int many)),(.inr "k", .p (.int 128))]) (.inr (⟨#[c]⟩:Str))=some (U.p (.int n)):=by
   simp only[List.mem_cons,List.not_mem_nil,or_false] at hc
   rcases hc with rfl|rfl|rfl
   ·exact⟨8,by decide,by decide,by rw[r1]; rfl⟩
   ·exact⟨many,by omega,by omega,by rw[r2]; rfl⟩
   ·exact⟨128,by decide,by decide,by rw[r3]; rfl⟩
  obtain⟨n,n1,n2,hv⟩:=hv
  refine Xf (zZ rfl) hv ?_
  walk_at "pk"
  refine qI hk B (by omega) (by have:=Nat.lt_log2_self (n:=n.natAbs); exact Nat.lt_of_le_of_lt (Nat.log2_le_self _) (by omega)) fun d o1 d0 d1 B1=>?_
  walk_at "pk"
  exact fin _ _ _ B1 (hi _ d0 (by omega))
 rename_i hc
 rw[e3] at hc
 have en:("n" : Str)=⟨#[110]⟩:=by decide +kernel
 have oc':c=114\/c=110\/c=107\/c=111\/c=119\/c=116:=by simpa[okC] using oc
 have hc':c≠114/\c≠116/\c≠107:=by simpa using hc
 walk_at "pk"
 rw[en]
 split
 ·rename_i hn
  have hn:=sk hn
  refine any_at hk B fun n o1 hn1 B1=>?_
  walk_at "pk"
  refine fin _ _ _ B1 ?_
  unfold PartOk
  rw[if_neg (by omega)]
  exact⟨n,rfl,hn1⟩
 rename_i hn
 have hn:c≠110:=fun z=>hn (by rw[z])
 have hp:∀z:Str,z∈(["none", "no", "yes", "number", "sign", "one", "pair"]:List Str)->PartOk c (.str z):=fun z hz=>by
  unfold PartOk
  rw[if_pos (by omega)]
  exact⟨z,rfl,kd_seven z hz⟩
 walk_at "pk"
 split
 ·walk_at "pk"
  refine qI hk B (by decide) (by decide) fun d o1 d0 d1 B1=>?_
  walk_at "pk"
  obtain⟨t,ht,hm⟩:=Zn (xs:=([.str "none", .str "no", .str "yes"]:List T)) d0 (by simpa using d1)
  refine zf ht ?_
  walk_at "pk"
  simp only[List.mem_cons,List.not_mem_nil,or_false] at hm
  rcases hm with rfl|rfl|rfl<;>exact fin _ _ _ B1 (hp _ (by simp))
 ·walk_at "pk"
  refine qI hk B (by decide) (by decide) fun d o1 d0 d1 B1=>?_
  walk_at "pk"
  obtain⟨t,ht,hm⟩:=Zn (xs:=([.str "number", .str "sign", .str "one", .str "pair"]:List T)) d0 (by simpa using d1)
  refine zf ht ?_
  walk_at "pk"
  simp only[List.mem_cons,List.not_mem_nil,or_false] at hm
  rcases hm with rfl|rfl|rfl|rfl<;>exact fin _ _ _ B1 (hp _ (by simp))
theorem part_at {M:MM} {k:Nat} {o:MO} {L:List MO} {c:Nat} {many:Int} {Q:UK} (hk:k<M.length) (B:BagO o) (oc:okC c=true) (m1:1<=many) (m2:many<=60) (q:∀(t:T) (o':MO),PartOk c t->BagO o'->Q (.p t) (MB M k o' L)):gPart [.m k, .p (.str ⟨#[c]⟩), .p (.int many)] (MB M k o L) Q :=
 ⟨k,o,c,many,rfl,j8 hk,B,oc,m1,m2,fun n o' hn B'=>by rw[zc hk]; exact q n o' hn B'⟩
theorem Z8 {w l:Str} (h:lettersL.lookup w=some l):valU vp (.inr w)=some (.p (.str l)):=by
 have key:∀{L:List (Str×Str)},L.lookup w=some l->valU (L.map fun x=>((.inr x.1:Key),U.p (.str x.2))) (.inr w)=some (.p (.str l)):=fun {L} h=>by
  induction L with
  |nil=>cases h
  |cons a L ih =>
   obtain⟨a1,a2⟩:=a
   rw[List.lookup_cons] at h
   unfold valU at ih ⊢
   cases e:w==a1 with
   |true =>
    rw[e] at h
    cases h
    rw[List.map_cons,List.find?_cons_of_pos (by simp[eq_of_beq e])]
    rfl
   |false =>
    rw[e] at h
    rw[List.map_cons,List.find?_cons_of_neg (by simp; exact fun z=>by rw[z] at e; simp at e)]
    exact ih h
 exact key h
abbrev xY:Stmt:=top 30
theorem scAnyRow:FnScope ["bag", "word", "many"] ["bag", "word", "many"] (qc xY):=⟨rfl,rfl,rfl,by decide +kernel,rfl,by decide +kernel,by decide +kernel⟩
theorem Kl:(["bag", "word", "many", "letter"]:List Str).Nodup:=by decide +kernel
def Qn:List U->MM->UK->Prop:=fun us M Q=>∃(k:Nat) (o:MO) (w l:Str) (many:Int),us=[.m k, .p (.str w), .p (.int many)]/\M[k]?=some o/\BagO o/\lettersL.lookup w=some l/\1<=many/\many<=60/\∀(r:Rw) (o':MO),RowOk r l->BagO o'->Q (.p (rowT r)) (M.set k o')
theorem V0 {f:Addr} {fd:FuncData} (F:Fun K "_law_any_row" "_law_any_row" xY f fd) (N:Nms mg) (DLetters:Def P w K mg base "_law_letters" 1 [] (spU v7)) (DPart:Def P w K mg base "_law_part" 3 ["bag", "letter", "many"] (spU gPart)):FnOk P w K mg base CX0 4 f fd ["bag", "word", "many"] (spU Qn):=by
 refine F.zV scAnyRow (fun us M Qu h=>?_) (fun cdv A outer s H E hr=>?_)
 ·obtain⟨_,_,_,_,_,rfl,_⟩:=h
  rfl
 refine⟨_,(qk (qG (vk xU (by rfl) N.tuple Qz (qa_c (qx zM (vf (qa_c (qv 1) qd)) (Q6 [true,false,true] ["letter"] (ZR (JU (hu_of hr) (kZ DLetters (hr.mono (by first|decide|exact Nat.le_refl _))) (qv 1) (fun _ _=>rfl))) (fun _ _ _=>(vg (i:=3) Kl rfl (Or.inl rfl))) (fun _ _ _=>vL) (fun _ _ _=>(qw DPart (hr.mono (by first|decide|exact Nat.le_refl _)) (qa_c (qv 0) (qa_c (qv 3) (qa_c (qv 2) qd))))))) qd)))),_,(qN (xG Vv (qa (qm v3 (vx (qa (qb 1) qf)) (zx (Xk (Ym (qj qf) (qb 1))) (vq 3) xz (qj (qa (qb 0) (qa (qb 3) (qa (qb 2) qf)))))) qf))),fun us M M1 Qu e1 h=>?_⟩
 obtain⟨k,o,w,l,many,rfl,em,B,el,m1,m2,q⟩:=h
 obtain⟨hk,eM⟩:=zi em
 rw[eM] at e1
 subst e1
 have hf:=zg el
 walk_at "pk"
 refine V3 ?_
 walk_at "pk"
 refine Xf (zZ rfl) (Z8 el) ?_
 walk_at "pk"
 refine vU (Nat.le_of_lt (qC (by omega))) (fun i acc M2=>∃o',BagO o'/\M2=MB M k o' [MO.dK vp]/\acc.length=i/\∀(j:Nat) c t,l.cps.toList[j]?=some c->acc[j]?=some t->PartOk c t) ⟨o,B,rfl,rfl,fun j c t _ h=>by simp at h⟩ (fun i c acc M2 hc _ h=>?_) (fun acc M2 h=>?_)
 ·obtain⟨o1,B1,rfl,hl,hp⟩:=h
  walk_at "pk"
  refine part_at hk B1 (hf.2.1 c (List.mem_of_getElem? hc)) m1 m2 fun t o2 ht B2=>?_
  walk_at "pk"
  refine⟨o2,B2,rfl,by simp[hl],fun j c' t' hc' ht'=>?_⟩
  rcases Nat.lt_or_ge j acc.length with h|h
  ·rw[List.getElem?_append_left h] at ht'
   exact hp j c' t' hc' ht'
  ·rw[List.getElem?_append_right h] at ht'
   have:j=i:=by
    have:=(List.getElem?_eq_some_iff.mp ht').1
    simp at this
    omega
   subst this
   rw[hc] at hc'
   cases hc'
   rw[hl,Nat.sub_self] at ht'
   cases ht'
   exact ht
 ·obtain⟨o1,B1,rfl,hl,hp⟩:=h
  walk_at "pk"
  refine⟨Nat.le_of_lt (qC (by omega)),_,rfl,zW B1.pur, ?_⟩
  rw[zY]
  exact q ⟨w,acc⟩ o1 ⟨el,by simpa using hl,hp⟩ B1
theorem row_at {M:MM} {k:Nat} {o:MO} {L:List MO} {w l:Str} {many:Int} {Q:UK} (hk:k<M.length) (B:BagO o) (el:lettersL.lookup w=some l) (m1:1<=many) (m2:many<=60) (q:∀(r:Rw) (o':MO),RowOk r l->BagO o'->Q (.p (rowT r)) (MB M k o' L)):Qn [.m k, .p (.str w), .p (.int many)] (MB M k o L) Q :=
 ⟨k,o,w,l,many,rfl,j8 hk,B,el,m1,m2,fun n o' hn B'=>by rw[zc hk]; exact q n o' hn B'⟩
theorem words_at {d:Int} (h0:0<=d) (h1:d<20):∃w l,atI (wordsL.map T.str) d=some (.str w)/\lettersL.lookup w=some l:=by
 obtain⟨t,ht,hm⟩:=Zn (xs:=wordsL.map T.str) h0 h1
 obtain⟨w,hw,rfl⟩:=List.mem_map.mp hm
 have key:∀w∈wordsL,(lettersL.lookup w).isSome=true:=by decide +kernel
 obtain⟨l,hl⟩:=Option.isSome_iff_exists.mp (key w hw)
 exact⟨w,l,ht,hl⟩
abbrev vQ:Stmt:=top 31
theorem scAnyScript:FnScope ["bag", "many", "words", "rows"] ["bag"] (qc vQ):=⟨rfl,rfl,rfl,by decide +kernel,rfl,by decide +kernel,by decide +kernel⟩
theorem Vf:(["bag", "many", "words", "rows", "k"]:List Str).Nodup:=by decide +kernel
def Qm:List U->MM->UK->Prop:=fun us M Q=>∃(k:Nat) (o:MO),us=[.m k]/\M[k]?=some o/\BagO o/\∀(rs:List Rw) (o':MO),VF rs->rs≠[]->rs.length<=60->BagO o'->Q (.p (.lst (rs.map rowT))) (M.set k o')
theorem j9 {f:Addr} {fd:FuncData} (F:Fun K "_law_any_script" "_law_any_script" vQ f fd) (N:Nms mg) (DDraw:Def P w K mg base "_law_draw" 1 ["bag", "many"] (spU jq)) (DLetters:Def P w K mg base "_law_letters" 1 [] (spU v7)) (DAnyRow:Def P w K mg base "_law_any_row" 4 ["bag", "word", "many"] (spU Qn)):FnOk P w K mg base CX0 5 f fd ["bag"] (spU Qm):=by
 refine F.zV scAnyScript (fun us M Qu h=>?_) (fun cdv A outer s H E hr=>?_)
 ·obtain⟨_,_,rfl,_⟩:=h
  rfl
 refine⟨_,(qg (qE (i:=1) scAnyScript.nd rfl (Or.inr rfl) (qY (qt (K:=K) rfl) (vf (qa_c (qx vn qe (qw DDraw (hr.mono (by first|decide|exact Nat.le_refl _)) (qa_c (qv 0) (qa_c qe qd)))) (qa_c (qx vn qe (qw DDraw (hr.mono (by first|decide|exact Nat.le_refl _)) (qa_c (qv 0) (qa_c qe qd)))) (qa_c qe qd)))) (qw DDraw (hr.mono (by first|decide|exact Nat.le_refl _)) (qa_c (qv 0) (qa_c qe qd))) (fun _ _=>rfl)))
  (qg (qE (i:=2) scAnyScript.nd rfl (Or.inr rfl) (vk (kE rfl) (by rfl) N.list kF (qa_c (kZ DLetters (hr.mono (by first|decide|exact Nat.le_refl _))) qd)))
  (qg (qs_lc (i:=3) [true,true,true,false] ["k"] scAnyScript.nd rfl rfl (zK rfl N.range (qa_c (qx Q8 (qv 1) qe) qd)) (fun _ _ _=>(vg (i:=4) Vf rfl (Or.inl rfl))) (fun _ _ _=>vL) (fun _ _ _=>(qw DAnyRow (hr.mono (by first|decide|exact Nat.le_refl _)) (qa_c (qv 0) (qa_c (qY (qt (K:=K) rfl) (qv 2) (qw DDraw (hr.mono (by first|decide|exact Nat.le_refl _)) (qa_c (qv 0) (qa_c qe qd))) (fun _ _=>rfl)) (qa_c (qv 1) qd))))))
  (qk (qG (qx zM (qv 3) (vf (qa_c (qw DAnyRow (hr.mono (by first|decide|exact Nat.le_refl _)) (qa_c (qv 0) (qa_c (qY (qt (K:=K) rfl) (vf (qa_c qo (qa_c qo qd))) (qw DDraw (hr.mono (by first|decide|exact Nat.le_refl _)) (qa_c (qv 0) (qa_c qe qd))) (fun _ _=>rfl)) (qa_c (qv 1) qd)))) qd)))))))),_,(ql (qA (vJ (vx (qa (qm (qP fun _ _=>.int _) (ce_c (.int _)) (qj (qa (qb 0) (qa (ce_c (.int _)) qf)))) (qa (qm (qP fun _ _=>.int _) (ce_c (.int _)) (qj (qa (qb 0) (qa (ce_c (.int _)) qf)))) (qa (ce_c (.int _)) qf)))) (qj (qa (qb 0) (qa (ce_c (.int _)) qf)))) (qp 1))
   (ql (qA (Xm (qa (qj qf) qf)) (qp 2))
   (ql (qA (zx (Qw (qa (qm (qP fun _ _=>.int _) (qb 1) (ce_c (.int _))) qf)) (vq 4) xz (qj (qa (qb 0) (qa (vJ (qb 2) (qj (qa (qb 0) (qa (ce_c (.int _)) qf)))) (qa (qb 1) qf))))) (qp 3))
   (qN (qm v3 (qb 3) (vx (qa (qj (qa (qb 0) (qa (vJ (vx (qa (ce_c (.str _)) (qa (ce_c (.str _)) qf))) (qj (qa (qb 0) (qa (ce_c (.int _)) qf)))) (qa (qb 1) qf)))) qf))))))),fun us M M1 Qu e1 h=>?_⟩
 obtain⟨k,o,rfl,em,B,q⟩:=h
 obtain⟨hk,eM⟩:=zi em
 rw[eM] at e1
 subst e1
 walk_at "pk"
 refine qI hk B (by decide) (by decide) fun d1 o1 d10 d11 B1=>?_
 walk_at "pk"
 refine qI hk B1 (by decide) (by decide) fun d2 o2 d20 d21 B2=>?_
 walk_at "pk"
 refine qI hk B2 (by decide) (by decide) fun d3 o3 d30 d31 B3=>?_
 walk_at "pk"
 obtain⟨t,ht,hm⟩:=Zn (xs:=[T.int (1+d1),T.int (1+d2),T.int 60]) d30 (by simpa using d31)
 refine zf ht ?_
 obtain⟨many,rfl,m1,m2⟩:∃n:Int,t=.int n/\1<=n/\n<=60:=by
  simp only[List.mem_cons,List.not_mem_nil,or_false] at hm
  rcases hm with rfl|rfl|rfl
  ·exact⟨_,rfl,by omega,by omega⟩
  ·exact⟨_,rfl,by omega,by omega⟩
  ·exact⟨_,rfl,by omega,by omega⟩
 walk_at "pk"
 refine V3 ?_
 walk_at "pk"
 refine lsd_at (i:=0) rfl ?_
 walk_at "pk"
 refine ZK (by omega) (by omega) ?_
 refine QJ (Nat.le_of_lt (qC (by omega))) (fun i acc M2=>∃o' rs,BagO o'/\M2=MB M k o' [MO.dK vp]/\rs.length=i/\VF rs/\acc=rs.map rowT) ⟨o3, [],B3,rfl,rfl,fun r h=>by simp at h,rfl⟩ ?_ ?_
 ·rintro i acc M2 hi _ ⟨o4,rs,B4,rfl,hl,hrs,rfl⟩
  walk_at "pk"
  refine qI hk B4 (by decide) (by decide) fun d o5 d0 d1 B5=>?_
  walk_at "pk"
  obtain⟨w,l,hw,el⟩:=words_at d0 d1
  refine zf hw ?_
  walk_at "pk"
  refine row_at hk B5 el m1 m2 fun r o6 hr B6=>?_
  walk_at "pk"
  refine⟨o6,rs++[r],B6,rfl,by simp[hl],fun x hx=>?_,by simp⟩
  rcases List.mem_append.mp hx with z|z
  ·exact hrs x z
  ·rw[List.mem_singleton.mp z]; exact⟨l,hr⟩
 rintro acc M2 ⟨o4,rs,B4,rfl,hl,hrs,rfl⟩
 walk_at "pk"
 refine qI hk B4 (by decide) (by decide) fun d o5 d0 d1 B5=>?_
 walk_at "pk"
 obtain⟨t,ht,hm⟩:=Zn (xs:=([.str "end", .str "jump"]:List T)) d0 (by simpa using d1)
 refine zf ht ?_
 obtain⟨w,l,rfl,el⟩:∃w l:Str,t=.str w/\lettersL.lookup w=some l:=by
  simp only[List.mem_cons,List.not_mem_nil,or_false] at hm
  rcases hm with rfl|rfl
  ·exact⟨_, "", rfl,by decide +kernel⟩
  ·exact⟨_, "t", rfl,by decide +kernel⟩
 walk_at "pk"
 refine row_at hk B5 el m1 m2 fun r o6 hr B6=>?_
 walk_at "pk"
 refine⟨Nat.le_of_lt (qC (by simp; omega)),zW B6.pur, ?_⟩
 rw[zY]
 have:=q (rs++[r]) o6 (fun x hx=>by
  rcases List.mem_append.mp hx with z|z
  ·exact hrs x z
  ·rw[List.mem_singleton.mp z]; exact⟨l,hr⟩) (by simp) (by simp; omega) B6
 simpa using this
local macro_rules | `(tactic| walk_at "vx") => `(tactic| simp only[jf,xI,kK,xJ,zA,uTry,ze,je,QL,QN,endX,uAsG,ji,zG,jN,zJ,vV,vj,zH,zI,vW,vd,xI,ze,uIfX,uOpX,uCbX,kb,XA,uX0,kc,xH,xK,uInD,uInK,kL,uZipS,QM])
local macro_rules | `(tactic| walk_at "pk") => `(tactic| (walk_at "v"; repeat ((first|walk_at "vx" |refine vy (by decide) ?_|refine qS rfl ?_); walk_at "v")))
theorem Ky {w:Str} (h:lettersL.lookup w=none):valU vp (.inr w)=none:=by
 have key:∀{L:List (Str×Str)},L.lookup w=none->valU (L.map fun x=>((.inr x.1:Key),U.p (.str x.2))) (.inr w)=none:=fun {L} h=>by
  induction L with
  |nil=>rfl
  |cons a L ih =>
   obtain⟨a1,a2⟩:=a
   rw[List.lookup_cons] at h
   unfold valU at ih ⊢
   cases e:w==a1 with
   |true=>rw[e] at h; cases h
   |false =>
    rw[e] at h
    rw[List.map_cons,List.find?_cons_of_neg (by simp; exact fun z=>by rw[z] at e; simp at e)]
    exact ih h
 exact key h
def nol (c:Nat):Bool:=!decide (c∈vF)
theorem nol_take {l:List Nat} {i c:Nat} (h:l[i]?=some c):((l.take (i+1)).filter nol).map one1=((l.take i).filter nol).map one1++(if nol c then[one1 c] else[]):=by
 rw[List.take_add_one,h]
 simp only[Option.toList,List.filter_append,List.map_append]
 congr 1
 cases e:nol c<;>simp[List.filter,e]
theorem nol_nil {l:List Nat} (h:∀c∈l,c∈vF):(l.filter nol).map one1=[]:=by
 rw[List.filter_eq_nil_iff.mpr fun c hc=>by simp[nol,h c hc]]
 rfl
theorem nol_ne {l:List Nat} (h:¬ ∀c∈l,c∈vF):((l.filter nol).map one1).length≠([]:List T).length:=fun z=>h fun c hc=>by
 have e:l.filter nol=[]:=by simpa using z
 have:=List.filter_eq_nil_iff.mp e c hc
 simpa[nol] using this
def V60 (x:Str) (v:T):Prop:=(∃i,zq x.cps.toList 60/\PySem.intText? x=some i/\v=.int i)\/(¬zq x.cps.toList 60/\v=.non)
theorem val_at {x:Str} {Q:T->Prop} (hl:x.length<=1000000) (q:∀v,V60 x v->Q v):Qj [.str x, .int 60] Q:=⟨x,60,rfl,⟨hl,by decide⟩,fun i g hi=>q _ (.inl ⟨i,g,hi,rfl⟩),fun g=>q _ (.inr ⟨g,rfl⟩)⟩
abbrev ki:Stmt:=top 37
theorem scRowOf:FnScope ["line", "words", "letters", "row", "text", "letter", "part", "others"] ["line"] (qc ki):=⟨rfl,rfl,rfl,by decide +kernel,rfl,by decide +kernel,by decide +kernel⟩
theorem ndRowOf1:(["line", "words", "letters", "row", "text", "letter", "part", "others", "sign"]:List Str).Nodup:=by decide +kernel
def KW:List T->(T->Prop)->Prop:=fun ts Q=>∃t:Str,ts=[.str t]/\t.length<=900000/\(∀r,rowR t=some r->Q (rowT r))/\(rowR t=none->Q .non)
theorem ok_rowOf {f:Addr} {fd:FuncData} (F:Fun K "_law_row_of" "_law_row_of" ki f fd) (N:Nms mg) (DLetters:Def P w K mg base "_law_letters" 1 [] (spU v7)) (DValue:Def P w K mg base "_law_value" 1 ["text", "most"] (spP Qj)):FnOk P w K mg base CX0 2 f fd ["line"] (spP KW):=by
 refine F.zP scRowOf (fun ts Qt h=>?_) (fun cdv A outer s H E hr=>?_)
 ·obtain⟨_,rfl,_⟩:=h
  rfl
 refine⟨_,(qg (qE (i:=1) scRowOf.nd rfl (Or.inl rfl) (jo PySem.F.plainAttrs_str PySem.F.slot_str_split PySem.F.type_str_split xk (qv 0) (qa_c qo qd)))
  (qg (qE (i:=2) scRowOf.nd rfl (Or.inl rfl) (qe_dget1 (hu_of hr) (kZ DLetters (hr.mono (by first|decide|exact Nat.le_refl _))) (qY (qt (K:=K) rfl) (qv 1) qe (fun _ _=>rfl)) ⟨rfl,rfl,rfl,rfl⟩))
  (qg (vB (jO (Q5 (qu J5 (qv 2) xy (qD _)) (jP (qu XO (qr v9 (by rfl) N.len zz (qa_c (qv 1) qd)) (qx vn (qr v8 (by rfl) N.len zz (qa_c (qv 2) qd)) qe) (qD _)))))
   (qk (qG xy))
   qH)
  (qg (qE (i:=3) scRowOf.nd rfl (Or.inl rfl) (kq (qa_c (qY (qt (K:=K) rfl) (qv 1) qe (fun _ _=>rfl)) qd)))
  (qg (ZQ PassesOwn.never rfl (qi_zipS (b1:=true) (K:=K) rfl rfl N.zip (qa_c (qK (ve (K:=K) rfl) (qv 1) (qQ qe) qR) (qa_c (qv 2) qd))) (qg_t2K (K:=K) (i:=4) (j:=5) rfl scRowOf.nd rfl rfl rfl (Or.inl rfl) (Or.inl rfl) (Or.inl rfl) (Or.inl rfl))
   (qg (qE (i:=6) scRowOf.nd rfl (Or.inl rfl) (qw DValue (hr.mono (by first|decide|exact Nat.le_refl _)) (qa_c (qv 4) (qa_c qe qd))))
   (qg (vB (qu J8 (qv 5) qo (by with_unfolding_all rfl))
    (qg (qs_lc (i:=7) [false,false,false,false,false,false,false,false] ["sign"] scRowOf.nd rfl rfl (ZR (qv 4)) (fun _ _ _=>(vg (i:=8) ndRowOf1 rfl (Or.inl rfl))) (fun _ _ _=>JQ (qu Va (qv 8) qo (by with_unfolding_all rfl))) (fun _ _ _=>(qv 8)))
    (qk (qE (i:=6) scRowOf.nd rfl (Or.inl rfl) (jE (jO (ZN (qu (VY (K:=K) rfl hr.units) (qv 7) (vf qd) (qD _)) (kW (kX VX VX qe (qr v8 (by rfl) N.len zz (qa_c (qv 4) qd)) qe)))) (qv 4) xy))))
    qH)
   (qg (vB (qu J5 (qv 6) xy (qD _))
    (qk (qG xy))
    qH)
   (qk (qE (i:=3) scRowOf.nd rfl (Or.inl rfl) (qx (op_catTK (K:=K) rfl) (qv 3) (kq (qa_c (qv 6) qd)))))))))
  (qk (qG (qv 3)))))))),_,(ql (qA (jr zN (qb 0) (qa (ce_c (.str _)) qf)) (qp 1))
   (ql (qA (ce_dget1 (qj qf) (vJ (qb 1) (ce_c (.int _)))) (qp 2))
   (ql (vI (X4 (qy (Yl (qb 2))) (qy (qm opl_ne (kC (qa (qb 1) qf)) (qm (qP fun _ _=>.int _) (xG zy (qa (qb 2) qf)) (ce_c (.int _))))))
   (qN (ce_c .non))
   qJ)
   (ql (qA (ce_tup (qa (vJ (qb 1) (ce_c (.int _))) qf)) (qp 3))
   (ql (Ye (ci_zipS (qa (j6 (qb 1) (va (ce_c (.int _))) vb) (qa (qb 2) qf))) (cg_name2 4 5)
   (ql (qA (vO (qa (qb 4) (qa (ce_c (.int _)) qf))) (qp 6))
   (ql (vI (qy (qm jR (qb 5) (ce_c (.str _))))
   (ql (qA (zx (Xk (qb 4)) (vq 8) (qy (qm jR (qb 8) (ce_c (.str _)))) (qb 8)) (qp 7))
   (qA (ce_if (Yd (qy (qm VU (qb 7) (vx qf))) (qy (Qy (qP fun _ _=>.bl _) (qP fun _ _=>.bl _) (ce_c (.int _)) (xG zy (qa (qb 4) qf)) (ce_c (.int _))))) (qb 4) (ce_c .non)) (qp 6)))
   qJ)
   (ql (vI (qy (Yl (qb 6)))
   (qN (ce_c .non))
   qJ)
   (qA (qm opl_catT (qb 3) (ce_tup (qa (qb 6) qf))) (qp 3))))))
   (qN (qb 3))))))),fun ts Qt h=>?_⟩
 obtain⟨t,rfl,hl,k1,k2⟩:=h
 have hne:Txt.split t ⟨#[32]⟩≠[]:=jv
 have hsm:∀x∈Txt.split t ⟨#[32]⟩,x.length<=1000000:=fun x hx=>Nat.le_trans (zt hx) (by omega)
 have hfw:=zE (x:=t) (c:=32)
 unfold rowR at k1 k2
 walk_at "pk"
 cases ez:Txt.split t ⟨#[32]⟩ with
 |nil=>exact absurd ez hne
 |cons z zs =>
 rw[ez] at k1 k2 hsm hfw
 refine⟨32,z::zs,by rw[sp_is],ez,Nat.le_trans (m:=1000000) (by omega) (by decide), ?_⟩
 dsimp only at k1 k2
 walk_at "pk"
 refine⟨rfl, ?_⟩
 refine⟨_,_,rfl,rfl, ?_⟩
 walk_at "pk"
 refine⟨_, .inr z,rfl,rfl, ?_⟩
 cases e:lettersL.lookup z with
 |none =>
  rw[e] at k1 k2
  rw[Ky e]
  walk_at "pk"
  exact k2 rfl
 |some l =>
  rw[e] at k1 k2
  dsimp only at k1 k2
  rw[Z8 e]
  simp only[Option.getD_some]
  walk_at "pk"
  have hc:=Kx e
  have h3:l.length<=3:=by have:=(zg e).2.2.1; exact this
  have hll:l.cps.toList.length=l.length:=by simp[Str.length]
  refine⟨Nat.le_trans h3 (by decide), ?_⟩
  walk_at "pk"
  by_cases hn:zs.length=l.cps.toList.length
  rotate_left
  ·rw[if_neg hn] at k1 k2
   exact qS (by rw[List.length_map,decide_eq_false (by omega)]; rfl) (k2 rfl)
  rw[if_pos hn] at k1 k2
  refine vy (by rw[List.length_map,decide_eq_true (by omega)]; decide) ?_
  walk_at "pk"
  rw[cut1]
  refine⟨_,l,zs.map T.str,rfl,rfl, ?_⟩
  have hlen:min (zs.map T.str).length l.cps.size=zs.length:=by rw[List.length_map,show l.cps.size=l.length from rfl]; omega
  refine⟨fun i ρ M=>M=[MO.dK vp]/\∃acc x4 x5 x6 x7,ρ=[some (U.p (T.str t)),some (U.p (T.lst (T.str z::zs.map T.str))),some (U.p (T.str l)),some (U.p (.tup (.str z::acc))),x4,x5,x6,x7]/\qT (l.cps.toList.take i) (zs.take i)=some acc,⟨rfl, [],_,_,_,_,rfl,rfl⟩, ?_, ?_⟩
  ·rintro i ρ M hi ⟨rfl,acc,x4,x5,x6,x7,rfl,hp⟩
   refine⟨rfl, ?_⟩
   rintro u ⟨t',c,h1,hc1,rfl⟩
   obtain⟨x,hx1,rfl⟩:=xE h1
   have hxl:=hsm x (List.mem_cons_of_mem _ (List.mem_of_getElem? hx1))
   have hoc:=hc.1 c (List.mem_of_getElem? hc1)
   walk_at "pk"
   have eow:("ow" : Str).cps.toList=[111,119]:=by decide +kernel
   have hal:=xi hp
   have hacc:acc.length<=3:=by rw[List.length_take] at hal; omega
   have cow:(c∈("ow" : Str).cps.toList)=(c=111\/c=119):=by rw[eow]; simp
   have no:vN c x=none->Qt T.non:=fun h=>k2 (by rw[jQ (i:=i) hc1 hx1 h]; rfl)
   refine val_at hxl fun v hv=>?_
   walk_at "pk"
   by_cases hcc:c=111\/c=119
   ·refine qS (cow▸hcc) ?_
    walk_at "pk"
    refine vU (Nat.le_trans hxl (by decide)) (fun i acc M=>M=[MO.dK vp]/\acc=((x.cps.toList.take i).filter nol).map one1) ⟨rfl,rfl⟩ (fun i c acc M2 hc hl2 hI=>?_) (fun acc2 M2 hI=>?_)
    ·obtain⟨rfl,rfl⟩:=hI
     walk_at "pk"
     rw[Z9,nol_take hc]
     by_cases h7:c∈vF
     ·rw[decide_eq_true h7]
      refine vy (by decide) ?_
      simp[nol,h7]
     ·rw[decide_eq_false h7]
      refine qS rfl ?_
      simp[nol,h7,one1]
    obtain⟨rfl,rfl⟩:=hI
    rw[List.take_of_length_le (by simp)]
    walk_at "pk"
    refine eqNil ?_
    walk_at "pk"
    have hp1:KdOk x->vN c x=some (T.str x):=fun g=>by unfold vN; rw[if_pos hcc,if_pos g]
    have hp2:¬KdOk x->vN c x=none:=fun g=>by unfold vN; rw[if_pos hcc,if_neg g]
    refine ite2 (fun h1=>⟨Nat.le_trans hxl (by decide),ite2 (fun h2=>ite2 (fun h3=>?_) fun h3=>?_) fun h2=>?_⟩) fun h1=>?_
    ·have hk:KdOk x:=⟨by omega,by omega,by
      by_cases h4:∀c∈x.cps.toList,c∈vF
      ·exact h4
      ·exact absurd (by simpa using h1) (nol_ne h4)⟩
     walk_at "pk"
     exact⟨_,_,rfl,rfl,by simp,by simp,by simp only[List.length_cons,List.length_nil]; exact Nat.le_of_lt (qC (by omega)),acc++[T.str x],_,_,_,_,rfl,xj (hp1 hk) hc1 hx1 hp⟩
    ·walk_at "pk"
     exact no (hp2 fun g=>h3 (by have:=g.2.1; omega))
    ·walk_at "pk"
     exact no (hp2 fun g=>h2 (by have:=g.1; omega))
    ·walk_at "pk"
     exact no (hp2 fun g=>h1 (by rw[nol_nil g.2.2]; rfl))
   ·refine vy (cow▸hcc) ?_
    walk_at "pk"
    have hp1:∀n,zq x.cps.toList 60->PySem.intText? x=some n->vN c x=some (T.int n):=fun n g hn=>by unfold vN; rw[if_neg hcc,if_pos g,hn]; rfl
    have hp2:¬zq x.cps.toList 60->vN c x=none:=fun g=>by unfold vN; rw[if_neg hcc,if_neg g]
    rcases hv with⟨n,g,hn,rfl⟩|⟨g,rfl⟩
    ·walk_at "pk"
     exact⟨_,_,rfl,rfl,by simp,by simp,by simp only[List.length_cons,List.length_nil]; exact Nat.le_of_lt (qC (by omega)),acc++[T.int n],_,_,_,_,rfl,xj (hp1 n g hn) hc1 hx1 hp⟩
    ·walk_at "pk"
     exact no (hp2 g)
  ·rintro ρ M ⟨rfl,acc,x4,x5,x6,x7,rfl,hp⟩
   refine⟨rfl, ?_⟩
   have hp:qT (l.cps.toList.take (min (zs.map T.str).length l.cps.size)) (zs.take (min (zs.map T.str).length l.cps.size))=some acc:=hp
   rw[hlen,List.take_length,List.take_of_length_le (by omega)] at hp
   walk_at "pk"
   exact k1 (z,acc) (by rw[hp]; rfl)
local macro_rules | `(tactic| walk_at "vx") => `(tactic| simp only[jf,xI,kK,xJ,zA,uTry,ze,je,QL,QN,endX,uAsG,ji,zG,jN,zJ,vV,vj,zH,zI,vW,vd,xI,ze,uIfX,uOpX,uCbX,kb,XA,uX0,kc,xH,xK,uInD,uInK,kL,uZipS,QM,Jg,uRep,Jf,Jk])
local macro_rules | `(tactic| walk_at "pk") => `(tactic| (walk_at "v"; repeat ((first|walk_at "vx" |refine vy (by decide) ?_|refine qS rfl ?_); walk_at "v")))
local macro_rules | `(tactic| walk_at "dk") => `(tactic| repeat ((first|refine vy (by omega) ?_|refine qS (by omega) ?_); walk_at "pk"))
theorem nl_wt:wt ("\n" : Str)=51:=by decide +kernel
theorem wt_sum {zs:List Str} {t:Str} (h:Txt.split t ⟨#[10]⟩=zs):(zs.map wt).sum+zs.length*51=wt t+51:=by
 have:=kH t 10
 rw[h] at this
 exact this
abbrev lnsU (zs:List Str):List U:=zs.map fun z=>U.p (.str z)
theorem Kv (zs:List Str):lnsU zs=(zs.map T.str).map U.p:=by rw[List.map_map]; rfl
theorem xM {M:MM} {k:Nat} {o:MO} {zs:List Str} {L:List MO} {i:Nat} (h:L[i]?=some (.lst (lnsU zs))):sn (MB M k o L) (.m (M.length+i))=some (.lst (zs.map T.str)):=by
 unfold sn
 have e:=zZ (M:=M) (k:=k) (o:=o) h
 simp only[e]
 rw[Kv,xh]
 rfl
theorem zO {M:MM} {k:Nat} {o:MO} {zs:List Str} {L:List MO} {i:Nat} (h:L[i]?=some (.lst (lnsU zs))):qV (MB M k o L) (.m (M.length+i))=some (lnsU zs):=by
 unfold qV
 have e:=zZ (M:=M) (k:=k) (o:=o) h
 simp only[e]
theorem lns_at {zs:List Str} {j:Int} (h0:0<=j) (h1:j<zs.length):∃z,zs[j.toNat]?=some z/\atI (lnsU zs) j=some (.p (.str z))/\ixN (lnsU zs).length j=some j.toNat:=by
 have e:zs[j.toNat]?=some (zs[j.toNat]'(by omega)):=List.getElem?_eq_getElem _
 have e2:(lnsU zs)[j.toNat]?=some (.p (.str (zs[j.toNat]'(by omega)))):=by rw[List.getElem?_map,e]; rfl
 have:=zT e2
 rw[show((j.toNat:Nat):Int)=j by omega] at this
 refine⟨_,e,this, ?_⟩
 unfold ixN
 rw[if_pos h0,if_pos (by rw[List.length_map]; exact h1)]
theorem VM {l:List Str} {x:Str} (h:x∈l):wt x<=(l.map wt).sum:=by
 induction l with
 |nil=>cases h
 |cons a l ih =>
  simp only[List.map_cons,List.sum_cons]
  rcases List.mem_cons.mp h with rfl|h
  ·omega
  ·have:=ih h; omega
theorem Jr {y x:Str}:∀{l:List Str} {j:Nat},l[j]?=some x->((l.set j y).map wt).sum+wt x=(l.map wt).sum+wt y
 | [],_,h=>by simp at h
 |a::l,0,h=>by
  have:a=x:=by simpa using h
  subst this
  simp only[List.set_cons_zero,List.map_cons,List.sum_cons]
  omega
 |a::l,j+1,h=>by
  have:=Jr (y:=y) (l:=l) (j:=j) (by simpa using h)
  simp only[List.set_cons_succ,List.map_cons,List.sum_cons]
  omega
theorem VN (l:List Str) (n:Nat):((l.take n).map wt).sum+((l.drop n).map wt).sum=(l.map wt).sum:=by rw[<-List.sum_append, <-List.map_append,List.take_append_drop]
theorem sum_rep (n:Nat) (z:Str):((List.replicate n z).map wt).sum=n*wt z:=by
 induction n with
 |zero=>simp
 |succ n ih=>rw[List.replicate_succ,List.map_cons,List.sum_cons,ih,Nat.succ_mul]; omega
theorem bent_at {M:MM} {k:Nat} {o:MO} {L:List MO} {line:Str} {Q:UK} (hk:k<M.length) (B:BagO o) (h:wt line<=800000) (q:∀(z:Str) (o':MO),wt z<=wt line+100->BagO o'->Q (.p (.str z)) (MB M k o' L)):Xc [.m k, .p (.str line)] (MB M k o L) Q :=
 ⟨k,o,line,rfl,j8 hk,B,h,fun z o' hz B'=>by rw[zc hk]; exact q z o' hz B'⟩
theorem Jo {zs:List Str} {a b:Int} {R:T->Prop} (ha:a=0\/a=1) (hb:b=0\/b=1) (hw:(zs.map wt).sum+zs.length*51<=900000) (q:∀z,wt z<=(zs.map wt).sum+zs.length*51+102->R (.str z)) :
  JD (T.str "\n") (T.int a) fun t=>sJoin "\n" [.lst (zs.map T.str)] fun t1=>sStr t t1 fun t=>JD (T.str "\n") (T.int b) fun t2=>sStr t t2 fun t=>R t:=by
 have m1:∀{a:Int},a=0\/a=1->wt (Txt.mul "\n" a)<=51:=fun h=>by rcases h with rfl|rfl<;>decide +kernel
 have hj:wt (Txt.join "\n" zs)<=(zs.map wt).sum+zs.length*51:=by
  have:=kJ (y := "\n") (zs:=zs)
  rw[nl_wt] at this
  exact this
 have hl:=vT (Txt.join "\n" zs)
 have l1:=vT (Txt.mul "\n" a)
 have l2:=vT (Txt.mul "\n" b)
 have w1:=m1 ha
 have w2:=m1 hb
 have sz:1000000<=sizeLine:=by decide
 have hz:(zs.map (·.length)).sum<=(zs.map wt).sum:=by
  clear hw q hj hl
  induction zs with
  |nil=>exact Nat.le_refl _
  |cons z zs ih=>have:=vT z; simp only[List.map_cons,List.sum_cons]; omega
 refine⟨_,_,rfl,rfl,by decide +kernel,by omega,by omega,zs,rfl, ?_,_,_,rfl,rfl,by omega,_,_,rfl,rfl,by decide +kernel,by omega,by omega,_,_,rfl,rfl, ?_,q _ ?_⟩
 ·rw[nl_len,Nat.mul_one]; omega
 ·rw[Str.length_append]; omega
 ·rw[xx,xx]; omega
theorem jJ {MM0:MM} {u:U} {zs:List Str} {a b:Int} {R:T->Prop} (hs:sn MM0 u=some (.lst (zs.map T.str))) (ha:a=0\/a=1) (hb:b=0\/b=1) (hw:(zs.map wt).sum+zs.length*51<=900000) (q:∀z,wt z<=(zs.map wt).sum+zs.length*51+102->R (.str z)) :
  JD (T.str "\n") (T.int a) fun t=>SnsS MM0 [u] fun ts=>sJoin "\n" ts fun t1=>sStr t t1 fun t=>JD (T.str "\n") (T.int b) fun t2=>sStr t t2 fun t=>R t:=by
 obtain⟨i,n,h1,h2,h3,h4,h5,h6⟩:=Jo ha hb hw q
 exact⟨i,n,h1,h2,h3,h4,h5,_,by simp only[sns,hs],h6⟩
abbrev xX:Stmt:=top 35
theorem scSpoilt:FnScope ["bag", "text", "lines", "at", "row", "kind", "blot"] ["bag", "text"] (qc xX):=⟨rfl,rfl,rfl,by decide +kernel,rfl,by decide +kernel,by decide +kernel⟩
theorem Kk:(["bag", "text", "lines", "at", "row", "kind", "blot", "line"]:List Str).Nodup:=by decide +kernel
def Ql:List U->MM->UK->Prop:=fun us M Q=>∃(k:Nat) (o:MO) (t:Str),us=[.m k, .p (.str t)]/\M[k]?=some o/\BagO o/\wt t<=290000/\∀(z:Str) (o':MO),wt z<=3*wt t+6000->BagO o'->Q (.p (.str z)) (M.set k o')
theorem XQ {f:Addr} {fd:FuncData} (F:Fun K "_law_spoilt" "_law_spoilt" xX f fd) (N:Nms mg) (DDraw:Def P w K mg base "_law_draw" 1 ["bag", "many"] (spU jq)) (DAnySign:Def P w K mg base "_law_any_sign" 2 ["bag"] (spU KU)) (DBlot:Def P w K mg base "_law_blot" 3 ["bag"] (spU gBlot)) (DBentRow:Def P w K mg base "_law_bent_row" 2 ["bag", "line"] (spU Xc)):FnOk P w K mg base CX0 4 f fd ["bag", "text"] (spU Ql):=by
 refine F.zV scSpoilt (fun us M Qu h=>?_) (fun cdv A outer s H E hr=>?_)
 ·obtain⟨_,_,_,rfl,_⟩:=h
  rfl
 refine⟨_,(qg (qE (i:=2) scSpoilt.nd rfl (Or.inl rfl) (jo PySem.F.plainAttrs_str PySem.F.slot_str_split PySem.F.type_str_split xk (qv 1) (qa_c qo qd)))
  (qg (qE (i:=3) scSpoilt.nd rfl (Or.inr rfl) (qw DDraw (hr.mono (by first|decide|exact Nat.le_refl _)) (qa_c (qv 0) (qa_c (qx vn (qr v8 (by rfl) N.len zz (qa_c (qv 1) qd)) qe) qd))))
  (qg (qE (i:=4) scSpoilt.nd rfl (Or.inl rfl) (qw DDraw (hr.mono (by first|decide|exact Nat.le_refl _)) (qa_c (qv 0) (qa_c (qr v9 (by rfl) N.len zz (qa_c (qv 2) qd)) qd))))
  (qg (qE (i:=5) scSpoilt.nd rfl (Or.inl rfl) (qw DDraw (hr.mono (by first|decide|exact Nat.le_refl _)) (qa_c (qv 0) (qa_c qe qd))))
  (qg (vB (qu VX (qv 5) qe (qD _))
   (qk (qG (qx qW (qx qW (qK jL (qv 1) qR (qQ (qv 3))) (qx xC (qw DAnySign (hr.mono (by first|decide|exact Nat.le_refl _)) (qa_c (qv 0) qd)) (qY (qt (K:=K) rfl) (vf (qa_c qe (qa_c qe (qa_c qe qd)))) (qv 5) (fun _ _=>rfl)))) (qK jL (qv 1) (qQ (qx vn (qv 3) (qY (qt (K:=K) rfl) (vf (qa_c qe (qa_c qe (qa_c qe qd)))) (qv 5) (fun _ _=>rfl)))) qR))))
   qH)
  (qg (vB (qu v5 (qv 5) qe (qD _))
   (qk (qG (qx qW (qx qW (qK jL (qv 1) qR (qQ (qv 3))) (qw DBlot (hr.mono (by first|decide|exact Nat.le_refl _)) (qa_c (qv 0) qd))) (qK jL (qv 1) (qQ (qx vn (qv 3) (qw DDraw (hr.mono (by first|decide|exact Nat.le_refl _)) (qa_c (qv 0) (qa_c qe qd))))) qR))))
   qH)
  (qg (vB (qu VX (qv 5) qe (qD _))
   (qk (kn (qw DBentRow (hr.mono (by first|decide|exact Nat.le_refl _)) (qa_c (qv 0) (qa_c (qY (qt (K:=K) rfl) (qv 2) (qv 4) (fun _ _=>rfl)) qd))) (ko (qv 2) (qv 4) z0)))
   qH)
  (qg (vB (qu v5 (qv 5) qe (qD _))
   (qk (qE (i:=2) scSpoilt.nd rfl (Or.inl rfl) (qx zM (qK (ve (K:=K) rfl) (qv 2) qR (qQ (qv 4))) (qK (ve (K:=K) rfl) (qv 2) (qQ (qx vn (qv 4) qe)) qR))))
   qH)
  (qg (vB (qu v5 (qv 5) qe (qD _))
   (qk (JR (qe_lm PySem.F.slot_list_insert PySem.F.type_list_insert Ko (qv 2) (qa_c (qw DDraw (hr.mono (by first|decide|exact Nat.le_refl _)) (qa_c (qv 0) (qa_c (qx vn (qr v9 (by rfl) N.len zz (qa_c (qv 2) qd)) qe) qd))) (qa_c (qY (qt (K:=K) rfl) (qv 2) (qv 4) (fun _ _=>rfl)) qd)))))
   qH)
  (qg (vB (qu v5 (qv 5) qe (qD _))
   (qk (qE (i:=2) scSpoilt.nd rfl (Or.inl rfl) (qx zM (qx zM (qK (ve (K:=K) rfl) (qv 2) qR (qQ (qv 4))) (qx op_rep (vf (qa_c qo qd)) (qw DDraw (hr.mono (by first|decide|exact Nat.le_refl _)) (qa_c (qv 0) (qa_c qe qd))))) (qK (ve (K:=K) rfl) (qv 2) (qQ (qv 4)) qR))))
   qH)
  (qg (qs_ifT v5 (qv 5)
   (qsp_rep (i:=6) scSpoilt.nd rfl (Or.inr rfl) (qw DBlot (hr.mono (by first|decide|exact Nat.le_refl _)) (qa_c (qv 0) qd))
   (qk (qs_lc (i:=2) [false,false,false,true,false,false,true] ["line"] scSpoilt.nd rfl rfl (xg (K:=K) rfl (qv 2)) (fun _ _ _=>(vg (i:=7) Kk rfl (Or.inl rfl))) (fun _ _ _=>vL) (fun _ _ _=>(qY (qt (K:=K) rfl) (vf (qa_c (qx qW (qv 6) (qv 7)) (qa_c (qx qW (qv 7) (qv 6)) qd))) (qx jS (qv 3) qe) (fun _ _=>rfl))))) (by decide +kernel))
   qH (qD _))
  (qg (vB (qu v5 (qv 5) qe (qD _))
   (qk (qG (qe_bm0 PySem.F.plainAttrs_str PySem.F.slot_str_upper PySem.F.type_str_upper mt_upper (qv 1))))
   qH)
  (qk (qG (qx qW (qx qW (qx xC qo (vk j7 (by rfl) N.int Zm (qa_c (vX v5 (qv 5) qe (qD _)) qd))) (jo PySem.F.plainAttrs_str PySem.F.slot_str_join PySem.F.type_str_join (xl (K:=K) rfl) qo (qa_c (qv 2) qd))) (qx xC qo (vk j7 (by rfl) N.int Zm (qa_c (vX v5 (qv 5) qe (qD _)) qd)))))))))))))))))),_,(ql (qA (Yj (qb 1) (qa (ce_c (.str _)) qf)) (qp 2))
   (ql (qA (qj (qa (qb 0) (qa (qm (qP fun _ _=>.int _) (xG zy (qa (qb 1) qf)) (ce_c (.int _))) qf))) (qp 3))
   (ql (qA (qj (qa (qb 0) (qa (kC (qa (qb 2) qf)) qf))) (qp 4))
   (ql (qA (qj (qa (qb 0) (qa (ce_c (.int _)) qf))) (qp 5))
   (ql (vI (qy (qm (qP fun _ _=>.bl _) (qb 5) (ce_c (.int _))))
   (qN (qm zj (qm zj (j5 (qb 1) vb (va (qb 3))) (qm zw (qj (qa (qb 0) qf)) (vJ (vx (qa (ce_c (.int _)) (qa (ce_c (.int _)) (qa (ce_c (.int _)) qf)))) (qb 5)))) (j5 (qb 1) (va (qm (qP fun _ _=>.int _) (qb 3) (vJ (vx (qa (ce_c (.int _)) (qa (ce_c (.int _)) (qa (ce_c (.int _)) qf)))) (qb 5)))) vb)))
   qJ)
   (ql (vI (qy (qm vm (qb 5) (ce_c (.int _))))
   (qN (qm zj (qm zj (j5 (qb 1) vb (va (qb 3))) (qj (qa (qb 0) qf))) (j5 (qb 1) (va (qm (qP fun _ _=>.int _) (qb 3) (qj (qa (qb 0) (qa (ce_c (.int _)) qf))))) vb)))
   qJ)
   (ql (vI (qy (qm (qP fun _ _=>.bl _) (qb 5) (ce_c (.int _))))
   (qA (qj (qa (qb 0) (qa (vJ (qb 2) (qb 4)) qf))) (cg_sub (qb 2) (qb 4)))
   qJ)
   (ql (vI (qy (qm vm (qb 5) (ce_c (.int _))))
   (qA (qm v3 (j6 (qb 2) vb (va (qb 4))) (j6 (qb 2) (va (qm (qP fun _ _=>.int _) (qb 4) (ce_c (.int _)))) vb)) (qp 2))
   qJ)
   (ql (vI (qy (qm vm (qb 5) (ce_c (.int _))))
   (Yg (ce_me XU (qb 2) (qa (qj (qa (qb 0) (qa (qm (qP fun _ _=>.int _) (kC (qa (qb 2) qf)) (ce_c (.int _))) qf))) (qa (vJ (qb 2) (qb 4)) qf))))
   qJ)
   (ql (vI (qy (qm vm (qb 5) (ce_c (.int _))))
   (qA (qm v3 (qm v3 (j6 (qb 2) vb (va (qb 4))) (qm J4 (vx (qa (ce_c (.str _)) qf)) (qj (qa (qb 0) (qa (ce_c (.int _)) qf))))) (j6 (qb 2) (va (qb 4)) vb)) (qp 2))
   qJ)
   (ql (vI (qy (qm vm (qb 5) (ce_c (.int _))))
   (ql (qA (ce_rep (qj (qa (qb 0) qf))) (qp 6))
   (qA (ce_compN (Qx (qb 2)) (vq 7) xz (vJ (vx (qa (qm zj (qb 6) (qb 7)) (qa (qm zj (qb 7) (qb 6)) qf))) (qm (VW fun _ _=>.int _) (qb 3) (ce_c (.int _))))) (qp 2)))
   qJ)
   (ql (vI (qy (qm vm (qb 5) (ce_c (.int _))))
   (qN (ce_upper (qb 1)))
   qJ)
   (qN (qm zj (qm zj (qm zw (ce_c (.str _)) (xG Zl (qa (qm vm (qb 5) (ce_c (.int _))) qf))) (jr xm (ce_c (.str _)) (qa (qb 2) qf))) (qm zw (ce_c (.str _)) (xG Zl (qa (qm vm (qb 5) (ce_c (.int _))) qf))))))))))))))))),fun us M M1 Qu e1 h=>?_⟩
 obtain⟨k,o,t,rfl,em,B,hw,q⟩:=h
 obtain⟨hk,eM⟩:=zi em
 rw[eM] at e1
 subst e1
 have fin:∀(z:Str) (o':MO) (L:List MO),BagO o'->wt z<=3*wt t+6000->zh M (MB M k o' L)/\Qu (.p (.str z)) (List.take (List.length M) (MB M k o' L)):=fun z o' L B h1=>⟨zW B.pur,by rw[zY]; exact q z o' h1 B⟩
 have hl:=vT t
 have hne:Txt.split t ⟨#[10]⟩≠[]:=jv
 walk_at "pk"
 refine⟨t,rfl,10,_,by rw[nl_is],rfl,Nat.le_trans (m:=1000000) (by omega) (by decide), ?_⟩
 have hs:=wt_sum (t:=t) rfl
 have hfw:=zE (x:=t) (c:=10)
 generalize Txt.split t ⟨#[10]⟩=zs at hs hne hfw ⊢
 have hzp:1<=zs.length:=List.length_pos_iff.mpr hne
 rw[Xw,Xv]
 walk_at "pk"
 have hL:1000000<=sizeLine:=by decide
 refine⟨Nat.le_trans (m:=1000000) (by omega) hL, ?_⟩
 refine qI hk B (by omega) (Qh (by omega)) fun at_ o1 a0 a1 B1=>?_
 walk_at "pk"
 rw[List.length_map]
 refine qI hk B1 (by omega) (Qh (by omega)) fun row o2 r0 r1 B2=>?_
 walk_at "pk"
 refine qI hk B2 (by decide) (by decide) fun d o3 d0 d1 B3=>?_
 walk_at "pk"
 rcases(show d<3\/d=3\/(4<=d/\d<9)\/d=9\/d=10\/d=11\/d=12\/d=13\/d=14\/d=15 by omega) with hd|hd|hd|hd|hd|hd|hd|hd|hd|hd
 all_goals walk_at "dk"
 ·refine⟨by omega,VP hk B3 fun c o4 B4=>?_⟩
  obtain⟨n,m,hn,hm,hn1,hm1⟩:∃n m:Int,atI [T.int 0,T.int 1,T.int 1] d=some (T.int n)/\atI [T.int 1,T.int 1,T.int 0] d=some (T.int m)/\(n=0\/n=1)/\(m=0\/m=1):=by
   rcases(show d=0\/d=1\/d=2 by omega) with rfl|rfl|rfl
   ·exact⟨0,1,rfl,rfl,by simp,by simp⟩
   ·exact⟨1,1,rfl,rfl,by simp,by simp⟩
   ·exact⟨1,0,rfl,rfl,by simp,by simp⟩
  refine zf hn ?_
  walk_at "pk"
  have h1:wt (Txt.mul ⟨#[c]⟩ n)<=51:=by
   have l1:(Txt.mul ⟨#[c]⟩ n).length<=1:=Nat.le_trans Km (by show 1*n.toNat<=1; omega)
   have:=wt_le (Txt.mul ⟨#[c]⟩ n)
   omega
  have h2:=vT (Txt.mul ⟨#[c]⟩ n)
  have h3:=vT (Txt.slice t none (some at_))
  have h4:=vT (Txt.slice t (some (at_+m)) none)
  have h5:=X9 (t:=t) (i:=at_) (j:=at_+m) a0 (by omega) (by omega)
  refine⟨_,_,rfl,rfl,by show 1<=1000; decide,by omega,by omega, ?_⟩
  refine⟨_,_,rfl,rfl,by omega, ?_⟩
  refine zf hm ?_
  walk_at "pk"
  refine⟨by omega,by rw[Str.length_append]; omega,fin _ _ _ B4 ?_⟩
  rw[xx,xx]
  omega
 ·refine⟨by omega,Yr hk B3 fun y o4 hy B4=>?_⟩
  walk_at "pk"
  have h1:=wt_le y
  have h3:=vT (Txt.slice t none (some at_))
  have h6:wt (Txt.slice t none (some at_))<=wt t:=by have:=X9 (t:=t) (i:=at_) (j:=at_) a0 (by omega) (by omega); omega
  refine⟨by omega, ?_⟩
  refine qI hk B4 (by decide) (by decide) fun m o5 m0 m1 B5=>?_
  walk_at "pk"
  have h4:=vT (Txt.slice t (some (at_+m)) none)
  have h5:=X9 (t:=t) (i:=at_) (j:=at_+m) a0 (by omega) (by omega)
  refine⟨by omega,by rw[Str.length_append]; omega,fin _ _ _ B5 ?_⟩
  rw[xx,xx]
  omega
 ·obtain⟨line,hl1,hl2,hl3⟩:=lns_at r0 r1
  have hlw:=VM (List.mem_of_getElem? hl1)
  refine⟨_,_,_,zO rfl,rfl,hl2, ?_⟩
  refine bent_at hk B3 (by omega) fun z o4 hz B4=>?_
  refine⟨_,_,_,_,rfl,zZ rfl,rfl,hl3, ?_⟩
  rw[Yx]
  have hset:(lnsU zs).set row.toNat (.p (.str z))=lnsU (zs.set row.toNat z):=by simp[lnsU,List.map_set]
  have hsum:=Jr (y:=z) hl1
  walk_at "pk"
  walk_at "dk"
  refine jJ (zs:=zs.set row.toNat z) (xM (by show some (MO.lst _)=_; rw[hset])) (by split<;>simp) (by split<;>simp) (by rw[List.length_set]; omega) fun z hz=>fin z _ _ B4 (by rw[List.length_set] at hz; omega)
 ·have hc:=VN zs row.toNat
  have hd2:((zs.drop (row.toNat+1)).map wt).sum<=((zs.drop row.toNat).map wt).sum:=by
   rw[<-List.drop_drop]
   cases zs.drop row.toNat with
   |nil=>simp
   |cons y ys=>simp
  refine⟨_,xM rfl,_,xM rfl, ?_⟩
  rw[Zh r0,xT (show 0<=row+1 by omega),show(row+1).toNat=row.toNat+1 by omega]
  walk_at "pk"
  refine⟨by simp only[List.length_map,List.length_take,List.length_drop]; omega, ?_⟩
  rw[<-List.map_append]
  walk_at "pk"
  walk_at "dk"
  refine Jo (by split<;>simp) (by split<;>simp) ?_ fun z hz=>fin z _ _ B3 ?_
  ·simp only[List.map_append,List.sum_append,List.length_append,List.length_take,List.length_drop]; omega
  ·simp only[List.map_append,List.sum_append,List.length_append,List.length_take,List.length_drop] at hz; omega
 ·rw[List.length_map]
  refine qI hk B3 (by omega) (Qh (by omega)) fun j o4 j0 j1 B4=>?_
  obtain⟨line,hl1,hl2,hl3⟩:=lns_at r0 r1
  have hlw:=VM (List.mem_of_getElem? hl1)
  refine⟨_,_,_,zO rfl,rfl,hl2,_,zZ rfl,j.toNat,j,_,rfl,by omega,by rw[List.length_map]; omega,by rw[List.length_map]; omega, ?_⟩
  dsimp only
  rw[Yx]
  have hset:(lnsU zs).take j.toNat++U.p (.str line)::(lnsU zs).drop j.toNat=lnsU (zs.take j.toNat++line::zs.drop j.toNat):=by simp[lnsU]
  have hc:=VN zs j.toNat
  walk_at "pk"
  walk_at "dk"
  refine jJ (zs:=zs.take j.toNat++line::zs.drop j.toNat) (xM (by show some (MO.lst _)=_; rw[hset])) (by split<;>simp) (by split<;>simp) ?_ fun z hz=>fin z _ _ B4 ?_
  ·simp only[List.map_append,List.map_cons,List.sum_append,List.sum_cons,List.length_append,List.length_cons,List.length_take,List.length_drop]; omega
  ·simp only[List.map_append,List.map_cons,List.sum_append,List.sum_cons,List.length_append,List.length_cons,List.length_take,List.length_drop] at hz; omega
 ·refine⟨_,xM rfl, ?_⟩
  refine qI hk B3 (by decide) (by decide) fun n o4 n0 n1 B4=>?_
  have hc:=VN zs row.toNat
  have hr6:=sum_rep n.toNat "tell 0"
  rw[show wt "tell 0" = 6 by decide +kernel] at hr6
  have hfl:(List.replicate n.toNat [T.str "tell 0"]).flatten=(List.replicate n.toNat ("tell 0" : Str)).map T.str:=by
   rw[List.map_replicate]
   generalize n.toNat=k
   induction k with
   |zero=>rfl
   |succ k ih=>rw[List.replicate_succ,List.flatten_cons,ih,List.replicate_succ]; rfl
  walk_at "pk"
  refine⟨_,_,rfl,rfl,by omega,by omega,by rw[List.length_singleton]; omega, ?_⟩
  rw[hfl,Zh r0]
  walk_at "pk"
  refine⟨by simp only[List.length_map,List.length_take,List.length_replicate]; omega,_,xM rfl, ?_⟩
  rw[xT r0, <-List.map_append]
  walk_at "pk"
  refine⟨by simp only[List.length_map,List.length_take,List.length_drop,List.length_append,List.length_replicate]; omega, ?_⟩
  rw[<-List.map_append]
  walk_at "pk"
  walk_at "dk"
  refine Jo (by split<;>simp) (by split<;>simp) ?_ fun z hz=>fin z _ _ B4 ?_
  ·simp only[List.map_append,List.sum_append,List.length_append,List.length_take,List.length_drop,List.length_replicate]; omega
  ·simp only[List.map_append,List.sum_append,List.length_append,List.length_take,List.length_drop,List.length_replicate] at hz; omega
 ·refine Yr hk B3 fun w o4 hw4 B4=>?_
  refine⟨w,rfl,by show w.length+(w.length+1)*0<=_; omega, ?_⟩
  have hrw:wt (Txt.replace w "\n" "")<=50:=by
   have:=wt_rep (x:=w)
   rw[nl_is,show("" : Str)=⟨#[]⟩ by decide +kernel]
   omega
  generalize Txt.replace w "\n" "" = v at hrw ⊢
  refine⟨_,zO rfl, ?_⟩
  refine⟨by show(lnsU zs).length<=_; rw[List.length_map]; omega,fun i acc M2=>M2=MB M k o4 [MO.lst (lnsU zs)]/\∃ys:List Str,acc=ys.map T.str/\ys.length=i/\(ys.map wt).sum<=((zs.take i).map wt).sum+50*i,⟨rfl, [],rfl,rfl,by simp⟩, ?_, ?_⟩
  ·rintro i acc M2 hi _ ⟨rfl,ys,rfl,hyl,hys⟩
   refine⟨zO rfl,fun u hu=>?_⟩
   have hu:(lnsU zs)[i]?=some u:=hu
   rw[List.getElem?_map] at hu
   cases e:zs[i]? with
   |none=>rw[e] at hu; cases hu
   |some line =>
   rw[e] at hu
   cases hu
   have hlw:=VM (List.mem_of_getElem? e)
   have l1:=vT line
   have l2:=vT v
   have hst:((zs.take (i+1)).map wt).sum=((zs.take i).map wt).sum+wt line:=by rw[jI e]; simp
   walk_at "pk"
   refine⟨by omega,by omega, ?_⟩
   walk_at "pk"
   obtain⟨y,hy,hyw⟩:∃y,atI [T.str (v++line),T.str (line++v)] (at_ % 2)=some (.str y)/\wt y=wt line+wt v:=by
    rcases(show at_ % 2=0\/at_ % 2=1 by omega) with e|e<;>rw[e]
    ·exact⟨_,rfl,by rw[xx]; omega⟩
    ·exact⟨_,rfl,xx ..⟩
   exact⟨by decide,zf hy ⟨_,rfl,rfl,ys++[y],by simp,by simp[hyl],by simp only[List.map_append,List.sum_append,List.map_cons,List.map_nil,List.sum_cons,List.sum_nil]; omega⟩⟩
  ·rintro acc M2 ⟨rfl,ys,rfl,hyl,hys⟩
   refine⟨zO rfl, ?_⟩
   have hyl:ys.length=(lnsU zs).length:=hyl
   have hys:(ys.map wt).sum<=((zs.take (lnsU zs).length).map wt).sum+50*(lnsU zs).length:=hys
   rw[List.length_map] at hyl hys
   rw[List.take_length] at hys
   rw[Xw,Xv]
   walk_at "pk"
   walk_at "dk"
   refine jJ (zs:=ys) (xM (i:=1) (by show some (MO.lst _)=_; rw[Kv])) (by split<;>simp) (by split<;>simp) (by omega) fun z hz=>fin z _ _ B4 (by omega)
 ·refine⟨t,rfl,by omega,fin _ _ _ B3 ?_⟩
  have:=wt_upper t
  omega
 ·refine jJ (xM rfl) (by split<;>simp) (by split<;>simp) (by omega) fun z hz=>fin z _ _ B3 (by omega)
 ·refine jJ (xM rfl) (by split<;>simp) (by split<;>simp) (by omega) fun z hz=>fin z _ _ B3 (by omega)
local macro_rules | `(tactic| walk_at "vx") => `(tactic| simp only[jf,xI,kK,xJ,zA,uTry,ze,je,QL,QN,endX,uAsG,ji,zG,jN,zJ,vV,vj,zH,zI,vW,vd,xI,ze,uIfX,uOpX,uCbX,kb,XA,uX0,kc,xH,xK,uInD,uInK,kL,uZipS,QM])
local macro_rules | `(tactic| walk_at "pk") => `(tactic| (walk_at "v"; repeat ((first|walk_at "vx" |refine vy (by decide) ?_|refine qS rfl ?_); walk_at "v")))
abbrev kj:Stmt:=top 38
theorem scRight:FnScope ["text", "rows", "found", "told", "e"] ["text"] (qc kj):=⟨rfl,rfl,rfl,by decide +kernel,rfl,by decide +kernel,by decide +kernel⟩
theorem ndRight1:(["text", "rows", "found", "told", "e", "line"]:List Str).Nodup:=by decide +kernel
noncomputable def rowN (t:Str):T:=match rowR t with|some r=>rowT r|none=>.non
theorem xZ:∀{ts:List Str} {rs:List Rw},vH ts=some rs->ts.map rowN=rs.map rowT
 | [],rs,h=>by
  have:rs=[]:=by simpa[vH] using h.symm
  subst this
  rfl
 |t::ts,rs,h=>by
  unfold vH at h
  cases e:rowR t with
  |none=>rw[e] at h; cases h
  |some r =>
   rw[e] at h
   dsimp only at h
   cases e2:vH ts with
   |none=>rw[e2] at h; cases h
   |some a =>
    rw[e2] at h
    cases h
    rw[List.map_cons,List.map_cons,xZ e2]
    unfold rowN
    rw[e]
theorem km:∀{ts:List Str},vH ts=none->(ts.map rowN).any nonT=true
 | [],h=>by simp[vH] at h
 |t::ts,h=>by
  unfold vH at h
  rw[List.map_cons,List.any_cons]
  cases e:rowR t with
  |none =>
   unfold rowN
   rw[e]
   rfl
  |some r =>
   rw[e] at h
   dsimp only at h
   cases e2:vH ts with
   |none=>rw[km e2]; simp
   |some a=>rw[e2] at h; cases h
theorem rows_no {rs:List Rw}:(rs.map rowT).any nonT=false:=by
 rw[List.any_map]
 exact List.any_eq_false.mpr fun r _=>by simp[rowT,nonT]
theorem JZ {c:Nat} {x:Str} {p:T} (h:vN c x=some p):depT 1 p:=by
 unfold vN at h
 split at h
 ·split at h
  ·cases h; trivial
  ·cases h
 ·split at h
  ·cases e:PySem.intText? x with
   |none=>rw[e] at h; cases h
   |some i=>rw[e] at h; cases h; trivial
  ·cases h
theorem ku:∀{cs:List Nat} {xs:List Str} {acc:List T},qT cs xs=some acc->∀p∈acc,depT 1 p
 | [],_,acc,h=>by
  have:acc=[]:=by simpa[qT] using h.symm
  subst this
  intro p hp
  cases hp
 |_::_, [],acc,h=>by
  have:acc=[]:=by simpa[qT] using h.symm
  subst this
  intro p hp
  cases hp
 |c::cs,x::xs,acc,h=>by
  unfold qT at h
  cases e:vN c x with
  |none=>rw[e] at h; cases h
  |some q =>
   rw[e] at h
   dsimp only at h
   cases e2:qT cs xs with
   |none=>rw[e2] at h; cases h
   |some a =>
    rw[e2] at h
    cases h
    intro p hp
    rcases List.mem_cons.mp hp with rfl|hp
    ·exact JZ e
    ·exact ku e2 p hp
theorem rowR_dep {t:Str} {r:Rw} (h:rowR t=some r):depT 2 (rowT r):=by
 unfold rowR at h
 split at h
 ·cases h
 ·split at h
  ·cases h
  ·rename_i l e
   split at h
   ·rename_i hn
    cases e2:qT l.cps.toList _ with
    |none=>rw[e2] at h; cases h
    |some ps =>
     rw[e2] at h
     cases h
     have h3:=(zg e).2.2.1
     have hl:=xi e2
     have:l.cps.toList.length=l.cps.size:=by simp
     refine⟨by simp only[List.length_cons]; omega,fun x hx=>?_⟩
     rcases List.mem_cons.mp hx with rfl|hx
     ·trivial
     ·exact ku e2 x hx
   ·cases h
theorem Q2:∀{ts:List Str} {rs:List Rw},vH ts=some rs->∀r∈rs,depT 2 (rowT r)
 | [],rs,h=>by
  have:rs=[]:=by simpa[vH] using h.symm
  subst this
  intro r hr
  cases hr
 |t::ts,rs,h=>by
  unfold vH at h
  cases e:rowR t with
  |none=>rw[e] at h; cases h
  |some r =>
   rw[e] at h
   dsimp only at h
   cases e2:vH ts with
   |none=>rw[e2] at h; cases h
   |some a =>
    rw[e2] at h
    cases h
    intro r' hr
    rcases List.mem_cons.mp hr with rfl|hr
    ·exact rowR_dep e
    ·exact Q2 e2 r' hr
theorem JF {ts:List Str} {rs:List Rw} (h:vH ts=some rs):rs.length=ts.length:=by
 have:=congrArg List.length (xZ h)
 simpa using this.symm
def KY:List T->(T->Prop)->Prop:=fun ts Q=>∃t:Str,ts=[.str t]/\wt t<=900000/\Q (.bl true)
theorem Kb {CENoText CEWordError CEWk CENought CENoRoom CEFaulty CENotFormed:Addr} {f:Addr} {fd:FuncData} (F:Fun K "_law_right" "_law_right" kj f fd) (N:Nms mg) (NVE:mg "ValueError" = none) (BWordError:mg "WordError" = some (.ref CEWordError)) (BNoText:mg "NoText" = some (.ref CENoText)) (BWk:mg "WrongKind" = some (.ref CEWk)) (BNought:mg "Nought" = some (.ref CENought)) (BNoRoom:mg "NoRoom" = some (.ref CENoRoom)) (BFaulty:mg "Faulty" = some (.ref CEFaulty)) (BNotFormed:mg "NotFormed" = some (.ref CENotFormed))
  (ENoText_WordError:PySem.W.exmOne K (.ref CENoText) (.ref CEWordError)=some true) (TNoText:ExcT K CENoText) (INoText_ValueError:PySem.W.kitOne K (.ref CENoText) (.type "ValueError")=some true) (INoText_NoText:PySem.W.kitOne K (.ref CENoText) (.ref CENoText)=some true)
  (INoText_Wk_Nought_NoRoom:PySem.W.kitAny K (.ref CENoText) [.ref CEWk, .ref CENought, .ref CENoRoom]=some false) (INoText_Faulty_NotFormed:PySem.W.kitAny K (.ref CENoText) [.ref CEFaulty, .ref CENotFormed]=some false)
  (DRead:DefX P w K mg base "read" 6 ["text"] (spX mg KZ)) (DRowOf:Def P w K mg base "_law_row_of" 2 ["line"] (spP KW)) (DAlike:Def P w K mg base "_law_alike" 4 ["found", "due"] (spP (K1 3))):FnOk P w K mg base CX0 7 f fd ["text"] (spP KY):=by
 refine F.zP scRight (fun ts Qt h=>?_) (fun cdv A outer s H E hr=>?_)
 ·obtain⟨_,rfl,_⟩:=h
  rfl
 refine⟨_,(qg (qs_lc (i:=1) [false,false,false,false,false] ["line"] scRight.nd rfl rfl (xg (K:=K) rfl (jo PySem.F.plainAttrs_str PySem.F.slot_str_split PySem.F.type_str_split xk (qv 0) (qa_c qo qd))) (fun _ _ _=>(vg (i:=5) ndRight1 rfl (Or.inl rfl))) (fun _ _ _=>vL) (fun _ _ _=>(qw DRowOf (hr.mono (by first|decide|exact Nat.le_refl _)) (qa_c (qv 5) qd))))
  (qg (qE (i:=2) scRight.nd rfl (Or.inl rfl) xy)
  (qg (qE (i:=3) scRight.nd rfl (Or.inl rfl) (vf qd))
  (qg (qs_try (l:=[("NoText", _)]) ⟨rfl,rfl,rfl,rfl⟩ (fun _ _ =>
   (zu (qx_set (i:=2) scRight.nd rfl (Or.inl rfl) (x8 DRead (hr.mono (by first|decide|exact Nat.le_refl _)) (qa_c (qv 0) qd)))))
   (hh_cons BNoText (fun _=>(qh_gen (i:=4) ⟨rfl,rfl,rfl,rfl⟩ BWordError ENoText_WordError scRight.nd rfl rfl (fun _ _ _ ob=>(qg (qE (i:=3) scRight.nd rfl (Or.inl rfl) (vf (qa_c (qr (Xo (K:=K) rfl TNoText ob Z5) (by rfl) N.isinstance qB (qa_c (qv 4) (qa_c (vC (v:=.ty "ValueError") (by rfl) NVE VE rfl) qd))) (qa_c (qr (Xo (K:=K) rfl TNoText ob Z5) (by rfl) N.isinstance qB (qa_c (qv 4) (qa_c (zL (v:=.ref CENoText) rfl BNoText rfl) qd))) (qa_c (qr (Vy (K:=K) rfl TNoText ob Z5) (by rfl) N.isinstance qB (qa_c (qv 4) (qa_c (kq (qa_c (zL (v:=.ref CEWk) rfl BWk rfl) (qa_c (zL (v:=.ref CENought) rfl BNought rfl) (qa_c (zL (v:=.ref CENoRoom) rfl BNoRoom rfl) qd)))) qd))) qd)))))
   (qk (JR (qe_lm PySem.F.slot_list_append PySem.F.type_list_append jU (qv 3) (qa_c (qr (Vy (K:=K) rfl TNoText ob Z5) (by rfl) N.isinstance qB (qa_c (qv 4) (qa_c (kq (qa_c (zL (v:=.ref CEFaulty) rfl BFaulty rfl) (qa_c (zL (v:=.ref CENotFormed) rfl BNotFormed rfl) qd))) qd))) qd)))))))) hh_nil))
  (qg (vB (qu (op_inN (K:=K) rfl (hu_of hr)) xy (qv 1) (by with_unfolding_all rfl))
   (qk (qG (ZV (vX J5 (qv 2) xy (qD _)) (ZU (vX (VY (K:=K) rfl hr.units) (qv 3) (vf (qa_c Q7 (qa_c Q7 (qa_c Q7 (qa_c Q7 qd))))) (qD _))))))
   qH)
  (qk (qG (ZV (vX (VY (K:=K) rfl hr.units) (qv 3) (vf qd) (qD _)) (ZU (qw DAlike (hr.mono (by first|decide|exact Nat.le_refl _)) (qa_c (qv 2) (qa_c (qv 1) qd)))))))))))),_,(ql (qA (zx (Qx (jr zN (qb 0) (qa (ce_c (.str _)) qf))) (vq 5) xz (vO (qa (qb 5) qf))) (qp 1))
   (ql (qA (ce_c .non) (qp 2))
   (ql (qA (ce_new qf) (qp 3))
   (ql (cs_try (cs_setX (jd (qa (qb 0) qf))) (zh_cons (fun _=>(cs_asG (fun _ _=>(ql (qA (ce_new (qa (ce_isX (c:=.ty "ValueError") (cv:=.type "ValueError") rfl INoText_ValueError (qb 4)) (qa (ce_isX (c:=.ref CENoText) (cv:=.ref CENoText) rfl INoText_NoText (qb 4)) (qa (Yk (cs:=[.ref CEWk, .ref CENought, .ref CENoRoom]) (cvs:=[.ref CEWk, .ref CENought, .ref CENoRoom]) rfl INoText_Wk_Nought_NoRoom (qb 4) (by simp)) qf)))) (qp 3))
   (Yg (ce_me XV (qb 3) (qa (Yk (cs:=[.ref CEFaulty, .ref CENotFormed]) (cvs:=[.ref CEFaulty, .ref CENotFormed]) rfl INoText_Faulty_NotFormed (qb 4) (by simp)) qf))))))) zh_nil))
   (ql (vI (qy (qm opl_inN (ce_c .non) (qb 1)))
   (qN (Zk (Yl (qb 2)) (qm VU (qb 3) (vx (qa (ce_c (.bl _)) (qa (ce_c (.bl _)) (qa (ce_c (.bl _)) (qa (ce_c (.bl _)) qf))))))))
   qJ)
   (qN (Zk (qm VU (qb 3) (vx qf)) (vO (qa (qb 2) (qa (qb 1) qf)))))))))),fun ts Qt h=>?_⟩
 obtain⟨t,rfl,hw,q⟩:=h
 have hl:=vT t
 have hs:=kH t 10
 have hfw:=zE (x:=t) (c:=10)
 rw[show wtc 10=51 from rfl] at hs
 walk_at "pk"
 refine⟨10,_,by rw[nl_is],rfl,Nat.le_trans (m:=1000000) (by omega) (by decide), ?_⟩
 walk_at "pk"
 refine xW (ts:=(Txt.split t ⟨#[10]⟩).map T.str) (by rw[List.length_map]; exact Nat.le_trans (m:=1000000) (by omega) (by decide)) (fun i acc M=>M=[]/\acc=((Txt.split t ⟨#[10]⟩).take i).map rowN) ⟨rfl,rfl⟩ ?_ ?_
 ·rintro i x acc M' hx _ ⟨rfl,rfl⟩
  obtain⟨y,hy,rfl⟩:=xE hx
  walk_at "pk"
  refine⟨y,rfl,Nat.le_trans (zt (List.mem_of_getElem? hy)) (by omega),fun r hr=>?_,fun hr=>?_⟩
  ·rw[jI hy,List.map_append]
   show _++[rowT r]=_++[rowN y]
   congr 1
   unfold rowN
   rw[hr]
  ·rw[jI hy,List.map_append]
   show _++[T.non]=_++[rowN y]
   congr 1
   unfold rowN
   rw[hr]
 rintro acc M' ⟨rfl,rfl⟩
 rw[List.length_map,List.take_length]
 walk_at "pk"
 refine⟨t,rfl,by omega,fun rs hrs=>?_,fun hrs=>?_⟩
 ·walk_at "pk"
  refine⟨_,rfl,rfl, ?_⟩
  rw[xZ hrs,rows_no]
  walk_at "pk"
  refine⟨_,_,rfl,rfl,eqNil ?_⟩
  walk_at "pk"
  have hrl:=JF hrs
  exact⟨_,rfl,⟨by rw[List.length_map]; omega,fun x hx=>by
   obtain⟨r,hr,rfl⟩:=List.mem_map.mp hx
   exact Q2 hrs r hr⟩,q⟩
 ·walk_at "pk"
  refine⟨_,_,_,_,rfl,rfl,rfl,fun a d=>?_⟩
  walk_at "pk"
  refine⟨⟨_,rfl⟩,⟨_,rfl⟩,⟨_,rfl⟩, ?_⟩
  refine me_at rfl ?_
  walk_at "pk"
  refine⟨⟨_,rfl⟩,by decide, ?_⟩
  walk_at "pk"
  refine⟨_,rfl,rfl, ?_⟩
  rw[km hrs]
  walk_at "pk"
  refine⟨_,_,rfl,rfl,K3 (ns:=[true,true,false,false]) (ms:=[true,true,false,false]) ?_⟩
  walk_at "pk"
  exact q
def Jx (K:PySem.W.Frag):Sp:=fun vs H Q _=>∃(a:Addr) (ns:List Int),vs=[.ref a]/\SqL K H a (ns.map V.int)/\ns.length<=63/\∀H',Q (.bl true) H'
theorem law_okU {st:Stmt} {f:Addr} {fd:FuncData} {N:List Str} {k:Nat} (F:Fun K "law" "law" st f fd) (S:FnScope N ["script"] (qc st)) (hN:2<=N.length)
  (hbody:∀(cdv:Value) (A:Around) (outer:List Env) (s:Shared) (H:Hp) (E:XK),Room k (A.deeper (envOfC "law" (qc st) s.heap.objs.size f cdv)) ->
   ∃tR,QSs (cxOf CX0 P w K mg base N "law" (qc st) f cdv A outer s H E).nox (qh st) (tSeq (tAsg (xw (spBag K) [] E0 (zr (tVar 0) tNil)) (qZ 1)) tR)/\∃uR,ZS tR uR/\∀o,BagO o->uR { nx:=fun _ _=>False,rt:=fun z _=>z=.p (.bl true) } (none::some (.m 0)::List.replicate (N.length-2) none) [o]):FnOk P w K mg base CX0 (k+1) f fd ["script"] (Jx K):=by
 refine F.okQ S (fun vs H Q E h=>?_) (fun cdv A outer s H vs Q E hr h=>?_)
 ·obtain⟨_,_,rfl,_⟩:=h
  rfl
 ·obtain⟨a,ns,rfl,hS,hlen,k⟩:=h
  obtain⟨tR,hT,uR,hU,hq⟩:=hbody cdv A outer s H E hr
  refine⟨_,hT, ?_⟩
  have hN2:L2.start N [.ref a]=some (.ref a)::none::List.replicate (N.length-2) none:=by
   unfold L2.start
   obtain⟨m,hm⟩:∃m,N.length=m+2:=⟨N.length-2,by omega⟩
   rw[hm]
   rfl
  rw[hN2]
  simp only[tSeq,tAsg,xw,zr,tNil,tVar,qZ,List.getElem?_cons_zero,Option.some.injEq,exists_eq_left',List.append_nil,List.set_cons_zero,List.set_cons_succ]
  refine⟨a,ns,rfl,hS,hlen,fun b H1 hb s1 B1=>?_⟩
  obtain⟨c,ns',i,a',st',n,hbb,hcc,r⟩:=id B1.ex
  have ncb:c≠b:=Ys hbb hcc
  obtain⟨o,hbo,ro,_⟩:=Xr (A:=fun _=>False) (ι:=[b]) B1 ⟨_,hbb⟩ (fun z=>z.elim id fun z=>ncb (by simpa using z))
  have w1:L2.Wd (fun _=>False) [b] H1 [o]:=⟨by simp,rfl,fun x hx=>hx.elim,fun x _ z=>z,fun k a2 o2 e1 e2=>by
   match k,e1,e2 with
   |0,e1,e2=>cases e1; cases e2; exact ro
   |k+1,e1,_=>simp at e1⟩
  have env:EnvR (fun _=>False) [b] H1 (some (.ref a)::some (.ref b)::List.replicate (N.length-2) none) (none::some (.m 0)::List.replicate (N.length-2) none):=by
   refine .cons (fun u e=>by cases e) (.cons (fun u e=>by cases e; exact⟨_,rfl, .m rfl⟩) ?_)
   generalize N.length-2=m
   induction m with
   |zero=>exact .nil
   |succ m ih=>exact .cons (fun u e=>by cases e) ih
  refine hU.h (fun _=>False) [b] _ H1 _ [o] _ { nx:=fun _ _=>False,rt:=fun z _=>z=.p (.bl true) } w1 env ⟨fun _ _ _ _ _ _ _ _ q=>q.elim,fun ι v H2 u M _ _ ru q=>?_,fun _ _ _ _ _ _ _ _ q=>q.elim,fun _ _ _ _ _ _ _ _ q=>q.elim⟩ (hq o hbo)
  have q:u=.p (.bl true):=q
  subst q
  cases ru with
  |p r=>cases r; exact k H2
theorem drawL {o:MO} {L:List MO} {many:Int} {Q:UK} (B:BagO o) (h0:0<many) (h1:many.natAbs.log2<9000) (q:∀(found:Int) (o':MO),0<=found->found<many->BagO o'->Q (.p (.int found)) (o'::L)):jq [.m 0, .p (.int many)] (o::L) Q :=
 ⟨0,o,many,rfl,rfl,B,h0,h1,fun f o' f0 f1 B'=>q f o' f0 f1 B'⟩
local macro_rules | `(tactic| walk_at "vx") => `(tactic| simp only[jf,xI,kK,xJ,zA,uTry,ze,je,QL,QN,endX,uAsG,ji,zG,jN,zJ,vV,vj,zH,zI,vW,vd,Zv,Zy,uCmpT,uMe0,kT,jw])
local macro_rules | `(tactic| walk_at "pk") => `(tactic| (walk_at "v"; repeat ((first|walk_at "vx" |refine vy (by decide) ?_|refine qS rfl ?_); walk_at "v")))
theorem scr_at {o:MO} {R:List MO} {Q:UK} (B:BagO o) (q:∀(rs:List Rw) (o':MO),VF rs->rs≠[]->rs.length<=60->BagO o'->Q (.p (.lst (rs.map rowT))) (o'::R)):Qm [.m 0] (o::R) Q:=⟨0,o,rfl,rfl,B,q⟩
theorem spl_at {o:MO} {R:List MO} {t:Str} {Q:UK} (B:BagO o) (h:wt t<=290000) (q:∀(z:Str) (o':MO),wt z<=3*wt t+6000->BagO o'->Q (.p (.str z)) (o'::R)):Ql [.m 0, .p (.str t)] (o::R) Q:=⟨0,o,t,rfl,rfl,B,h,q⟩
def bnd:Nat->Nat
 |0=>27300
 |n+1=>3*bnd n+6000
theorem wt_flat {t:Str} (h:10∉t.cps.toList):wt t=t.length:=by
 unfold wt
 rw[qO]
 generalize t.cps.toList=l at h
 induction l with
 |nil=>rfl
 |cons c l ih =>
  have e:wtc c=1:=by unfold wtc; rw[if_neg fun z=>h (by simp[z])]
  have:=ih fun z=>h (by simp[z])
  simp only[wtl,List.map_cons,List.sum_cons,List.length_cons] at this ⊢
  omega
theorem scr_wt {rs:List Rw} (ok:VF rs) (hl:rs.length<=60):wt (scrS rs)<=27300:=by
 have h:=kJ (y := "\n") (zs:=rs.map rowS)
 rw[nl_wt,List.length_map] at h
 have h2:((rs.map rowS).map wt).sum<=rs.length*404:=by
  clear h hl
  induction rs with
  |nil=>exact Nat.le_refl _
  |cons r rs ih =>
   obtain⟨l,ok1⟩:=ok r (by simp)
   have h1:=wt_flat ok1.nl
   have h3:=ok1.slen
   have:=ih fun x hx=>ok x (by simp[hx])
   simp only[List.map_cons,List.sum_cons,List.length_cons]
   omega
 unfold scrS
 omega
theorem RowOk.ptok {r:Rw} {l:Str} (h:RowOk r l):∀t∈T.str r.1::r.2,PtOk t:=fun t ht=>by
 rcases List.mem_cons.mp ht with rfl|ht
 ·exact .inr ⟨_,rfl,(zg h.k).2.2.2.2.2⟩
 ·obtain⟨c,hc⟩:=h.mem t ht; exact hc.pt
abbrev sLaw:Stmt:=top 39
theorem scLaw:FnScope ["script", "bag", "spoils", "good", "text", "k"] ["script"] (qc sLaw):=⟨rfl,rfl,rfl,by decide +kernel,rfl,by decide +kernel,by decide +kernel⟩
theorem ndLaw1:(["script", "bag", "spoils", "good", "text", "k", "row"]:List Str).Nodup:=by decide +kernel
theorem ndLaw2:(["script", "bag", "spoils", "good", "text", "k", "row", "part"]:List Str).Nodup:=by decide +kernel
theorem ok_lawU {f:Addr} {fd:FuncData} (F:Fun K "law" "law" sLaw f fd) (N:Nms mg) (DBag:Def P w K mg base "_law_bag" 1 ["script"] (spBag K)) (DDraw:Def P w K mg base "_law_draw" 1 ["bag", "many"] (spU jq)) (DAnyScript:Def P w K mg base "_law_any_script" 5 ["bag"] (spU Qm)) (DSpoilt:Def P w K mg base "_law_spoilt" 4 ["bag", "text"] (spU Ql)) (DRight:Def P w K mg base "_law_right" 7 ["text"] (spP KY)):FnOk P w K mg base CX0 8 f fd ["script"] (Jx K):=by
 refine law_okU F scLaw (by decide) (fun cdv A outer s H E hr=>?_)
 refine⟨_,(qg (qE (i:=1) scLaw.nd rfl (Or.inl rfl) (qw DBag (hr.mono (by first|decide|exact Nat.le_refl _)) (qa_c (qv 0) qd)))
  (qg (qE (i:=2) scLaw.nd rfl (Or.inl rfl) (qw DDraw (hr.mono (by first|decide|exact Nat.le_refl _)) (qa_c (qv 1) (qa_c qe qd))))
  (qg (qE (i:=3) scLaw.nd rfl (Or.inl rfl) (qe_bmK (K:=K) rfl PySem.F.plainAttrs_str PySem.F.slot_str_join PySem.F.type_str_join (xl (K:=K) rfl) qo (qa_c (Q6 [false,false,false,false,false,false] ["row"] (xg (K:=K) rfl (qw DAnyScript (hr.mono (by first|decide|exact Nat.le_refl _)) (qa_c (qv 1) qd))) (fun _ _ _=>(vg (i:=6) ndLaw1 rfl (Or.inl rfl))) (fun _ _ _=>vL) (fun _ _ _=>(qe_bmK (K:=K) rfl PySem.F.plainAttrs_str PySem.F.slot_str_join PySem.F.type_str_join (xl (K:=K) rfl) qo (qa_c (Q6 [false,false,false,false,false,false,false] ["part"] (qi_tupK (K:=K) rfl (qv 6)) (fun _ _ _=>(vg (i:=7) ndLaw2 rfl (Or.inl rfl))) (fun _ _ _=>vL) (fun _ _ _=>(vk Yn (by rfl) N.str b_str (qa_c (qv 7) qd)))) qd)))) qd)))
  (qg (qE (i:=4) scLaw.nd rfl (Or.inl rfl) (qv 3))
  (qg (ZQ PassesOwn.never rfl (zK rfl N.range (qa_c (qv 2) qd)) (vg (i:=5) scLaw.nd rfl (Or.inl rfl))
   (qk (qE (i:=4) scLaw.nd rfl (Or.inl rfl) (qw DSpoilt (hr.mono (by first|decide|exact Nat.le_refl _)) (qa_c (qv 1) (qa_c (qv 4) qd))))))
  (qg (ZQ PassesOwn.never rfl (zK rfl N.range (qa_c qe qd)) (vg (i:=5) scLaw.nd rfl (Or.inl rfl))
   (qk (vB (jO (Q5 (jk (jj (qw DRight (hr.mono (by first|decide|exact Nat.le_refl _)) (qa_c (qv 4) qd)))) (jP (jk (jj (qw DRight (hr.mono (by first|decide|exact Nat.le_refl _)) (qa_c (qv 3) qd)))))))
    (qk (qG Q7))
    qH)))
  (qk (qG (qw DRight (hr.mono (by first|decide|exact Nat.le_refl _)) (qa_c qo qd)))))))))),_,(ql (qA (qj (qa (qb 1) (qa (ce_c (.int _)) qf))) (qp 2))
   (ql (qA (jr xm (ce_c (.str _)) (qa (zx (Qx (qj (qa (qb 1) qf))) (vq 6) xz (jr xm (ce_c (.str _)) (qa (zx (ci_tup (qb 6)) (vq 7) xz (xG cbl_strX (qa (qb 7) qf))) qf))) qf)) (qp 3))
   (ql (qA (qb 3) (qp 4))
   (ql (Ye (Qw (qa (qb 2) qf)) (qp 5)
   (qA (qj (qa (qb 1) (qa (qb 4) qf))) (qp 4)))
   (ql (Ye (Qw (qa (ce_c (.int _)) qf)) (qp 5)
   (vI (X4 (j4 (ct_b (vO (qa (qb 4) qf)))) (j4 (ct_b (vO (qa (qb 3) qf)))))
   (qN (ce_c (.bl _)))
   qJ))
   (qN (vO (qa (ce_c (.str _)) qf)))))))),fun o hB=>?_⟩
 show uSeq _ _ _ [none,some (.m 0),none,none,none,none] _
 walk_at "pk"
 refine drawL hB (by decide) (by decide) fun sp o1 s0 s1 B1=>?_
 walk_at "pk"
 refine scr_at B1 fun rs o2 ok ne l60 B2=>?_
 walk_at "pk"
 refine xW (ts:=rs.map rowT) (by rw[List.length_map]; exact Nat.le_of_lt (qC (by omega))) (fun i acc M'=>M'=[o2]/\acc=((rs.take i).map rowS).map T.str) ⟨rfl,rfl⟩ ?_ ?_
 ·rintro i x acc M' hx _ ⟨rfl,rfl⟩
  obtain⟨r,hr',rfl⟩:=xE hx
  obtain⟨l,ok1⟩:=ok r (List.mem_of_getElem? hr')
  have hl1:=ok1.len
  unfold rowT
  walk_at "pk"
  refine Je (by simp; exact Nat.le_of_lt (qC (by omega))) (fun i acc M'=>M'=[o2]/\acc=((T.str r.1::r.2).take i).map fun p=>T.str (txt1 p)) ⟨rfl,rfl⟩ ?_ ?_
  ·rintro i x acc M' hx _ ⟨rfl,rfl⟩
   walk_at "pk"
   refine(ok1.ptok x (List.mem_of_getElem? hx)).str ?_
   rw[jI hx,List.map_append]
   rfl
  ·rintro acc M' ⟨rfl,rfl⟩
   rw[List.take_length]
   walk_at "pk"
   refine⟨r.1::r.2.map txt1,by rw[List.map_cons,List.map_map]; rfl,Nat.le_trans ok1.sum (by decide), ?_⟩
   walk_at "pk"
   rw[jI hr']
   simp[rowS]
 rintro acc M' ⟨rfl,rfl⟩
 rw[List.length_map,List.take_length]
 walk_at "pk"
 refine⟨rs.map rowS,rfl,Nat.le_trans (scr_sum ok (by omega)) (by decide), ?_⟩
 have hg:wt (Txt.join "\n" (rs.map rowS))<=27300:=scr_wt ok l60
 generalize Txt.join "\n" (rs.map rowS)=good at hg ⊢
 walk_at "pk"
 refine ZK (by omega) (by omega) ?_
 refine Zt (m:=sp.toNat) (fun i ρ M=>∃o t x5,BagO o/\ρ=[none,some (.m 0),some (.p (.int sp)),some (.p (.str good)),some (.p (.str t)),x5]/\M=[o]/\wt t<=bnd i) ⟨o2,good,_,B2,rfl,rfl,hg⟩ (fun i ρ2 M2 hi hI=>?_) (fun ρ2 M2 hI=>?_)
 ·obtain⟨o3,t,x5,B3,rfl,rfl,ht⟩:=hI
  walk_at "pk"
  have hb:bnd i<=290000:=by
   rcases(show i=0\/i=1\/i=2 by omega) with rfl|rfl|rfl<;>decide
  refine spl_at B3 (by omega) fun z o4 hz B4=>?_
  walk_at "pk"
  exact⟨o4,z,_,B4,rfl,rfl,by show wt z<=3*bnd i+6000; omega⟩
 obtain⟨o3,t,x5,B3,rfl,rfl,ht⟩:=hI
 have hb:bnd sp.toNat<=900000:=by
  rcases(show sp.toNat=0\/sp.toNat=1\/sp.toNat=2\/sp.toNat=3 by omega) with e|e|e|e<;>rw[e]<;>decide
 walk_at "pk"
 refine ZK (by decide) (by decide) ?_
 refine Zt (m:=2) (fun i ρ M=>∃x5,ρ=[none,some (.m 0),some (.p (.int sp)),some (.p (.str good)),some (.p (.str t)),x5]/\M=[o3]) ⟨_,rfl,rfl⟩ (fun i ρ2 M2 hi hI=>?_) (fun ρ2 M2 hI=>?_)
 ·obtain⟨x5,rfl,rfl⟩:=hI
  walk_at "pk"
  refine⟨t,rfl,by omega, ?_⟩
  walk_at "pk"
  refine⟨good,rfl,by omega, ?_⟩
  walk_at "pk"
  exact⟨_,rfl⟩
 obtain⟨x5,rfl,rfl⟩:=hI
 walk_at "pk"
 exact⟨"", rfl,by decide +kernel,rfl⟩
end
end Mw
namespace Mw
open PySem L2
theorem all_mk {l:PySem.W.OpenLaw} {w:World} {K:PySem.W.Frag} {h:Heap} {mg:Str->Option Value} {fa f1 f2 f3 f4 f5 f6 f7 f8 f9 f10 f11 f12 f13 f14 f15 f16 f17 f18 f19 f20 f21 f22 f23 f24  CENoText CEWordError CEWk CENought CENoRoom CEFaulty CENotFormed:Addr} (X:K.In h) (G:h.Ns mainGlobals mg) (hfa:mg "law" = some (.ref fa))
  {od1 an1 od2 an2 od3 an3 od4 an4 od5 an5 od6 an6 od7 an7 od8 an8 od9 an9 od10 an10 od11 an11 od12 an12 od13 an13 od14 an14 od15 an15 od16 an16 od17 an17 od18 an18 od19 an19 od20 an20 od21 an21 od22 an22 od23 an23 od24 an24:Option Addr} {sl1 sl2 sl3 sl4 sl5 sl6 sl7 sl8 sl9 sl10 sl11 sl12 sl13 sl14 sl15 sl16 sl17 sl18 sl19 sl20 sl21 sl22 sl23 sl24:Array (Option Value)} {oc1 kV1 dc1 pm1 cdd1 ct1 oc2 kV2 dc2 pm2 cdd2 ct2 oc3 kV3 dc3 pm3 cdd3 ct3 oc4 kV4 dc4 pm4 cdd4 ct4 oc5 kV5 dc5 pm5 cdd5 ct5 oc6 kV6 dc6 pm6 cdd6 ct6 oc7 kV7 dc7 pm7 cdd7 ct7 oc8 kV8 dc8 pm8 cdd8 ct8 oc9 kV9 dc9 pm9 cdd9 ct9 oc10 kV10 dc10 pm10 cdd10 ct10 oc11 kV11 dc11 pm11 cdd11 ct11 oc12 kV12 dc12 pm12 cdd12 ct12 oc13 kV13 dc13 pm13 cdd13 ct13 oc14 kV14 dc14 pm14 cdd14 ct14 oc15 kV15 dc15 pm15 cdd15 ct15 oc16 kV16 dc16 pm16 cdd16 ct16 oc17 kV17 dc17 pm17 cdd17 ct17 oc18 kV18 dc18 pm18 cdd18 ct18 oc19 kV19 dc19 pm19 cdd19 ct19 oc20 kV20 dc20 pm20 cdd20 ct20 oc21 kV21 dc21 pm21 cdd21 ct21 oc22 kV22 dc22 pm22 cdd22 ct22 oc23 kV23 dc23 pm23 cdd23 ct23 oc24 kV24 dc24 pm24 cdd24 ct24:Value} {ft1:Addr} {tn1:Nat} {tsl1:Array (Option Value)} {tk1_0 tk1_1:Tok} {gk1:Tok} {gk2:Tok} {gt1:Tok} {gt2:Tok} {fD1 fk1_0 fk1_1 fk1_2 fk1_3 fk1_4 fk1_5 fk1_6 fk1_7 fk1_8 fk1_9 fk1_10 fk1_11 fk1_12 fk1_13 fk1_14 fk1_15 fk1_16 fk1_17 fk1_18 fk1_19:Addr} {de1 dn1_0 dn1_1 dn1_2 dn1_3 dn1_4 dn1_5 dn1_6 dn1_7 dn1_8 dn1_9 dn1_10 dn1_11 dn1_12 dn1_13 dn1_14 dn1_15 dn1_16 dn1_17 dn1_18 dn1_19:Nat} {ds1_0 ds1_1 ds1_2 ds1_3 ds1_4 ds1_5 ds1_6 ds1_7 ds1_8 ds1_9 ds1_10 ds1_11 ds1_12 ds1_13 ds1_14 ds1_15 ds1_16 ds1_17 ds1_18 ds1_19:Array (Option Value)} {da1_0 da1_1 da1_2 da1_3 da1_4 da1_5 da1_6 da1_7 da1_8 da1_9 da1_10 da1_11 da1_12 da1_13 da1_14 da1_15 da1_16 da1_17 da1_18 da1_19 dk1_0_0 dk1_0_1 dk1_1_0 dk1_1_1 dk1_2_0 dk1_2_1 dk1_3_0 dk1_3_1 dk1_4_0 dk1_4_1 dk1_4_2 dk1_5_0 dk1_5_1 dk1_5_2 dk1_6_0 dk1_6_1 dk1_6_2 dk1_7_0 dk1_7_1 dk1_7_2 dk1_8_0 dk1_8_1 dk1_8_2 dk1_9_0 dk1_9_1 dk1_9_2 dk1_10_0 dk1_10_1 dk1_11_0 dk1_11_1 dk1_12_0 dk1_12_1 dk1_13_0 dk1_13_1 dk1_14_0 dk1_14_1 dk1_14_2 dk1_15_0 dk1_15_1 dk1_15_2 dk1_16_0 dk1_16_1 dk1_16_2 dk1_17_0 dk1_18_0:Tok}
  (xaNoText:PySem.W.nsIn K mainGlobals "NoText" = some (some (.ref CENoText)))
  (xaWordError:PySem.W.nsIn K mainGlobals "WordError" = some (some (.ref CEWordError)))
  (xaWk:PySem.W.nsIn K mainGlobals "WrongKind" = some (some (.ref CEWk)))
  (xaNought:PySem.W.nsIn K mainGlobals "Nought" = some (some (.ref CENought)))
  (xaNoRoom:PySem.W.nsIn K mainGlobals "NoRoom" = some (some (.ref CENoRoom)))
  (xaFaulty:PySem.W.nsIn K mainGlobals "Faulty" = some (some (.ref CEFaulty)))
  (xaNotFormed:PySem.W.nsIn K mainGlobals "NotFormed" = some (some (.ref CENotFormed)))
  (xoNoText:PySem.W.excIn K CENoText [.type "ValueError", .type "Exception", .type "BaseException", .type "object"] "ValueError.__new__" = true)
  (ENoText_WordError:PySem.W.exmOne K (.ref CENoText) (.ref CEWordError)=some true)
  (a1:PySem.W.nsIn K mainGlobals "_law_bag" = some (some (.ref f1)))
  (l1:K.lookup f1=some ⟨oc1,od1, .func (PySem.W.fnOf "_law_bag" "_law_bag" (qi sBag) (qh sBag) (qc sBag) .none kV1 dc1 pm1 an1 cdd1 ct1),sl1⟩)
  (c1:PySem.W.codeIn K cdd1 "_law_bag" = true)
  (k1:PySem.W.keepIn K (.ref f1)=true)
  (a2:PySem.W.nsIn K mainGlobals "_law_draw" = some (some (.ref f2)))
  (l2:K.lookup f2=some ⟨oc2,od2, .func (PySem.W.fnOf "_law_draw" "_law_draw" (qi VQ) (qh VQ) (qc VQ) .none kV2 dc2 pm2 an2 cdd2 ct2),sl2⟩)
  (c2:PySem.W.codeIn K cdd2 "_law_draw" = true)
  (k2:PySem.W.keepIn K (.ref f2)=true)
  (a3:PySem.W.nsIn K mainGlobals "consists_of" = some (some (.ref f3)))
  (l3:K.lookup f3=some ⟨oc3,od3, .func (PySem.W.fnOf "consists_of" "consists_of" (qi vA) (qh vA) (qc vA) .none kV3 dc3 pm3 an3 cdd3 ct3),sl3⟩)
  (c3:PySem.W.codeIn K cdd3 "consists_of" = true)
  (k3:PySem.W.keepIn K (.ref f3)=true)
  (a4:PySem.W.nsIn K mainGlobals "read_whole" = some (some (.ref f4)))
  (l4:K.lookup f4=some ⟨oc4,od4, .func (PySem.W.fnOf "read_whole" "read_whole" (qi vP) (qh vP) (qc vP) .none kV4 dc4 pm4 an4 cdd4 ct4),sl4⟩)
  (c4:PySem.W.codeIn K cdd4 "read_whole" = true)
  (k4:PySem.W.keepIn K (.ref f4)=true)
  (a5:PySem.W.nsIn K mainGlobals "read_number" = some (some (.ref f5)))
  (l5:K.lookup f5=some ⟨oc5,od5, .func (PySem.W.fnOf "read_number" "read_number" (qi vz) (qh vz) (qc vz) .none kV5 dc5 pm5 an5 cdd5 ct5),sl5⟩)
  (c5:PySem.W.codeIn K cdd5 "read_number" = true)
  (k5:PySem.W.keepIn K (.ref f5)=true)
  (a6:PySem.W.nsIn K mainGlobals "read_letters" = some (some (.ref f6)))
  (l6:K.lookup f6=some ⟨oc6,od6, .func (PySem.W.fnOf "read_letters" "read_letters" (qi vh) (qh vh) (qc vh) .none kV6 dc6 pm6 an6 cdd6 ct6),sl6⟩)
  (c6:PySem.W.codeIn K cdd6 "read_letters" = true)
  (k6:PySem.W.keepIn K (.ref f6)=true)
  (a7:PySem.W.nsIn K mainGlobals "has_parts" = some (some (.ref f7)))
  (l7:K.lookup f7=some ⟨oc7,od7, .func (PySem.W.fnOf "has_parts" "has_parts" (qi zl) (qh zl) (qc zl) .none kV7 dc7 pm7 an7 cdd7 ct7),sl7⟩)
  (c7:PySem.W.codeIn K cdd7 "has_parts" = true)
  (k7:PySem.W.keepIn K (.ref f7)=true)
  (a8:PySem.W.nsIn K mainGlobals "read_part" = some (some (.ref f8)))
  (l8:K.lookup f8=some ⟨oc8,od8, .func (PySem.W.fnOf "read_part" "read_part" (qi zk) (qh zk) (qc zk) .none kV8 dc8 pm8 an8 cdd8 ct8),sl8⟩)
  (c8:PySem.W.codeIn K cdd8 "read_part" = true)
  (k8:PySem.W.keepIn K (.ref f8)=true)
  (a9:PySem.W.nsIn K mainGlobals "read_row" = some (some (.ref f9)))
  (l9:K.lookup f9=some ⟨oc9,od9, .func (PySem.W.fnOf "read_row" "read_row" (qi xa) (qh xa) (qc xa) .none kV9 dc9 pm9 an9 cdd9 ct9),sl9⟩)
  (c9:PySem.W.codeIn K cdd9 "read_row" = true)
  (k9:PySem.W.keepIn K (.ref f9)=true)
  (a10:PySem.W.nsIn K mainGlobals "read" = some (some (.ref f10)))
  (l10:K.lookup f10=some ⟨oc10,od10, .func (PySem.W.fnOf "read" "read" (qi XH) (qh XH) (qc XH) .none kV10 dc10 pm10 an10 cdd10 ct10),sl10⟩)
  (c10:PySem.W.codeIn K cdd10 "read" = true)
  (k10:PySem.W.keepIn K (.ref f10)=true)
  (a11:PySem.W.nsIn K mainGlobals "_law_any_number" = some (some (.ref f11)))
  (l11:K.lookup f11=some ⟨oc11,od11, .func (PySem.W.fnOf "_law_any_number" "_law_any_number" (qi vR) (qh vR) (qc vR) .none kV11 dc11 pm11 an11 cdd11 ct11),sl11⟩)
  (c11:PySem.W.codeIn K cdd11 "_law_any_number" = true)
  (k11:PySem.W.keepIn K (.ref f11)=true)
  (a12:PySem.W.nsIn K mainGlobals "_law_letters" = some (some (.ref f12)))
  (l12:K.lookup f12=some ⟨oc12,od12, .func (PySem.W.fnOf "_law_letters" "_law_letters" (qi xb) (qh xb) (qc xb) .none kV12 dc12 pm12 an12 cdd12 ct12),sl12⟩)
  (c12:PySem.W.codeIn K cdd12 "_law_letters" = true)
  (k12:PySem.W.keepIn K (.ref f12)=true)
  (a13:PySem.W.nsIn K mainGlobals "_law_part" = some (some (.ref f13)))
  (l13:K.lookup f13=some ⟨oc13,od13, .func (PySem.W.fnOf "_law_part" "_law_part" (qi XI) (qh XI) (qc XI) .none kV13 dc13 pm13 an13 cdd13 ct13),sl13⟩)
  (c13:PySem.W.codeIn K cdd13 "_law_part" = true)
  (k13:PySem.W.keepIn K (.ref f13)=true)
  (a14:PySem.W.nsIn K mainGlobals "_law_any_row" = some (some (.ref f14)))
  (l14:K.lookup f14=some ⟨oc14,od14, .func (PySem.W.fnOf "_law_any_row" "_law_any_row" (qi xY) (qh xY) (qc xY) .none kV14 dc14 pm14 an14 cdd14 ct14),sl14⟩)
  (c14:PySem.W.codeIn K cdd14 "_law_any_row" = true)
  (k14:PySem.W.keepIn K (.ref f14)=true)
  (a15:PySem.W.nsIn K mainGlobals "_law_any_script" = some (some (.ref f15)))
  (l15:K.lookup f15=some ⟨oc15,od15, .func (PySem.W.fnOf "_law_any_script" "_law_any_script" (qi vQ) (qh vQ) (qc vQ) .none kV15 dc15 pm15 an15 cdd15 ct15),sl15⟩)
  (c15:PySem.W.codeIn K cdd15 "_law_any_script" = true)
  (k15:PySem.W.keepIn K (.ref f15)=true)
  (a16:PySem.W.nsIn K mainGlobals "_law_any_sign" = some (some (.ref f16)))
  (l16:K.lookup f16=some ⟨oc16,od16, .func (PySem.W.fnOf "_law_any_sign" "_law_any_sign" (qi xf) (qh xf) (qc xf) .none kV16 dc16 pm16 an16 cdd16 ct16),sl16⟩)
  (c16:PySem.W.codeIn K cdd16 "_law_any_sign" = true)
  (k16:PySem.W.keepIn K (.ref f16)=true)
  (a17:PySem.W.nsIn K mainGlobals "_law_blot" = some (some (.ref f17)))
  (l17:K.lookup f17=some ⟨oc17,od17, .func (PySem.W.fnOf "_law_blot" "_law_blot" (qi XJ) (qh XJ) (qc XJ) .none kV17 dc17 pm17 an17 cdd17 ct17),sl17⟩)
  (c17:PySem.W.codeIn K cdd17 "_law_blot" = true)
  (k17:PySem.W.keepIn K (.ref f17)=true)
  (a18:PySem.W.nsIn K mainGlobals "_law_bent_row" = some (some (.ref f18)))
  (l18:K.lookup f18=some ⟨oc18,od18, .func (PySem.W.fnOf "_law_bent_row" "_law_bent_row" (qi xc) (qh xc) (qc xc) .none kV18 dc18 pm18 an18 cdd18 ct18),sl18⟩)
  (c18:PySem.W.codeIn K cdd18 "_law_bent_row" = true)
  (k18:PySem.W.keepIn K (.ref f18)=true)
  (a19:PySem.W.nsIn K mainGlobals "_law_spoilt" = some (some (.ref f19)))
  (l19:K.lookup f19=some ⟨oc19,od19, .func (PySem.W.fnOf "_law_spoilt" "_law_spoilt" (qi xX) (qh xX) (qc xX) .none kV19 dc19 pm19 an19 cdd19 ct19),sl19⟩)
  (c19:PySem.W.codeIn K cdd19 "_law_spoilt" = true)
  (k19:PySem.W.keepIn K (.ref f19)=true)
  (a20:PySem.W.nsIn K mainGlobals "_law_value" = some (some (.ref f20)))
  (l20:K.lookup f20=some ⟨oc20,od20, .func (PySem.W.fnOf "_law_value" "_law_value" (qi kh) (qh kh) (qc kh) .none kV20 dc20 pm20 an20 cdd20 ct20),sl20⟩)
  (c20:PySem.W.codeIn K cdd20 "_law_value" = true)
  (k20:PySem.W.keepIn K (.ref f20)=true)
  (a21:PySem.W.nsIn K mainGlobals "_law_row_of" = some (some (.ref f21)))
  (l21:K.lookup f21=some ⟨oc21,od21, .func (PySem.W.fnOf "_law_row_of" "_law_row_of" (qi ki) (qh ki) (qc ki) .none kV21 dc21 pm21 an21 cdd21 ct21),sl21⟩)
  (c21:PySem.W.codeIn K cdd21 "_law_row_of" = true)
  (k21:PySem.W.keepIn K (.ref f21)=true)
  (a22:PySem.W.nsIn K mainGlobals "_law_alike" = some (some (.ref f22)))
  (l22:K.lookup f22=some ⟨oc22,od22, .func (PySem.W.fnOf "_law_alike" "_law_alike" (qi xN) (qh xN) (qc xN) .none kV22 dc22 pm22 an22 cdd22 ct22),sl22⟩)
  (c22:PySem.W.codeIn K cdd22 "_law_alike" = true)
  (k22:PySem.W.keepIn K (.ref f22)=true)
  (a23:PySem.W.nsIn K mainGlobals "_law_right" = some (some (.ref f23)))
  (l23:K.lookup f23=some ⟨oc23,od23, .func (PySem.W.fnOf "_law_right" "_law_right" (qi kj) (qh kj) (qc kj) .none kV23 dc23 pm23 an23 cdd23 ct23),sl23⟩)
  (c23:PySem.W.codeIn K cdd23 "_law_right" = true)
  (k23:PySem.W.keepIn K (.ref f23)=true)
  (a24:PySem.W.nsIn K mainGlobals "law" = some (some (.ref f24)))
  (l24:K.lookup f24=some ⟨oc24,od24, .func (PySem.W.fnOf "law" "law" (qi sLaw) (qh sLaw) (qc sLaw) .none kV24 dc24 pm24 an24 cdd24 ct24),sl24⟩)
  (c24:PySem.W.codeIn K cdd24 "law" = true)
  (k24:PySem.W.keepIn K (.ref f24)=true)
  (xt1NoText:PySem.W.findIn K (.ref CENoText) "__getattribute__" = some (some (.builtin "BaseException.__getattribute__")))
  (xt2NoText:PySem.W.findIn K (.ref CENoText) "__getattr__" = some none)
  (xt3NoText:PySem.W.mroIn K CENoText (.type "BaseException")=some true)
  (xt4NoText:PySem.W.hasDictIn K CENoText=true)
  (xt5NoText:PySem.W.findIn K (.ref CENoText) "__class__" = some (some (.builtin "object.__class__")))
  (xt6NoText:PySem.W.specialIn K (.builtin "object.__class__") "__get__" = some (some (.builtin "getset_descriptor.__get__")))
  (xt7NoText:PySem.W.takesIn K (.builtin "object.__class__")=some true)
  (xt8NoText:PySem.W.mroIn K CENoText (.type "object")=some true)
  (INoText_ValueError:PySem.W.kitOne K (.ref CENoText) (.type "ValueError")=some true)
  (INoText_NoText:PySem.W.kitOne K (.ref CENoText) (.ref CENoText)=some true)
  (INoText_Wk_Nought_NoRoom:PySem.W.kitAny K (.ref CENoText) [.ref CEWk, .ref CENought, .ref CENoRoom]=some false)
  (INoText_Faulty_NotFormed:PySem.W.kitAny K (.ref CENoText) [.ref CEFaulty, .ref CENotFormed]=some false)
  (ynNVE:PySem.W.nsIn K mainGlobals "ValueError" = some none)
  (z1:PySem.W.nsIn K mainGlobals "abs" = some none)
  (z2:PySem.W.nsIn K mainGlobals "len" = some none)
  (z3:PySem.W.nsIn K mainGlobals "min" = some none)
  (z4:PySem.W.nsIn K mainGlobals "max" = some none)
  (z5:PySem.W.nsIn K mainGlobals "sum" = some none)
  (z6:PySem.W.nsIn K mainGlobals "sorted" = some none)
  (z7:PySem.W.nsIn K mainGlobals "all" = some none)
  (z8:PySem.W.nsIn K mainGlobals "any" = some none)
  (z9:PySem.W.nsIn K mainGlobals "isinstance" = some none)
  (z10:PySem.W.nsIn K mainGlobals "range" = some none)
  (z11:PySem.W.nsIn K mainGlobals "int" = some none)
  (z12:PySem.W.nsIn K mainGlobals "list" = some none)
  (z13:PySem.W.nsIn K mainGlobals "str" = some none)
  (z14:PySem.W.nsIn K mainGlobals "bool" = some none)
  (z15:PySem.W.nsIn K mainGlobals "tuple" = some none)
  (z16:PySem.W.nsIn K mainGlobals "zip" = some none)
  (z17:PySem.W.nsIn K mainGlobals "enumerate" = some none)
  (z18:PySem.W.nsIn K mainGlobals "dict" = some none)
  (p1:PySem.W.nsIn K mainGlobals "TEXT_PARTS" = some (some (.ref ft1)))
  (q1:K.lookup ft1=some ⟨.type "tuple", none, .seq #[.str "three" tk1_0, .str "kind" tk1_1] tn1,tsl1⟩)
  (g1:PySem.W.nsIn K mainGlobals "MOST_FIGURES" = some (some (.int 60 gk1)))
  (g2:PySem.W.nsIn K mainGlobals "MOST_LETTERS" = some (some (.int 8 gk2)))
  (gs1:PySem.W.nsIn K mainGlobals "FIGURES" = some (some (.str "0123456789" gt1)))
  (gs2:PySem.W.nsIn K mainGlobals "LETTERS" = some (some (.str "abcdefghijklmnopqrstuvwxyz" gt2)))
  (dg1:PySem.W.nsIn K mainGlobals "FORMS" = some (some (.ref fD1)))
  (dl1:K.lookup fD1=some ⟨.type "dict", none, .dict (([("number", da1_0, .ref fk1_0),("sign", da1_1, .ref fk1_1),("one", da1_2, .ref fk1_2),("copy", da1_3, .ref fk1_3),("plus", da1_4, .ref fk1_4),("less", da1_5, .ref fk1_5),("times", da1_6, .ref fk1_6),("over", da1_7, .ref fk1_7),("rest", da1_8, .ref fk1_8),("pair", da1_9, .ref fk1_9),("first", da1_10, .ref fk1_10),("second", da1_11, .ref fk1_11),("set_first", da1_12, .ref fk1_12),("set_second", da1_13, .ref fk1_13),("below", da1_14, .ref fk1_14),("same", da1_15, .ref fk1_15),("kind", da1_16, .ref fk1_16),("tell", da1_17, .ref fk1_17),("jump", da1_18, .ref fk1_18),("end", da1_19, .ref fk1_19)]:List (Str×Tok×Value)).map (entD w.params)).toArray de1, #[]⟩)
  (dt1_0:K.lookup fk1_0=some ⟨.type "tuple", none, .seq #[.str "r" dk1_0_0, .str "n" dk1_0_1] dn1_0,ds1_0⟩)
  (dt1_1:K.lookup fk1_1=some ⟨.type "tuple", none, .seq #[.str "r" dk1_1_0, .str "k" dk1_1_1] dn1_1,ds1_1⟩)
  (dt1_2:K.lookup fk1_2=some ⟨.type "tuple", none, .seq #[.str "r" dk1_2_0, .str "three" dk1_2_1] dn1_2,ds1_2⟩)
  (dt1_3:K.lookup fk1_3=some ⟨.type "tuple", none, .seq #[.str "r" dk1_3_0, .str "r" dk1_3_1] dn1_3,ds1_3⟩)
  (dt1_4:K.lookup fk1_4=some ⟨.type "tuple", none, .seq #[.str "r" dk1_4_0, .str "r" dk1_4_1, .str "r" dk1_4_2] dn1_4,ds1_4⟩)
  (dt1_5:K.lookup fk1_5=some ⟨.type "tuple", none, .seq #[.str "r" dk1_5_0, .str "r" dk1_5_1, .str "r" dk1_5_2] dn1_5,ds1_5⟩)
  (dt1_6:K.lookup fk1_6=some ⟨.type "tuple", none, .seq #[.str "r" dk1_6_0, .str "r" dk1_6_1, .str "r" dk1_6_2] dn1_6,ds1_6⟩)
  (dt1_7:K.lookup fk1_7=some ⟨.type "tuple", none, .seq #[.str "r" dk1_7_0, .str "r" dk1_7_1, .str "r" dk1_7_2] dn1_7,ds1_7⟩)
  (dt1_8:K.lookup fk1_8=some ⟨.type "tuple", none, .seq #[.str "r" dk1_8_0, .str "r" dk1_8_1, .str "r" dk1_8_2] dn1_8,ds1_8⟩)
  (dt1_9:K.lookup fk1_9=some ⟨.type "tuple", none, .seq #[.str "r" dk1_9_0, .str "r" dk1_9_1, .str "r" dk1_9_2] dn1_9,ds1_9⟩)
  (dt1_10:K.lookup fk1_10=some ⟨.type "tuple", none, .seq #[.str "r" dk1_10_0, .str "r" dk1_10_1] dn1_10,ds1_10⟩)
  (dt1_11:K.lookup fk1_11=some ⟨.type "tuple", none, .seq #[.str "r" dk1_11_0, .str "r" dk1_11_1] dn1_11,ds1_11⟩)
  (dt1_12:K.lookup fk1_12=some ⟨.type "tuple", none, .seq #[.str "r" dk1_12_0, .str "r" dk1_12_1] dn1_12,ds1_12⟩)
  (dt1_13:K.lookup fk1_13=some ⟨.type "tuple", none, .seq #[.str "r" dk1_13_0, .str "r" dk1_13_1] dn1_13,ds1_13⟩)
  (dt1_14:K.lookup fk1_14=some ⟨.type "tuple", none, .seq #[.str "r" dk1_14_0, .str "r" dk1_14_1, .str "t" dk1_14_2] dn1_14,ds1_14⟩)
  (dt1_15:K.lookup fk1_15=some ⟨.type "tuple", none, .seq #[.str "r" dk1_15_0, .str "r" dk1_15_1, .str "t" dk1_15_2] dn1_15,ds1_15⟩)
  (dt1_16:K.lookup fk1_16=some ⟨.type "tuple", none, .seq #[.str "r" dk1_16_0, .str "kind" dk1_16_1, .str "t" dk1_16_2] dn1_16,ds1_16⟩)
  (dt1_17:K.lookup fk1_17=some ⟨.type "tuple", none, .seq #[.str "r" dk1_17_0] dn1_17,ds1_17⟩)
  (dt1_18:K.lookup fk1_18=some ⟨.type "tuple", none, .seq #[.str "t" dk1_18_0] dn1_18,ds1_18⟩)
  (dt1_19:K.lookup fk1_19=some ⟨.type "tuple", none, .seq #[] dn1_19,ds1_19⟩)
  (dz1:(fD1==sysModules)=false) :
  ∃fd:FuncData,(∀(s:Shared) (v:Value),BindsTo s fd ⟨[v], []⟩ [("script", v)])/\∀base:Heap,K.In base->base.Ns mainGlobals mg->FnOk l.prog w K mg base CX0 8 fa fd ["script"] (Jx K):=by
 have e:=hfa.symm.trans (PySem.W.mg_of X G a24)
 cases e
 have N:Nms mg:=⟨PySem.W.mg_none_of X G z1,PySem.W.mg_none_of X G z2,PySem.W.mg_none_of X G z3,PySem.W.mg_none_of X G z4,PySem.W.mg_none_of X G z5,PySem.W.mg_none_of X G z6,PySem.W.mg_none_of X G z7,PySem.W.mg_none_of X G z8,PySem.W.mg_none_of X G z9,PySem.W.mg_none_of X G z10,PySem.W.mg_none_of X G z11,PySem.W.mg_none_of X G z12,PySem.W.mg_none_of X G z13,PySem.W.mg_none_of X G z14,PySem.W.mg_none_of X G z15,PySem.W.mg_none_of X G z16,PySem.W.mg_none_of X G z17,PySem.W.mg_none_of X G z18⟩
 have T2:Tup2 K mg "TEXT_PARTS" ft1 "three" "kind" := ⟨PySem.W.mg_of X G p1,_,_,_,_,q1⟩
 have GMostF:GInt mg "MOST_FIGURES" 60:=⟨_,PySem.W.mg_of X G g1⟩
 have GMostL:GInt mg "MOST_LETTERS" 8:=⟨_,PySem.W.mg_of X G g2⟩
 have GFig:GStr mg "FIGURES" "0123456789" := ⟨_,PySem.W.mg_of X G gs1⟩
 have GLet:GStr mg "LETTERS" "abcdefghijklmnopqrstuvwxyz" := ⟨_,PySem.W.mg_of X G gs2⟩
 have DForms:KDt K w mg "FORMS" fD1 [("number", fk1_0, ["r", "n"]),("sign", fk1_1, ["r", "k"]),("one", fk1_2, ["r", "three"]),("copy", fk1_3, ["r", "r"]),("plus", fk1_4, ["r", "r", "r"]),("less", fk1_5, ["r", "r", "r"]),("times", fk1_6, ["r", "r", "r"]),("over", fk1_7, ["r", "r", "r"]),("rest", fk1_8, ["r", "r", "r"]),("pair", fk1_9, ["r", "r", "r"]),("first", fk1_10, ["r", "r"]),("second", fk1_11, ["r", "r"]),("set_first", fk1_12, ["r", "r"]),("set_second", fk1_13, ["r", "r"]),("below", fk1_14, ["r", "r", "t"]),("same", fk1_15, ["r", "r", "t"]),("kind", fk1_16, ["r", "kind", "t"]),("tell", fk1_17, ["r"]),("jump", fk1_18, ["t"]),("end", fk1_19, [])]:=⟨⟨PySem.W.mg_of X G dg1,_,_,dl1,by show(["number", "sign", "one", "copy", "plus", "less", "times", "over", "rest", "pair", "first", "second", "set_first", "set_second", "below", "same", "kind", "tell", "jump", "end"]:List Str).Nodup; decide +kernel,(.cons ⟨rfl,rfl⟩ (.cons ⟨rfl,rfl⟩ (.cons ⟨rfl,rfl⟩ (.cons ⟨rfl,rfl⟩ (.cons ⟨rfl,rfl⟩ (.cons ⟨rfl,rfl⟩ (.cons ⟨rfl,rfl⟩ (.cons ⟨rfl,rfl⟩ (.cons ⟨rfl,rfl⟩ (.cons ⟨rfl,rfl⟩ (.cons ⟨rfl,rfl⟩ (.cons ⟨rfl,rfl⟩ (.cons ⟨rfl,rfl⟩ (.cons ⟨rfl,rfl⟩ (.cons ⟨rfl,rfl⟩ (.cons ⟨rfl,rfl⟩ (.cons ⟨rfl,rfl⟩ (.cons ⟨rfl,rfl⟩ (.cons ⟨rfl,rfl⟩ (.cons ⟨rfl,rfl⟩ .nil))))))))))))))))))))⟩,List.forall_mem_cons.mpr ⟨fun H=>.inr ⟨_,_,_,dt1_0,rfl,rfl,by show 2<=sizeLine; decide,(.cons ⟨_,rfl⟩ (.cons ⟨_,rfl⟩ .nil))⟩,List.forall_mem_cons.mpr ⟨fun H=>.inr ⟨_,_,_,dt1_1,rfl,rfl,by show 2<=sizeLine; decide,(.cons ⟨_,rfl⟩ (.cons ⟨_,rfl⟩ .nil))⟩,List.forall_mem_cons.mpr ⟨fun H=>.inr ⟨_,_,_,dt1_2,rfl,rfl,by show 2<=sizeLine; decide,(.cons ⟨_,rfl⟩ (.cons ⟨_,rfl⟩ .nil))⟩,List.forall_mem_cons.mpr ⟨fun H=>.inr ⟨_,_,_,dt1_3,rfl,rfl,by show 2<=sizeLine; decide,(.cons ⟨_,rfl⟩ (.cons ⟨_,rfl⟩ .nil))⟩,List.forall_mem_cons.mpr ⟨fun H=>.inr ⟨_,_,_,dt1_4,rfl,rfl,by show 3<=sizeLine; decide,(.cons ⟨_,rfl⟩ (.cons ⟨_,rfl⟩ (.cons ⟨_,rfl⟩ .nil)))⟩,List.forall_mem_cons.mpr ⟨fun H=>.inr ⟨_,_,_,dt1_5,rfl,rfl,by show 3<=sizeLine; decide,(.cons ⟨_,rfl⟩ (.cons ⟨_,rfl⟩ (.cons ⟨_,rfl⟩ .nil)))⟩,List.forall_mem_cons.mpr ⟨fun H=>.inr ⟨_,_,_,dt1_6,rfl,rfl,by show 3<=sizeLine; decide,(.cons ⟨_,rfl⟩ (.cons ⟨_,rfl⟩ (.cons ⟨_,rfl⟩ .nil)))⟩,List.forall_mem_cons.mpr ⟨fun H=>.inr ⟨_,_,_,dt1_7,rfl,rfl,by show 3<=sizeLine; decide,(.cons ⟨_,rfl⟩ (.cons ⟨_,rfl⟩ (.cons ⟨_,rfl⟩ .nil)))⟩,List.forall_mem_cons.mpr ⟨fun H=>.inr ⟨_,_,_,dt1_8,rfl,rfl,by show 3<=sizeLine; decide,(.cons ⟨_,rfl⟩ (.cons ⟨_,rfl⟩ (.cons ⟨_,rfl⟩ .nil)))⟩,List.forall_mem_cons.mpr ⟨fun H=>.inr ⟨_,_,_,dt1_9,rfl,rfl,by show 3<=sizeLine; decide,(.cons ⟨_,rfl⟩ (.cons ⟨_,rfl⟩ (.cons ⟨_,rfl⟩ .nil)))⟩,List.forall_mem_cons.mpr ⟨fun H=>.inr ⟨_,_,_,dt1_10,rfl,rfl,by show 2<=sizeLine; decide,(.cons ⟨_,rfl⟩ (.cons ⟨_,rfl⟩ .nil))⟩,List.forall_mem_cons.mpr ⟨fun H=>.inr ⟨_,_,_,dt1_11,rfl,rfl,by show 2<=sizeLine; decide,(.cons ⟨_,rfl⟩ (.cons ⟨_,rfl⟩ .nil))⟩,List.forall_mem_cons.mpr ⟨fun H=>.inr ⟨_,_,_,dt1_12,rfl,rfl,by show 2<=sizeLine; decide,(.cons ⟨_,rfl⟩ (.cons ⟨_,rfl⟩ .nil))⟩,List.forall_mem_cons.mpr ⟨fun H=>.inr ⟨_,_,_,dt1_13,rfl,rfl,by show 2<=sizeLine; decide,(.cons ⟨_,rfl⟩ (.cons ⟨_,rfl⟩ .nil))⟩,List.forall_mem_cons.mpr ⟨fun H=>.inr ⟨_,_,_,dt1_14,rfl,rfl,by show 3<=sizeLine; decide,(.cons ⟨_,rfl⟩ (.cons ⟨_,rfl⟩ (.cons ⟨_,rfl⟩ .nil)))⟩,List.forall_mem_cons.mpr ⟨fun H=>.inr ⟨_,_,_,dt1_15,rfl,rfl,by show 3<=sizeLine; decide,(.cons ⟨_,rfl⟩ (.cons ⟨_,rfl⟩ (.cons ⟨_,rfl⟩ .nil)))⟩,List.forall_mem_cons.mpr ⟨fun H=>.inr ⟨_,_,_,dt1_16,rfl,rfl,by show 3<=sizeLine; decide,(.cons ⟨_,rfl⟩ (.cons ⟨_,rfl⟩ (.cons ⟨_,rfl⟩ .nil)))⟩,List.forall_mem_cons.mpr ⟨fun H=>.inr ⟨_,_,_,dt1_17,rfl,rfl,by show 1<=sizeLine; decide,(.cons ⟨_,rfl⟩ .nil)⟩,List.forall_mem_cons.mpr ⟨fun H=>.inr ⟨_,_,_,dt1_18,rfl,rfl,by show 1<=sizeLine; decide,(.cons ⟨_,rfl⟩ .nil)⟩,List.forall_mem_cons.mpr ⟨fun H=>.inr ⟨_,_,_,dt1_19,rfl,rfl,by show 0<=sizeLine; decide, .nil⟩,fun _ h=>nomatch h⟩⟩⟩⟩⟩⟩⟩⟩⟩⟩⟩⟩⟩⟩⟩⟩⟩⟩⟩⟩⟩
 have nsF:=dz1
 have eF:kdT [("number", fk1_0, ["r", "n"]),("sign", fk1_1, ["r", "k"]),("one", fk1_2, ["r", "three"]),("copy", fk1_3, ["r", "r"]),("plus", fk1_4, ["r", "r", "r"]),("less", fk1_5, ["r", "r", "r"]),("times", fk1_6, ["r", "r", "r"]),("over", fk1_7, ["r", "r", "r"]),("rest", fk1_8, ["r", "r", "r"]),("pair", fk1_9, ["r", "r", "r"]),("first", fk1_10, ["r", "r"]),("second", fk1_11, ["r", "r"]),("set_first", fk1_12, ["r", "r"]),("set_second", fk1_13, ["r", "r"]),("below", fk1_14, ["r", "r", "t"]),("same", fk1_15, ["r", "r", "t"]),("kind", fk1_16, ["r", "kind", "t"]),("tell", fk1_17, ["r"]),("jump", fk1_18, ["t"]),("end", fk1_19, [])]=formsT:=rfl
 have ONoText:ExcC K mg "NoText" CENoText:=⟨PySem.W.mg_of X G xaNoText,xoNoText⟩
 have BWordError:=PySem.W.mg_of X G xaWordError
 have BWk:=PySem.W.mg_of X G xaWk
 have BNought:=PySem.W.mg_of X G xaNought
 have BNoRoom:=PySem.W.mg_of X G xaNoRoom
 have BFaulty:=PySem.W.mg_of X G xaFaulty
 have BNotFormed:=PySem.W.mg_of X G xaNotFormed
 have BNoText:=PySem.W.mg_of X G xaNoText
 have TNoText:ExcT K CENoText:=⟨xt1NoText,xt2NoText,xt3NoText,xt4NoText,xt5NoText,xt6NoText,xt7NoText,xt8NoText⟩
 have NVE:=PySem.W.mg_none_of X G ynNVE
 have F1:=vc (st:=sBag) l1 c1 k1
 have b1:=F1.binds (ps:=["script"]) fun _ _ _ _ _ _ us hl=>match us,hl with | [_],_=>rfl
 have F2:=vc (st:=VQ) l2 c2 k2
 have b2:=F2.binds (ps:=["bag", "many"]) fun _ _ _ _ _ _ us hl=>match us,hl with | [_,_],_=>rfl
 have F3:=vc (st:=vA) l3 c3 k3
 have b3:=F3.binds (ps:=["text", "signs"]) fun _ _ _ _ _ _ us hl=>match us,hl with | [_,_],_=>rfl
 have F4:=vc (st:=vP) l4 c4 k4
 have b4:=F4.binds (ps:=["text", "most"]) fun _ _ _ _ _ _ us hl=>match us,hl with | [_,_],_=>rfl
 have F5:=vc (st:=vz) l5 c5 k5
 have b5:=F5.binds (ps:=["text"]) fun _ _ _ _ _ _ us hl=>match us,hl with | [_],_=>rfl
 have F6:=vc (st:=vh) l6 c6 k6
 have b6:=F6.binds (ps:=["text"]) fun _ _ _ _ _ _ us hl=>match us,hl with | [_],_=>rfl
 have F7:=vc (st:=zl) l7 c7 k7
 have b7:=F7.binds (ps:=["row"]) fun _ _ _ _ _ _ us hl=>match us,hl with | [_],_=>rfl
 have F8:=vc (st:=zk) l8 c8 k8
 have b8:=F8.binds (ps:=["form", "text"]) fun _ _ _ _ _ _ us hl=>match us,hl with | [_,_],_=>rfl
 have F9:=vc (st:=xa) l9 c9 k9
 have b9:=F9.binds (ps:=["text"]) fun _ _ _ _ _ _ us hl=>match us,hl with | [_],_=>rfl
 have F10:=vc (st:=XH) l10 c10 k10
 have b10:=F10.binds (ps:=["text"]) fun _ _ _ _ _ _ us hl=>match us,hl with | [_],_=>rfl
 have F11:=vc (st:=vR) l11 c11 k11
 have b11:=F11.binds (ps:=["bag"]) fun _ _ _ _ _ _ us hl=>match us,hl with | [_],_=>rfl
 have F12:=vc (st:=xb) l12 c12 k12
 have b12:=F12.binds (ps:=[]) fun _ _ _ _ _ _ us hl=>match us,hl with | [],_=>rfl
 have F13:=vc (st:=XI) l13 c13 k13
 have b13:=F13.binds (ps:=["bag", "letter", "many"]) fun _ _ _ _ _ _ us hl=>match us,hl with | [_,_,_],_=>rfl
 have F14:=vc (st:=xY) l14 c14 k14
 have b14:=F14.binds (ps:=["bag", "word", "many"]) fun _ _ _ _ _ _ us hl=>match us,hl with | [_,_,_],_=>rfl
 have F15:=vc (st:=vQ) l15 c15 k15
 have b15:=F15.binds (ps:=["bag"]) fun _ _ _ _ _ _ us hl=>match us,hl with | [_],_=>rfl
 have F16:=vc (st:=xf) l16 c16 k16
 have b16:=F16.binds (ps:=["bag"]) fun _ _ _ _ _ _ us hl=>match us,hl with | [_],_=>rfl
 have F17:=vc (st:=XJ) l17 c17 k17
 have b17:=F17.binds (ps:=["bag"]) fun _ _ _ _ _ _ us hl=>match us,hl with | [_],_=>rfl
 have F18:=vc (st:=xc) l18 c18 k18
 have b18:=F18.binds (ps:=["bag", "line"]) fun _ _ _ _ _ _ us hl=>match us,hl with | [_,_],_=>rfl
 have F19:=vc (st:=xX) l19 c19 k19
 have b19:=F19.binds (ps:=["bag", "text"]) fun _ _ _ _ _ _ us hl=>match us,hl with | [_,_],_=>rfl
 have F20:=vc (st:=kh) l20 c20 k20
 have b20:=F20.binds (ps:=["text", "most"]) fun _ _ _ _ _ _ us hl=>match us,hl with | [_,_],_=>rfl
 have F21:=vc (st:=ki) l21 c21 k21
 have b21:=F21.binds (ps:=["line"]) fun _ _ _ _ _ _ us hl=>match us,hl with | [_],_=>rfl
 have F22:=vc (st:=xN) l22 c22 k22
 have b22:=F22.binds (ps:=["found", "due"]) fun _ _ _ _ _ _ us hl=>match us,hl with | [_,_],_=>rfl
 have F23:=vc (st:=kj) l23 c23 k23
 have b23:=F23.binds (ps:=["text"]) fun _ _ _ _ _ _ us hl=>match us,hl with | [_],_=>rfl
 have F24:=vc (st:=sLaw) l24 c24 k24
 refine⟨PySem.W.fnOf "law" "law" (qi sLaw) (qh sLaw) (qc sLaw) .none kV24 dc24 pm24 an24 cdd24 ct24,fun s v=>.of_eq rfl,fun base _ _=>?_⟩
 have DBag:Def l.prog w K mg base "_law_bag" 1 ["script"] (spBag K):=⟨f1,_,PySem.W.mg_of X G a1,k1,b1,ok_bag F1 N⟩
 have DDraw:Def l.prog w K mg base "_law_draw" 1 ["bag", "many"] (spU jq):=⟨f2,_,PySem.W.mg_of X G a2,k2,b2,ok_drawU F2 N⟩
 have DConsistsOf:Def l.prog w K mg base "consists_of" 1 ["text", "signs"] (spP xS):=⟨f3,_,PySem.W.mg_of X G a3,k3,b3,Vc F3 N⟩
 have DReadWhole:DefX l.prog w K mg base "read_whole" 2 ["text", "most"] (spX mg V9):=⟨f4,_,PySem.W.mg_of X G a4,k4,b4,J9 F4 N GFig ONoText DConsistsOf⟩
 have DReadNumber:DefX l.prog w K mg base "read_number" 3 ["text"] (spX mg gNumX):=⟨f5,_,PySem.W.mg_of X G a5,k5,b5,XR F5 GMostF DReadWhole⟩
 have DReadLetters:DefX l.prog w K mg base "read_letters" 2 ["text"] (spX mg gLetX):=⟨f6,_,PySem.W.mg_of X G a6,k6,b6,VZ F6 N GLet GMostL ONoText DConsistsOf⟩
 have DHasParts:Def l.prog w K mg base "has_parts" 1 ["row"] (spP gHasW):=⟨f7,_,PySem.W.mg_of X G a7,k7,b7,ok_hasW F7 N DForms nsF eF⟩
 have DReadPart:DefX l.prog w K mg base "read_part" 4 ["form", "text"] (spX mg K0):=⟨f8,_,PySem.W.mg_of X G a8,k8,b8,ok_partX F8 T2 DReadLetters DReadNumber⟩
 have DReadRow:DefX l.prog w K mg base "read_row" 5 ["text"] (spX mg gRowX):=⟨f9,_,PySem.W.mg_of X G a9,k9,b9,ok_rowX F9 N DForms eF ONoText DHasParts DReadPart⟩
 have DRead:DefX l.prog w K mg base "read" 6 ["text"] (spX mg KZ):=⟨f10,_,PySem.W.mg_of X G a10,k10,b10,ok_readX F10 DReadRow⟩
 have DAnyNumber:Def l.prog w K mg base "_law_any_number" 2 ["bag"] (spU gAnyN):=⟨f11,_,PySem.W.mg_of X G a11,k11,b11,ka F11 N DDraw⟩
 have DLetters:Def l.prog w K mg base "_law_letters" 1 [] (spU v7):=⟨f12,_,PySem.W.mg_of X G a12,k12,b12,jp F12⟩
 have DPart:Def l.prog w K mg base "_law_part" 3 ["bag", "letter", "many"] (spU gPart):=⟨f13,_,PySem.W.mg_of X G a13,k13,b13,Kc F13 N DDraw DAnyNumber⟩
 have DAnyRow:Def l.prog w K mg base "_law_any_row" 4 ["bag", "word", "many"] (spU Qn):=⟨f14,_,PySem.W.mg_of X G a14,k14,b14,V0 F14 N DLetters DPart⟩
 have DAnyScript:Def l.prog w K mg base "_law_any_script" 5 ["bag"] (spU Qm):=⟨f15,_,PySem.W.mg_of X G a15,k15,b15,j9 F15 N DDraw DLetters DAnyRow⟩
 have DAnySign:Def l.prog w K mg base "_law_any_sign" 2 ["bag"] (spU KU):=⟨f16,_,PySem.W.mg_of X G a16,k16,b16,Vd F16 N DDraw⟩
 have DBlot:Def l.prog w K mg base "_law_blot" 3 ["bag"] (spU gBlot):=⟨f17,_,PySem.W.mg_of X G a17,k17,b17,ok_blotU F17 N DDraw DAnySign⟩
 have DBentRow:Def l.prog w K mg base "_law_bent_row" 2 ["bag", "line"] (spU Xc):=⟨f18,_,PySem.W.mg_of X G a18,k18,b18,Kd F18 N DDraw DLetters⟩
 have DSpoilt:Def l.prog w K mg base "_law_spoilt" 4 ["bag", "text"] (spU Ql):=⟨f19,_,PySem.W.mg_of X G a19,k19,b19,XQ F19 N DDraw DAnySign DBlot DBentRow⟩
 have DValue:Def l.prog w K mg base "_law_value" 1 ["text", "most"] (spP Qj):=⟨f20,_,PySem.W.mg_of X G a20,k20,b20,Ka F20 N⟩
 have DRowOf:Def l.prog w K mg base "_law_row_of" 2 ["line"] (spP KW):=⟨f21,_,PySem.W.mg_of X G a21,k21,b21,ok_rowOf F21 N DLetters DValue⟩
 have DAlike:Def l.prog w K mg base "_law_alike" 4 ["found", "due"] (spP (K1 3)):=⟨f22,_,PySem.W.mg_of X G a22,k22,b22,XS F22 N (PySem.W.mg_of X G a22) k22 b22⟩
 have DRight:Def l.prog w K mg base "_law_right" 7 ["text"] (spP KY):=⟨f23,_,PySem.W.mg_of X G a23,k23,b23,Kb F23 N NVE BWordError BNoText BWk BNought BNoRoom BFaulty BNotFormed ENoText_WordError TNoText INoText_ValueError INoText_NoText INoText_Wk_Nought_NoRoom INoText_Faulty_NotFormed DRead DRowOf DAlike⟩
 exact ok_lawU F24 N DBag DDraw DAnyScript DSpoilt DRight
theorem walk {l:PySem.W.OpenLaw} {q:Program} {loose:List Str} {XP:(Str->Option Value)->Heap->Prop} {YP:World->Heap->Prop} {d:DefRec} {K:Params->PySem.W.Frag} (hn:l.most=some 63) (hdf:d.params.defaults=[])
  (hY:∀(w:World) (h:Heap),YP w h->(K w.params).In h)
  (F:∀(w:World) (mg:Str->Option Value) (fa:Addr) (h:Heap),(K w.params).In h->h.Ns mainGlobals mg->mg d.name=some (.ref fa) ->
   ∃fd:FuncData,(∀(s:Shared) (u:Value),BindsTo s fd ⟨[u], []⟩ [("script", u)])/\∀base:Heap,(K w.params).In base->base.Ns mainGlobals mg->FnOk l.prog w (K w.params) mg base CX0 8 fa fd ["script"] (Jx (K w.params))) :
  PySem.W.WalkO q loose XP YP l.row.toRowW d [] (fun f vs=>PySem.call f vs) :=
 L2.walk_of (n:=63) (k:=8) (x := "script") (CX:=fun _=>CX0) (sp:=fun w=>Jx (K w.params)) hn (by decide) hdf ⟨rfl,by decide,by decide,rfl⟩ hY F (fun _ _ a ns hl _ hS=>⟨a,ns,rfl,hS,hl,fun _=>rfl⟩) fun _ _ _ _ _ z=>z
end Mw
theorem PySem.W.Fast.te16148747032443467598:True:=True.intro
namespace Mw
open PySem PySem.W PySem.Calls PyProof.Rows L2
abbrev oE (P:Params) (n:Str) (t:Nat) (v:Value):DictEntry:=⟨PyData.keyHash P n, .str n t,v⟩
noncomputable def K:Params->Frag:=fun P =>
(nat_lit 2,⟨.none,none,(.dict #[] 0), #[]⟩) ::
(nat_lit 3,⟨.type "dict", none,(.dict [oE P "__name__" 165 (.str "law_markwords_k63_texts_that_are_none" 478),oE P "__doc__" 166 (.none),oE P "__package__" 167 (.none),oE P "__loader__" 168 (.builtin "__main__.__loader__#opaque"),oE P "__spec__" 169 (.none),oE P "__annotations__" 170 (.ref 6),oE P "__builtins__" 171 (.ref 4),oE P "__file__" 173 (.str "/claim/cut.py" 172),oE P "__cached__" 174 (.none),oE P "WordError" 206 (.ref 24),oE P "WrongKind" 231 (.ref 44),oE P "Nought" 247 (.ref 56),oE P "NoRoom" 263 (.ref 68),oE P "Faulty" 290 (.ref 87),oE P "NoText" 306 (.ref 99),oE P "NotFormed" 322 (.ref 111),oE P "FORMS" 410 (.ref 114),oE P "TEXT_PARTS" 413 (.ref 136),oE P "MOST_FIGURES" 415 (.int (60) 414),oE P "MOST_LETTERS" 417 (.int (8) 416),oE P "FIGURES" 419 (.str "0123456789" 418),oE P "LETTERS" 421 (.str "abcdefghijklmnopqrstuvwxyz" 420),oE P "has_parts" 428 (.ref 143),oE P "consists_of" 434 (.ref 148),oE P "read_whole" 443 (.ref 155),oE P "read_number" 450 (.ref 162),oE P "read_letters" 457 (.ref 169),oE P "read_part" 465 (.ref 176),oE P "read_row" 471 (.ref 181),oE P "read" 477 (.ref 186),oE P "_law_bag" 485 (.ref 191),oE P "_law_draw" 494 (.ref 198),oE P "_law_alike" 500 (.ref 203),oE P "_law_any_number" 509 (.ref 210),oE P "_law_letters" 515 (.ref 217),oE P "_law_part" 525 (.ref 224),oE P "_law_any_row" 531 (.ref 229),oE P "_law_any_script" 537 (.ref 234),oE P "_law_any_sign" 545 (.ref 241),oE P "_law_blot" 551 (.ref 246),oE P "_law_bent_row" 564 (.ref 253),oE P "_law_spoilt" 570 (.ref 258),oE P "_law_value" 576 (.ref 263),oE P "_law_row_of" 582 (.ref 268),oE P "_law_right" 588 (.ref 273),oE P "law" 594 (.ref 278)].toArray 46), #[]⟩) ::
(nat_lit 15,⟨.type "tuple", none,(.seq #[.type "ValueError"] 0), #[]⟩) ::
(nat_lit 22,⟨.type "tuple", none,(.seq #[] 0), #[]⟩) ::
(nat_lit 23,⟨.type "dict", none,(.dict [oE P "__module__" 196 (.str "markwords.errors" 187),oE P "__firstlineno__" 200 (.int (2) 199),oE P "__static_attributes__" 201 (.ref 22),oE P "__weakref__" 203 (.ref 25),oE P "__doc__" 204 (.none)].toArray 3), #[]⟩) ::
(nat_lit 24,⟨.type "type", none,(.cls ({ name := "WordError", bases:=[.type "ValueError"],mro:=[.ref 24, .type "ValueError", .type "Exception", .type "BaseException", .type "object"],ns:=23,qualname := "WordError", hasDict:=true,slotNames:=[],subclasses:=[.ref 44, .ref 56, .ref 68, .ref 87, .ref 99, .ref 111],abstract:=false,collection:=none,hasDel:=false }:ClassData)), #[(some (.ref 15)),none,(some (.str "WordError" 189)),(some (.str "WordError" 197)),(some (.builtin "ValueError.__new__")),(some (.bool true))]⟩) ::
(nat_lit 25,⟨.type "getset_descriptor", none,(.fields #[.str "__weakref__" 202, .ref 24, .builtin "ExceptionGroup.__weakref__", .none]), #[]⟩) ::
(nat_lit 28,⟨.type "tuple", none,(.seq #[.ref 24] 0), #[]⟩) ::
(nat_lit 35,⟨.type "tuple", none,(.seq #[] 0), #[]⟩) ::
(nat_lit 37,⟨.type "tuple", none,(.seq #[.str "self" 222, .str "part" 223] 0), #[]⟩) ::
(nat_lit 38,⟨.type "tuple", none,(.seq #[] 0), #[]⟩) ::
(nat_lit 40,⟨.type "code", none,(.fields #[.str "__init__" 219, .str "WrongKind.__init__" 220, .str "/claim/cut.py" 221, .int (6) 0, .int (2) 0, .int (0) 0, .int (0) 0, .int (3) 0, .ref 35, .bool true, .int (181) 0, .ref 36, .none, .ref 37, .ref 38, .ref 39, .int (224) 0, .int (6) 0, .str "/claim/cut.py" 225]), #[]⟩) ::
(nat_lit 41,⟨.type "function", none,(.func (PySem.W.fnOf "__init__" "WrongKind.__init__" (qi (x9 (top 2) 0)) (qh (x9 (top 2) 0)) (qc (x9 (top 2) 0)) (.none) (.none) (.none) (.str "markwords.errors" 187) none (.ref 40) (.none))), #[]⟩) ::
(nat_lit 42,⟨.type "tuple", none,(.seq #[.str "part" 227] 0), #[]⟩) ::
(nat_lit 43,⟨.type "dict", none,(.dict [oE P "__module__" 214 (.str "markwords.errors" 187),oE P "__firstlineno__" 218 (.int (4) 217),oE P "__init__" 226 (.ref 41),oE P "__static_attributes__" 228 (.ref 42),oE P "__doc__" 229 (.none)].toArray 2), #[]⟩) ::
(nat_lit 44,⟨.type "type", none,(.cls ({ name := "WrongKind", bases:=[.ref 24],mro:=[.ref 44, .ref 24, .type "ValueError", .type "Exception", .type "BaseException", .type "object"],ns:=43,qualname := "WrongKind", hasDict:=true,slotNames:=[],subclasses:=[],abstract:=false,collection:=none,hasDel:=false }:ClassData)), #[(some (.ref 28)),none,(some (.str "WrongKind" 207)),(some (.str "WrongKind" 215)),(some (.builtin "ValueError.__new__")),(some (.bool true))]⟩) ::
(nat_lit 47,⟨.type "tuple", none,(.seq #[.ref 24] 0), #[]⟩) ::
(nat_lit 54,⟨.type "tuple", none,(.seq #[] 0), #[]⟩) ::
(nat_lit 55,⟨.type "dict", none,(.dict [oE P "__module__" 239 (.str "markwords.errors" 187),oE P "__firstlineno__" 243 (.int (9) 242),oE P "__static_attributes__" 244 (.ref 54),oE P "__doc__" 245 (.none)].toArray 2), #[]⟩) ::
(nat_lit 56,⟨.type "type", none,(.cls ({ name := "Nought", bases:=[.ref 24],mro:=[.ref 56, .ref 24, .type "ValueError", .type "Exception", .type "BaseException", .type "object"],ns:=55,qualname := "Nought", hasDict:=true,slotNames:=[],subclasses:=[],abstract:=false,collection:=none,hasDel:=false }:ClassData)), #[(some (.ref 47)),none,(some (.str "Nought" 232)),(some (.str "Nought" 240)),(some (.builtin "ValueError.__new__")),(some (.bool true))]⟩) ::
(nat_lit 59,⟨.type "tuple", none,(.seq #[.ref 24] 0), #[]⟩) ::
(nat_lit 66,⟨.type "tuple", none,(.seq #[] 0), #[]⟩) ::
(nat_lit 67,⟨.type "dict", none,(.dict [oE P "__module__" 255 (.str "markwords.errors" 187),oE P "__firstlineno__" 259 (.int (11) 258),oE P "__static_attributes__" 260 (.ref 66),oE P "__doc__" 261 (.none)].toArray 2), #[]⟩) ::
(nat_lit 68,⟨.type "type", none,(.cls ({ name := "NoRoom", bases:=[.ref 24],mro:=[.ref 68, .ref 24, .type "ValueError", .type "Exception", .type "BaseException", .type "object"],ns:=67,qualname := "NoRoom", hasDict:=true,slotNames:=[],subclasses:=[],abstract:=false,collection:=none,hasDel:=false }:ClassData)), #[(some (.ref 59)),none,(some (.str "NoRoom" 248)),(some (.str "NoRoom" 256)),(some (.builtin "ValueError.__new__")),(some (.bool true))]⟩) ::
(nat_lit 71,⟨.type "tuple", none,(.seq #[.ref 24] 0), #[]⟩) ::
(nat_lit 78,⟨.type "tuple", none,(.seq #[] 0), #[]⟩) ::
(nat_lit 80,⟨.type "tuple", none,(.seq #[.str "self" 279, .str "word" 280, .str "k" 281] 0), #[]⟩) ::
(nat_lit 81,⟨.type "tuple", none,(.seq #[] 0), #[]⟩) ::
(nat_lit 83,⟨.type "code", none,(.fields #[.str "__init__" 276, .str "Faulty.__init__" 277, .str "/claim/cut.py" 278, .int (15) 0, .int (3) 0, .int (0) 0, .int (0) 0, .int (3) 0, .ref 78, .bool true, .int (181) 0, .ref 79, .none, .ref 80, .ref 81, .ref 82, .int (282) 0, .int (15) 0, .str "/claim/cut.py" 283]), #[]⟩) ::
(nat_lit 84,⟨.type "function", none,(.func (PySem.W.fnOf "__init__" "Faulty.__init__" (qi (x9 (top 5) 0)) (qh (x9 (top 5) 0)) (qc (x9 (top 5) 0)) (.none) (.none) (.none) (.str "markwords.errors" 187) none (.ref 83) (.none))), #[]⟩) ::
(nat_lit 85,⟨.type "tuple", none,(.seq #[.str "k" 285, .str "word" 286] 0), #[]⟩) ::
(nat_lit 86,⟨.type "dict", none,(.dict [oE P "__module__" 271 (.str "markwords.errors" 187),oE P "__firstlineno__" 275 (.int (13) 274),oE P "__init__" 284 (.ref 84),oE P "__static_attributes__" 287 (.ref 85),oE P "__doc__" 288 (.none)].toArray 2), #[]⟩) ::
(nat_lit 87,⟨.type "type", none,(.cls ({ name := "Faulty", bases:=[.ref 24],mro:=[.ref 87, .ref 24, .type "ValueError", .type "Exception", .type "BaseException", .type "object"],ns:=86,qualname := "Faulty", hasDict:=true,slotNames:=[],subclasses:=[],abstract:=false,collection:=none,hasDel:=false }:ClassData)), #[(some (.ref 71)),none,(some (.str "Faulty" 264)),(some (.str "Faulty" 272)),(some (.builtin "ValueError.__new__")),(some (.bool true))]⟩) ::
(nat_lit 90,⟨.type "tuple", none,(.seq #[.ref 24] 0), #[]⟩) ::
(nat_lit 97,⟨.type "tuple", none,(.seq #[] 0), #[]⟩) ::
(nat_lit 98,⟨.type "dict", none,(.dict [oE P "__module__" 298 (.str "markwords.errors" 187),oE P "__firstlineno__" 302 (.int (19) 301),oE P "__static_attributes__" 303 (.ref 97),oE P "__doc__" 304 (.none)].toArray 2), #[]⟩) ::
(nat_lit 99,⟨.type "type", none,(.cls ({ name := "NoText", bases:=[.ref 24],mro:=[.ref 99, .ref 24, .type "ValueError", .type "Exception", .type "BaseException", .type "object"],ns:=98,qualname := "NoText", hasDict:=true,slotNames:=[],subclasses:=[],abstract:=false,collection:=none,hasDel:=false }:ClassData)), #[(some (.ref 90)),none,(some (.str "NoText" 291)),(some (.str "NoText" 299)),(some (.builtin "ValueError.__new__")),(some (.bool true))]⟩) ::
(nat_lit 102,⟨.type "tuple", none,(.seq #[.ref 24] 0), #[]⟩) ::
(nat_lit 109,⟨.type "tuple", none,(.seq #[] 0), #[]⟩) ::
(nat_lit 110,⟨.type "dict", none,(.dict [oE P "__module__" 314 (.str "markwords.errors" 187),oE P "__firstlineno__" 318 (.int (21) 317),oE P "__static_attributes__" 319 (.ref 109),oE P "__doc__" 320 (.none)].toArray 2), #[]⟩) ::
(nat_lit 111,⟨.type "type", none,(.cls ({ name := "NotFormed", bases:=[.ref 24],mro:=[.ref 111, .ref 24, .type "ValueError", .type "Exception", .type "BaseException", .type "object"],ns:=110,qualname := "NotFormed", hasDict:=true,slotNames:=[],subclasses:=[],abstract:=false,collection:=none,hasDel:=false }:ClassData)), #[(some (.ref 102)),none,(some (.str "NotFormed" 307)),(some (.str "NotFormed" 315)),(some (.builtin "ValueError.__new__")),(some (.bool true))]⟩) ::
(nat_lit 114,⟨.type "dict", none,(.dict [oE P "number" 325 (.ref 115),oE P "sign" 329 (.ref 116),oE P "one" 333 (.ref 117),oE P "copy" 337 (.ref 118),oE P "plus" 341 (.ref 119),oE P "less" 346 (.ref 120),oE P "times" 351 (.ref 121),oE P "over" 356 (.ref 122),oE P "rest" 361 (.ref 123),oE P "pair" 366 (.ref 124),oE P "first" 371 (.ref 125),oE P "second" 375 (.ref 126),oE P "set_first" 379 (.ref 127),oE P "set_second" 383 (.ref 128),oE P "below" 387 (.ref 129),oE P "same" 392 (.ref 130),oE P "kind" 397 (.ref 131),oE P "tell" 402 (.ref 133),oE P "jump" 404 (.ref 134),oE P "end" 406 (.ref 135)].toArray 20), #[]⟩) ::
(nat_lit 115,⟨.type "tuple", none,(.seq #[.str "r" 326, .str "n" 327] 0), #[]⟩) ::
(nat_lit 116,⟨.type "tuple", none,(.seq #[.str "r" 330, .str "k" 331] 0), #[]⟩) ::
(nat_lit 117,⟨.type "tuple", none,(.seq #[.str "r" 334, .str "three" 335] 0), #[]⟩) ::
(nat_lit 118,⟨.type "tuple", none,(.seq #[.str "r" 338, .str "r" 339] 0), #[]⟩) ::
(nat_lit 119,⟨.type "tuple", none,(.seq #[.str "r" 342, .str "r" 343, .str "r" 344] 0), #[]⟩) ::
(nat_lit 120,⟨.type "tuple", none,(.seq #[.str "r" 347, .str "r" 348, .str "r" 349] 0), #[]⟩) ::
(nat_lit 121,⟨.type "tuple", none,(.seq #[.str "r" 352, .str "r" 353, .str "r" 354] 0), #[]⟩) ::
(nat_lit 122,⟨.type "tuple", none,(.seq #[.str "r" 357, .str "r" 358, .str "r" 359] 0), #[]⟩) ::
(nat_lit 123,⟨.type "tuple", none,(.seq #[.str "r" 362, .str "r" 363, .str "r" 364] 0), #[]⟩) ::
(nat_lit 124,⟨.type "tuple", none,(.seq #[.str "r" 367, .str "r" 368, .str "r" 369] 0), #[]⟩) ::
(nat_lit 125,⟨.type "tuple", none,(.seq #[.str "r" 372, .str "r" 373] 0), #[]⟩) ::
(nat_lit 126,⟨.type "tuple", none,(.seq #[.str "r" 376, .str "r" 377] 0), #[]⟩) ::
(nat_lit 127,⟨.type "tuple", none,(.seq #[.str "r" 380, .str "r" 381] 0), #[]⟩) ::
(nat_lit 128,⟨.type "tuple", none,(.seq #[.str "r" 384, .str "r" 385] 0), #[]⟩) ::
(nat_lit 129,⟨.type "tuple", none,(.seq #[.str "r" 388, .str "r" 389, .str "t" 390] 0), #[]⟩) ::
(nat_lit 130,⟨.type "tuple", none,(.seq #[.str "r" 393, .str "r" 394, .str "t" 395] 0), #[]⟩) ::
(nat_lit 131,⟨.type "tuple", none,(.seq #[.str "r" 398, .str "kind" 399, .str "t" 400] 0), #[]⟩) ::
(nat_lit 133,⟨.type "tuple", none,(.seq #[.str "r" 403] 0), #[]⟩) ::
(nat_lit 134,⟨.type "tuple", none,(.seq #[.str "t" 405] 0), #[]⟩) ::
(nat_lit 135,⟨.type "tuple", none,(.seq #[] 0), #[]⟩) ::
(nat_lit 136,⟨.type "tuple", none,(.seq #[.str "three" 411, .str "kind" 412] 0), #[]⟩) ::
(nat_lit 137,⟨.type "tuple", none,(.seq #[] 0), #[]⟩) ::
(nat_lit 139,⟨.type "tuple", none,(.seq #[.str "row" 425] 0), #[]⟩) ::
(nat_lit 140,⟨.type "tuple", none,(.seq #[] 0), #[]⟩) ::
(nat_lit 142,⟨.type "code", none,(.fields #[.str "has_parts" 422, .str "has_parts" 423, .str "/claim/cut.py" 424, .int (30) 0, .int (1) 0, .int (0) 0, .int (0) 0, .int (3) 0, .ref 137, .bool true, .int (181) 0, .ref 138, .none, .ref 139, .ref 140, .ref 141, .int (426) 0, .int (30) 0, .str "/claim/cut.py" 427]), #[]⟩) ::
(nat_lit 143,⟨.type "function", none,(.func (PySem.W.fnOf "has_parts" "has_parts" (qi (top 15)) (qh (top 15)) (qc (top 15)) (.none) (.none) (.none) (.str "markwords.scripts" 323) none (.ref 142) (.none))), #[]⟩) ::
(nat_lit 144,⟨.type "tuple", none,(.seq #[] 0), #[]⟩) ::
(nat_lit 147,⟨.type "code", none,(.fields #[.str "consists_of" 429, .str "consists_of" 430, .str "/claim/cut.py" 431, .int (32) 0, .int (2) 0, .int (0) 0, .int (0) 0, .int (3) 0, .ref 144, .bool true, .int (181) 0, .ref 145, .none, .none, .none, .ref 146, .int (432) 0, .int (32) 0, .str "/claim/cut.py" 433]), #[]⟩) ::
(nat_lit 148,⟨.type "function", none,(.func (PySem.W.fnOf "consists_of" "consists_of" (qi (top 16)) (qh (top 16)) (qc (top 16)) (.none) (.none) (.none) (.str "markwords.scripts" 323) none (.ref 147) (.none))), #[]⟩) ::
(nat_lit 149,⟨.type "tuple", none,(.seq #[] 0), #[]⟩) ::
(nat_lit 151,⟨.type "tuple", none,(.seq #[.str "text" 438, .str "most" 439, .str "figures" 440] 0), #[]⟩) ::
(nat_lit 152,⟨.type "tuple", none,(.seq #[] 0), #[]⟩) ::
(nat_lit 154,⟨.type "code", none,(.fields #[.str "read_whole" 435, .str "read_whole" 436, .str "/claim/cut.py" 437, .int (34) 0, .int (2) 0, .int (0) 0, .int (0) 0, .int (3) 0, .ref 149, .bool true, .int (181) 0, .ref 150, .none, .ref 151, .ref 152, .ref 153, .int (441) 0, .int (34) 0, .str "/claim/cut.py" 442]), #[]⟩) ::
(nat_lit 155,⟨.type "function", none,(.func (PySem.W.fnOf "read_whole" "read_whole" (qi (top 17)) (qh (top 17)) (qc (top 17)) (.none) (.none) (.none) (.str "markwords.scripts" 323) none (.ref 154) (.none))), #[]⟩) ::
(nat_lit 156,⟨.type "tuple", none,(.seq #[] 0), #[]⟩) ::
(nat_lit 158,⟨.type "tuple", none,(.seq #[.str "text" 447] 0), #[]⟩) ::
(nat_lit 159,⟨.type "tuple", none,(.seq #[] 0), #[]⟩) ::
(nat_lit 161,⟨.type "code", none,(.fields #[.str "read_number" 444, .str "read_number" 445, .str "/claim/cut.py" 446, .int (41) 0, .int (1) 0, .int (0) 0, .int (0) 0, .int (3) 0, .ref 156, .bool true, .int (181) 0, .ref 157, .none, .ref 158, .ref 159, .ref 160, .int (448) 0, .int (41) 0, .str "/claim/cut.py" 449]), #[]⟩) ::
(nat_lit 162,⟨.type "function", none,(.func (PySem.W.fnOf "read_number" "read_number" (qi (top 18)) (qh (top 18)) (qc (top 18)) (.none) (.none) (.none) (.str "markwords.scripts" 323) none (.ref 161) (.none))), #[]⟩) ::
(nat_lit 163,⟨.type "tuple", none,(.seq #[] 0), #[]⟩) ::
(nat_lit 165,⟨.type "tuple", none,(.seq #[.str "text" 454] 0), #[]⟩) ::
(nat_lit 166,⟨.type "tuple", none,(.seq #[] 0), #[]⟩) ::
(nat_lit 168,⟨.type "code", none,(.fields #[.str "read_letters" 451, .str "read_letters" 452, .str "/claim/cut.py" 453, .int (43) 0, .int (1) 0, .int (0) 0, .int (0) 0, .int (3) 0, .ref 163, .bool true, .int (181) 0, .ref 164, .none, .ref 165, .ref 166, .ref 167, .int (455) 0, .int (43) 0, .str "/claim/cut.py" 456]), #[]⟩) ::
(nat_lit 169,⟨.type "function", none,(.func (PySem.W.fnOf "read_letters" "read_letters" (qi (top 19)) (qh (top 19)) (qc (top 19)) (.none) (.none) (.none) (.str "markwords.scripts" 323) none (.ref 168) (.none))), #[]⟩) ::
(nat_lit 170,⟨.type "tuple", none,(.seq #[] 0), #[]⟩) ::
(nat_lit 172,⟨.type "tuple", none,(.seq #[.str "form" 461, .str "text" 462] 0), #[]⟩) ::
(nat_lit 173,⟨.type "tuple", none,(.seq #[] 0), #[]⟩) ::
(nat_lit 175,⟨.type "code", none,(.fields #[.str "read_part" 458, .str "read_part" 459, .str "/claim/cut.py" 460, .int (47) 0, .int (2) 0, .int (0) 0, .int (0) 0, .int (3) 0, .ref 170, .bool true, .int (181) 0, .ref 171, .none, .ref 172, .ref 173, .ref 174, .int (463) 0, .int (47) 0, .str "/claim/cut.py" 464]), #[]⟩) ::
(nat_lit 176,⟨.type "function", none,(.func (PySem.W.fnOf "read_part" "read_part" (qi (top 20)) (qh (top 20)) (qc (top 20)) (.none) (.none) (.none) (.str "markwords.scripts" 323) none (.ref 175) (.none))), #[]⟩) ::
(nat_lit 177,⟨.type "tuple", none,(.seq #[] 0), #[]⟩) ::
(nat_lit 180,⟨.type "code", none,(.fields #[.str "read_row" 466, .str "read_row" 467, .str "/claim/cut.py" 468, .int (49) 0, .int (1) 0, .int (0) 0, .int (0) 0, .int (3) 0, .ref 177, .bool true, .int (181) 0, .ref 178, .none, .none, .none, .ref 179, .int (469) 0, .int (49) 0, .str "/claim/cut.py" 470]), #[]⟩) ::
(nat_lit 181,⟨.type "function", none,(.func (PySem.W.fnOf "read_row" "read_row" (qi (top 21)) (qh (top 21)) (qc (top 21)) (.none) (.none) (.none) (.str "markwords.scripts" 323) none (.ref 180) (.none))), #[]⟩) ::
(nat_lit 182,⟨.type "tuple", none,(.seq #[] 0), #[]⟩) ::
(nat_lit 185,⟨.type "code", none,(.fields #[.str "read" 472, .str "read" 473, .str "/claim/cut.py" 474, .int (54) 0, .int (1) 0, .int (0) 0, .int (0) 0, .int (3) 0, .ref 182, .bool true, .int (181) 0, .ref 183, .none, .none, .none, .ref 184, .int (475) 0, .int (54) 0, .str "/claim/cut.py" 476]), #[]⟩) ::
(nat_lit 186,⟨.type "function", none,(.func (PySem.W.fnOf "read" "read" (qi (top 22)) (qh (top 22)) (qc (top 22)) (.none) (.none) (.none) (.str "markwords.scripts" 323) none (.ref 185) (.none))), #[]⟩) ::
(nat_lit 187,⟨.type "tuple", none,(.seq #[] 0), #[]⟩) ::
(nat_lit 190,⟨.type "code", none,(.fields #[.str "_law_bag" 480, .str "_law_bag" 481, .str "/claim/cut.py" 482, .int (57) 0, .int (1) 0, .int (0) 0, .int (0) 0, .int (3) 0, .ref 187, .bool true, .int (181) 0, .ref 188, .none, .none, .none, .ref 189, .int (483) 0, .int (57) 0, .str "/claim/cut.py" 484]), #[]⟩) ::
(nat_lit 191,⟨.type "function", none,(.func (PySem.W.fnOf "_law_bag" "_law_bag" (qi (top 24)) (qh (top 24)) (qc (top 24)) (.none) (.none) (.none) (.str "law_markwords_k63_texts_that_are_none" 478) none (.ref 190) (.none))), #[]⟩) ::
(nat_lit 192,⟨.type "tuple", none,(.seq #[] 0), #[]⟩) ::
(nat_lit 194,⟨.type "tuple", none,(.seq #[.str "bag" 489, .str "many" 490, .str "found" 491] 0), #[]⟩) ::
(nat_lit 195,⟨.type "tuple", none,(.seq #[] 0), #[]⟩) ::
(nat_lit 197,⟨.type "code", none,(.fields #[.str "_law_draw" 486, .str "_law_draw" 487, .str "/claim/cut.py" 488, .int (62) 0, .int (2) 0, .int (0) 0, .int (0) 0, .int (3) 0, .ref 192, .bool true, .int (181) 0, .ref 193, .none, .ref 194, .ref 195, .ref 196, .int (492) 0, .int (62) 0, .str "/claim/cut.py" 493]), #[]⟩) ::
(nat_lit 198,⟨.type "function", none,(.func (PySem.W.fnOf "_law_draw" "_law_draw" (qi (top 25)) (qh (top 25)) (qc (top 25)) (.none) (.none) (.none) (.str "law_markwords_k63_texts_that_are_none" 478) none (.ref 197) (.none))), #[]⟩) ::
(nat_lit 199,⟨.type "tuple", none,(.seq #[] 0), #[]⟩) ::
(nat_lit 202,⟨.type "code", none,(.fields #[.str "_law_alike" 495, .str "_law_alike" 496, .str "/claim/cut.py" 497, .int (73) 0, .int (2) 0, .int (0) 0, .int (0) 0, .int (3) 0, .ref 199, .bool true, .int (181) 0, .ref 200, .none, .none, .none, .ref 201, .int (498) 0, .int (73) 0, .str "/claim/cut.py" 499]), #[]⟩) ::
(nat_lit 203,⟨.type "function", none,(.func (PySem.W.fnOf "_law_alike" "_law_alike" (qi (top 26)) (qh (top 26)) (qc (top 26)) (.none) (.none) (.none) (.str "law_markwords_k63_texts_that_are_none" 478) none (.ref 202) (.none))), #[]⟩) ::
(nat_lit 204,⟨.type "tuple", none,(.seq #[] 0), #[]⟩) ::
(nat_lit 206,⟨.type "tuple", none,(.seq #[.str "bag" 504, .str "kind" 505, .str "sign" 506] 0), #[]⟩) ::
(nat_lit 207,⟨.type "tuple", none,(.seq #[] 0), #[]⟩) ::
(nat_lit 209,⟨.type "code", none,(.fields #[.str "_law_any_number" 501, .str "_law_any_number" 502, .str "/claim/cut.py" 503, .int (83) 0, .int (1) 0, .int (0) 0, .int (0) 0, .int (3) 0, .ref 204, .bool true, .int (181) 0, .ref 205, .none, .ref 206, .ref 207, .ref 208, .int (507) 0, .int (83) 0, .str "/claim/cut.py" 508]), #[]⟩) ::
(nat_lit 210,⟨.type "function", none,(.func (PySem.W.fnOf "_law_any_number" "_law_any_number" (qi (top 27)) (qh (top 27)) (qc (top 27)) (.none) (.none) (.none) (.str "law_markwords_k63_texts_that_are_none" 478) none (.ref 209) (.none))), #[]⟩) ::
(nat_lit 211,⟨.type "tuple", none,(.seq #[] 0), #[]⟩) ::
(nat_lit 213,⟨.type "tuple", none,(.seq #[] 0), #[]⟩) ::
(nat_lit 214,⟨.type "tuple", none,(.seq #[] 0), #[]⟩) ::
(nat_lit 216,⟨.type "code", none,(.fields #[.str "_law_letters" 510, .str "_law_letters" 511, .str "/claim/cut.py" 512, .int (91) 0, .int (0) 0, .int (0) 0, .int (0) 0, .int (3) 0, .ref 211, .bool true, .int (181) 0, .ref 212, .none, .ref 213, .ref 214, .ref 215, .int (513) 0, .int (91) 0, .str "/claim/cut.py" 514]), #[]⟩) ::
(nat_lit 217,⟨.type "function", none,(.func (PySem.W.fnOf "_law_letters" "_law_letters" (qi (top 28)) (qh (top 28)) (qc (top 28)) (.none) (.none) (.none) (.str "law_markwords_k63_texts_that_are_none" 478) none (.ref 216) (.none))), #[]⟩) ::
(nat_lit 218,⟨.type "tuple", none,(.seq #[] 0), #[]⟩) ::
(nat_lit 220,⟨.type "tuple", none,(.seq #[.str "bag" 519, .str "letter" 520, .str "many" 521, .str "some" 522] 0), #[]⟩) ::
(nat_lit 221,⟨.type "tuple", none,(.seq #[] 0), #[]⟩) ::
(nat_lit 223,⟨.type "code", none,(.fields #[.str "_law_part" 516, .str "_law_part" 517, .str "/claim/cut.py" 518, .int (93) 0, .int (3) 0, .int (0) 0, .int (0) 0, .int (3) 0, .ref 218, .bool true, .int (181) 0, .ref 219, .none, .ref 220, .ref 221, .ref 222, .int (523) 0, .int (93) 0, .str "/claim/cut.py" 524]), #[]⟩) ::
(nat_lit 224,⟨.type "function", none,(.func (PySem.W.fnOf "_law_part" "_law_part" (qi (top 29)) (qh (top 29)) (qc (top 29)) (.none) (.none) (.none) (.str "law_markwords_k63_texts_that_are_none" 478) none (.ref 223) (.none))), #[]⟩) ::
(nat_lit 225,⟨.type "tuple", none,(.seq #[] 0), #[]⟩) ::
(nat_lit 228,⟨.type "code", none,(.fields #[.str "_law_any_row" 526, .str "_law_any_row" 527, .str "/claim/cut.py" 528, .int (100) 0, .int (3) 0, .int (0) 0, .int (0) 0, .int (3) 0, .ref 225, .bool true, .int (181) 0, .ref 226, .none, .none, .none, .ref 227, .int (529) 0, .int (100) 0, .str "/claim/cut.py" 530]), #[]⟩) ::
(nat_lit 229,⟨.type "function", none,(.func (PySem.W.fnOf "_law_any_row" "_law_any_row" (qi (top 30)) (qh (top 30)) (qc (top 30)) (.none) (.none) (.none) (.str "law_markwords_k63_texts_that_are_none" 478) none (.ref 228) (.none))), #[]⟩) ::
(nat_lit 230,⟨.type "tuple", none,(.seq #[] 0), #[]⟩) ::
(nat_lit 233,⟨.type "code", none,(.fields #[.str "_law_any_script" 532, .str "_law_any_script" 533, .str "/claim/cut.py" 534, .int (102) 0, .int (1) 0, .int (0) 0, .int (0) 0, .int (3) 0, .ref 230, .bool true, .int (181) 0, .ref 231, .none, .none, .none, .ref 232, .int (535) 0, .int (102) 0, .str "/claim/cut.py" 536]), #[]⟩) ::
(nat_lit 234,⟨.type "function", none,(.func (PySem.W.fnOf "_law_any_script" "_law_any_script" (qi (top 31)) (qh (top 31)) (qc (top 31)) (.none) (.none) (.none) (.str "law_markwords_k63_texts_that_are_none" 478) none (.ref 233) (.none))), #[]⟩) ::
(nat_lit 235,⟨.type "tuple", none,(.seq #[] 0), #[]⟩) ::
(nat_lit 237,⟨.type "tuple", none,(.seq #[.str "bag" 541, .str "some" 542] 0), #[]⟩) ::
(nat_lit 238,⟨.type "tuple", none,(.seq #[] 0), #[]⟩) ::
(nat_lit 240,⟨.type "code", none,(.fields #[.str "_law_any_sign" 538, .str "_law_any_sign" 539, .str "/claim/cut.py" 540, .int (107) 0, .int (1) 0, .int (0) 0, .int (0) 0, .int (3) 0, .ref 235, .bool true, .int (181) 0, .ref 236, .none, .ref 237, .ref 238, .ref 239, .int (543) 0, .int (107) 0, .str "/claim/cut.py" 544]), #[]⟩) ::
(nat_lit 241,⟨.type "function", none,(.func (PySem.W.fnOf "_law_any_sign" "_law_any_sign" (qi (top 32)) (qh (top 32)) (qc (top 32)) (.none) (.none) (.none) (.str "law_markwords_k63_texts_that_are_none" 478) none (.ref 240) (.none))), #[]⟩) ::
(nat_lit 242,⟨.type "tuple", none,(.seq #[] 0), #[]⟩) ::
(nat_lit 245,⟨.type "code", none,(.fields #[.str "_law_blot" 546, .str "_law_blot" 547, .str "/claim/cut.py" 548, .int (111) 0, .int (1) 0, .int (0) 0, .int (0) 0, .int (3) 0, .ref 242, .bool true, .int (181) 0, .ref 243, .none, .none, .none, .ref 244, .int (549) 0, .int (111) 0, .str "/claim/cut.py" 550]), #[]⟩) ::
(nat_lit 246,⟨.type "function", none,(.func (PySem.W.fnOf "_law_blot" "_law_blot" (qi (top 33)) (qh (top 33)) (qc (top 33)) (.none) (.none) (.none) (.str "law_markwords_k63_texts_that_are_none" 478) none (.ref 245) (.none))), #[]⟩) ::
(nat_lit 247,⟨.type "tuple", none,(.seq #[] 0), #[]⟩) ::
(nat_lit 249,⟨.type "tuple", none,(.seq #[.str "bag" 555, .str "line" 556, .str "words" 557, .str "some" 558, .str "k" 559, .str "word" 560, .str "way" 561] 0), #[]⟩) ::
(nat_lit 250,⟨.type "tuple", none,(.seq #[] 0), #[]⟩) ::
(nat_lit 252,⟨.type "code", none,(.fields #[.str "_law_bent_row" 552, .str "_law_bent_row" 553, .str "/claim/cut.py" 554, .int (117) 0, .int (2) 0, .int (0) 0, .int (0) 0, .int (3) 0, .ref 247, .bool true, .int (181) 0, .ref 248, .none, .ref 249, .ref 250, .ref 251, .int (562) 0, .int (117) 0, .str "/claim/cut.py" 563]), #[]⟩) ::
(nat_lit 253,⟨.type "function", none,(.func (PySem.W.fnOf "_law_bent_row" "_law_bent_row" (qi (top 34)) (qh (top 34)) (qc (top 34)) (.none) (.none) (.none) (.str "law_markwords_k63_texts_that_are_none" 478) none (.ref 252) (.none))), #[]⟩) ::
(nat_lit 254,⟨.type "tuple", none,(.seq #[] 0), #[]⟩) ::
(nat_lit 257,⟨.type "code", none,(.fields #[.str "_law_spoilt" 565, .str "_law_spoilt" 566, .str "/claim/cut.py" 567, .int (127) 0, .int (2) 0, .int (0) 0, .int (0) 0, .int (3) 0, .ref 254, .bool true, .int (181) 0, .ref 255, .none, .none, .none, .ref 256, .int (568) 0, .int (127) 0, .str "/claim/cut.py" 569]), #[]⟩) ::
(nat_lit 258,⟨.type "function", none,(.func (PySem.W.fnOf "_law_spoilt" "_law_spoilt" (qi (top 35)) (qh (top 35)) (qc (top 35)) (.none) (.none) (.none) (.str "law_markwords_k63_texts_that_are_none" 478) none (.ref 257) (.none))), #[]⟩) ::
(nat_lit 259,⟨.type "tuple", none,(.seq #[] 0), #[]⟩) ::
(nat_lit 262,⟨.type "code", none,(.fields #[.str "_law_value" 571, .str "_law_value" 572, .str "/claim/cut.py" 573, .int (150) 0, .int (2) 0, .int (0) 0, .int (0) 0, .int (3) 0, .ref 259, .bool true, .int (181) 0, .ref 260, .none, .none, .none, .ref 261, .int (574) 0, .int (150) 0, .str "/claim/cut.py" 575]), #[]⟩) ::
(nat_lit 263,⟨.type "function", none,(.func (PySem.W.fnOf "_law_value" "_law_value" (qi (top 36)) (qh (top 36)) (qc (top 36)) (.none) (.none) (.none) (.str "law_markwords_k63_texts_that_are_none" 478) none (.ref 262) (.none))), #[]⟩) ::
(nat_lit 264,⟨.type "tuple", none,(.seq #[] 0), #[]⟩) ::
(nat_lit 267,⟨.type "code", none,(.fields #[.str "_law_row_of" 577, .str "_law_row_of" 578, .str "/claim/cut.py" 579, .int (159) 0, .int (1) 0, .int (0) 0, .int (0) 0, .int (3) 0, .ref 264, .bool true, .int (181) 0, .ref 265, .none, .none, .none, .ref 266, .int (580) 0, .int (159) 0, .str "/claim/cut.py" 581]), #[]⟩) ::
(nat_lit 268,⟨.type "function", none,(.func (PySem.W.fnOf "_law_row_of" "_law_row_of" (qi (top 37)) (qh (top 37)) (qc (top 37)) (.none) (.none) (.none) (.str "law_markwords_k63_texts_that_are_none" 478) none (.ref 267) (.none))), #[]⟩) ::
(nat_lit 269,⟨.type "tuple", none,(.seq #[] 0), #[]⟩) ::
(nat_lit 272,⟨.type "code", none,(.fields #[.str "_law_right" 583, .str "_law_right" 584, .str "/claim/cut.py" 585, .int (174) 0, .int (1) 0, .int (0) 0, .int (0) 0, .int (3) 0, .ref 269, .bool true, .int (181) 0, .ref 270, .none, .none, .none, .ref 271, .int (586) 0, .int (174) 0, .str "/claim/cut.py" 587]), #[]⟩) ::
(nat_lit 273,⟨.type "function", none,(.func (PySem.W.fnOf "_law_right" "_law_right" (qi (top 38)) (qh (top 38)) (qc (top 38)) (.none) (.none) (.none) (.str "law_markwords_k63_texts_that_are_none" 478) none (.ref 272) (.none))), #[]⟩) ::
(nat_lit 274,⟨.type "tuple", none,(.seq #[] 0), #[]⟩) ::
(nat_lit 277,⟨.type "code", none,(.fields #[.str "law" 589, .str "law" 590, .str "/claim/cut.py" 591, .int (186) 0, .int (1) 0, .int (0) 0, .int (0) 0, .int (3) 0, .ref 274, .bool true, .int (181) 0, .ref 275, .none, .none, .none, .ref 276, .int (592) 0, .int (186) 0, .str "/claim/cut.py" 593]), #[]⟩) ::
(nat_lit 278,⟨.type "function", none,(.func (PySem.W.fnOf "law" "law" (qi (top 39)) (qh (top 39)) (qc (top 39)) (.none) (.none) (.none) (.str "law_markwords_k63_texts_that_are_none" 478) none (.ref 277) (.none))), #[]⟩) ::
[]
def KA:List Addr:=[2,3,15,22,23,24,25,28,35,37,38,40,41,42,43,44,47,54,55,56,59,66,67,68,71,78,80,81,83,84,85,86,87,90,97,98,99,102,109,110,111,114,115,116,117,118,119,120,121,122,123,124,125,126,127,128,129,130,131,133,134,135,136,137,139,140,142,143,144,147,148,149,151,152,154,155,156,158,159,161,162,163,165,166,168,169,170,172,173,175,176,177,180,181,182,185,186,187,190,191,192,194,195,197,198,199,202,203,204,206,207,209,210,211,213,214,216,217,218,220,221,223,224,225,228,229,230,233,234,235,237,238,240,241,242,245,246,247,249,250,252,253,254,257,258,259,262,263,264,267,268,269,272,273,274,277,278]
theorem K_as:∀P,KA=(K P).map (·.1):=fun _=>by kernel_rfl
noncomputable def vw:Program:=PySem.W.view PySem.Challenge.pw_markwords_k63_texts_that_are_none [1,2,3,4,5,6,7,9,10,11,12,13,14,15,16,17,18,19,20,21,22,24,25,26,27,28,29,30,31,32,33,34,35,36,37,38,39]
def ls:List Str:=["FORMS"]
def lv:List (Str×WData):=[]
noncomputable def Xt (s:Shared):Bool:=xlAt vw lv s&&recOk (RowW.records (OpenRow.toRowW (OpenLaw.row PySem.Challenge.rw_markwords_k63_texts_that_are_none))) s
noncomputable def Lf (w:World) (os:OsState):=(Hd.topT treeTable PySem.Challenge.pw_markwords_k63_texts_that_are_none w 11 (some (.ref 6)) 5482 (Hd.S0 w os) (topStub PySem.Challenge.pw_markwords_k63_texts_that_are_none)).map (fun s=>Hd.Look PySem.Challenge.pw_markwords_k63_texts_that_are_none vw ls Xt (kHook K KA K_as).obs w s.abs)
noncomputable def Rt (w:World) (_:OsState):=some (true,openGood vw ls,(kHook K KA K_as).val w)
theorem Lf_is:Lf=Lf:=rfl
theorem Rt_is:Rt=Rt:=rfl
name_quick MwLq for Lf by Lf_is
name_quick MwRq for Rt by Rt_is
theorem run0 (w:World):(fun os=>Lf (World.withFollow w "special-get-raises" false) os)=fun os=>Rt (World.withFollow w "special-get-raises" false) os :=
 (congrFun PySem.W.Fast.MwLq_eq (World.withFollow w "special-get-raises" false)).trans (Eq.trans (by kernel_rfl:PySem.W.Fast.MwLq (World.withFollow w "special-get-raises" false)=PySem.W.Fast.MwRq (World.withFollow w "special-get-raises" false)) (congrFun PySem.W.Fast.MwRq_eq (World.withFollow w "special-get-raises" false)).symm)
theorem run1 (w:World):(fun os=>Lf (World.withFollow w "special-get-raises" true) os)=fun os=>Rt (World.withFollow w "special-get-raises" true) os :=
 (congrFun PySem.W.Fast.MwLq_eq (World.withFollow w "special-get-raises" true)).trans (Eq.trans (by kernel_rfl:PySem.W.Fast.MwLq (World.withFollow w "special-get-raises" true)=PySem.W.Fast.MwRq (World.withFollow w "special-get-raises" true)) (congrFun PySem.W.Fast.MwRq_eq (World.withFollow w "special-get-raises" true)).symm)
theorem run (w:World):(fun os=>Lf w os)=fun os=>Rt w os:=byRow2 "special-get-raises" (P:=fun w=>(fun os=>Lf w os)=fun os=>Rt w os) run0 run1 w
theorem hLf9:LeftO PySem.Challenge.pw_markwords_k63_texts_that_are_none vw ls Xt (kHook K KA K_as).obs (kHook K KA K_as).val 5482 :=
 Hd.left_of (M:=5482) (by kernel_rfl) (by decide) (fun _=>by kernel_rfl) (by decide) (fun w os=>congrFun (run w) os) Hd.boot_main
end Mw
open PySem PySem.W PyProof.Rows
set_option maxRecDepth 100000 in
set_option maxHeartbeats 0 in
theorem PySem.Challenge.cw_markwords_k63_texts_that_are_none_holds : PySem.Challenge.rw_markwords_k63_texts_that_are_none.Holds := by
 w_on; o_law
 refine Hd.close (q:=Mw.vw) (loose:=Mw.ls) (lv:=Mw.lv) (H:=kHook Mw.K Mw.KA Mw.K_as) (N:=5482) Mw.hLf9 (by rfl) (by rfl) (by rfl) (by rfl) (by assumption) (by decide +kernel) ⟨rfl,rfl,rfl,rfl,rfl,by decide +kernel⟩ ?hw ?hc
 case hw=>w_witness2
 k_fill
 refine Mw.walk (l:=PySem.Challenge.rw_markwords_k63_texts_that_are_none) rfl rfl (fun w h Y=>PySem.W.kIn_of Y) ?F
 case F =>
  intro w mg fa h KX G hmg
  refine' Mw.all_mk KX G hmg ?xaNoText ?xaWordError ?xaWk ?xaNought ?xaNoRoom ?xaFaulty ?xaNotFormed ?xoNoText ?ENoText_WordError ?a1 ?l1 ?c1 ?k1 ?a2 ?l2 ?c2 ?k2 ?a3 ?l3 ?c3 ?k3 ?a4 ?l4 ?c4 ?k4 ?a5 ?l5 ?c5 ?k5 ?a6 ?l6 ?c6 ?k6 ?a7 ?l7 ?c7 ?k7 ?a8 ?l8 ?c8 ?k8 ?a9 ?l9 ?c9 ?k9 ?a10 ?l10 ?c10 ?k10 ?a11 ?l11 ?c11 ?k11 ?a12 ?l12 ?c12 ?k12 ?a13 ?l13 ?c13 ?k13 ?a14 ?l14 ?c14 ?k14 ?a15 ?l15 ?c15 ?k15 ?a16 ?l16 ?c16 ?k16 ?a17 ?l17 ?c17 ?k17 ?a18 ?l18 ?c18 ?k18 ?a19 ?l19 ?c19 ?k19 ?a20 ?l20 ?c20 ?k20 ?a21 ?l21 ?c21 ?k21 ?a22 ?l22 ?c22 ?k22 ?a23 ?l23 ?c23 ?k23 ?a24 ?l24 ?c24 ?k24 ?xt1NoText ?xt2NoText ?xt3NoText ?xt4NoText ?xt5NoText ?xt6NoText ?xt7NoText ?xt8NoText ?INoText_ValueError ?INoText_NoText ?INoText_Wk_Nought_NoRoom ?INoText_Faulty_NotFormed ?ynNVE ?z1 ?z2 ?z3 ?z4 ?z5 ?z6 ?z7 ?z8 ?z9 ?z10 ?z11 ?z12 ?z13 ?z14 ?z15 ?z16 ?z17 ?z18 ?p1 ?q1 ?g1 ?g2 ?gs1 ?gs2 ?dg1 ?dl1 ?dt1_0 ?dt1_1 ?dt1_2 ?dt1_3 ?dt1_4 ?dt1_5 ?dt1_6 ?dt1_7 ?dt1_8 ?dt1_9 ?dt1_10 ?dt1_11 ?dt1_12 ?dt1_13 ?dt1_14 ?dt1_15 ?dt1_16 ?dt1_17 ?dt1_18 ?dt1_19 ?dz1
  (case xaNoText=>k_is)
  (case xaWordError=>k_is)
  (case xaWk=>k_is)
  (case xaNought=>k_is)
  (case xaNoRoom=>k_is)
  (case xaFaulty=>k_is)
  (case xaNotFormed=>k_is)
  (case xoNoText=>kernel_rfl)
  (case ENoText_WordError=>kernel_rfl)
  (case a1=>k_is)
  (case l1=>k_is)
  (case c1=>k_is)
  (case k1=>k_is)
  (case a2=>k_is)
  (case l2=>k_is)
  (case c2=>k_is)
  (case k2=>k_is)
  (case a3=>k_is)
  (case l3=>k_is)
  (case c3=>k_is)
  (case k3=>k_is)
  (case a4=>k_is)
  (case l4=>k_is)
  (case c4=>k_is)
  (case k4=>k_is)
  (case a5=>k_is)
  (case l5=>k_is)
  (case c5=>k_is)
  (case k5=>k_is)
  (case a6=>k_is)
  (case l6=>k_is)
  (case c6=>k_is)
  (case k6=>k_is)
  (case a7=>k_is)
  (case l7=>k_is)
  (case c7=>k_is)
  (case k7=>k_is)
  (case a8=>k_is)
  (case l8=>k_is)
  (case c8=>k_is)
  (case k8=>k_is)
  (case a9=>k_is)
  (case l9=>k_is)
  (case c9=>k_is)
  (case k9=>k_is)
  (case a10=>k_is)
  (case l10=>k_is)
  (case c10=>k_is)
  (case k10=>k_is)
  (case a11=>k_is)
  (case l11=>k_is)
  (case c11=>k_is)
  (case k11=>k_is)
  (case a12=>k_is)
  (case l12=>k_is)
  (case c12=>k_is)
  (case k12=>k_is)
  (case a13=>k_is)
  (case l13=>k_is)
  (case c13=>k_is)
  (case k13=>k_is)
  (case a14=>k_is)
  (case l14=>k_is)
  (case c14=>k_is)
  (case k14=>k_is)
  (case a15=>k_is)
  (case l15=>k_is)
  (case c15=>k_is)
  (case k15=>k_is)
  (case a16=>k_is)
  (case l16=>k_is)
  (case c16=>k_is)
  (case k16=>k_is)
  (case a17=>k_is)
  (case l17=>k_is)
  (case c17=>k_is)
  (case k17=>k_is)
  (case a18=>k_is)
  (case l18=>k_is)
  (case c18=>k_is)
  (case k18=>k_is)
  (case a19=>k_is)
  (case l19=>k_is)
  (case c19=>k_is)
  (case k19=>k_is)
  (case a20=>k_is)
  (case l20=>k_is)
  (case c20=>k_is)
  (case k20=>k_is)
  (case a21=>k_is)
  (case l21=>k_is)
  (case c21=>k_is)
  (case k21=>k_is)
  (case a22=>k_is)
  (case l22=>k_is)
  (case c22=>k_is)
  (case k22=>k_is)
  (case a23=>k_is)
  (case l23=>k_is)
  (case c23=>k_is)
  (case k23=>k_is)
  (case a24=>k_is)
  (case l24=>k_is)
  (case c24=>k_is)
  (case k24=>k_is)
  (case xt1NoText=>kernel_rfl)
  (case xt2NoText=>kernel_rfl)
  (case xt3NoText=>kernel_rfl)
  (case xt4NoText=>kernel_rfl)
  (case xt5NoText=>kernel_rfl)
  (case xt6NoText=>kernel_rfl)
  (case xt7NoText=>kernel_rfl)
  (case xt8NoText=>kernel_rfl)
  (case INoText_ValueError=>kernel_rfl)
  (case INoText_NoText=>kernel_rfl)
  (case INoText_Wk_Nought_NoRoom=>kernel_rfl)
  (case INoText_Faulty_NotFormed=>kernel_rfl)
  (case ynNVE=>k_is)
  (case z1=>k_is)
  (case z2=>k_is)
  (case z3=>k_is)
  (case z4=>k_is)
  (case z5=>k_is)
  (case z6=>k_is)
  (case z7=>k_is)
  (case z8=>k_is)
  (case z9=>k_is)
  (case z10=>k_is)
  (case z11=>k_is)
  (case z12=>k_is)
  (case z13=>k_is)
  (case z14=>k_is)
  (case z15=>k_is)
  (case z16=>k_is)
  (case z17=>k_is)
  (case z18=>k_is)
  (case p1=>k_is)
  (case q1=>k_is)
  (case g1=>k_is)
  (case g2=>k_is)
  (case gs1=>k_is)
  (case gs2=>k_is)
  (case dg1=>k_is)
  (case dl1=>k_is)
  (case dt1_0=>k_is)
  (case dt1_1=>k_is)
  (case dt1_2=>k_is)
  (case dt1_3=>k_is)
  (case dt1_4=>k_is)
  (case dt1_5=>k_is)
  (case dt1_6=>k_is)
  (case dt1_7=>k_is)
  (case dt1_8=>k_is)
  (case dt1_9=>k_is)
  (case dt1_10=>k_is)
  (case dt1_11=>k_is)
  (case dt1_12=>k_is)
  (case dt1_13=>k_is)
  (case dt1_14=>k_is)
  (case dt1_15=>k_is)
  (case dt1_16=>k_is)
  (case dt1_17=>k_is)
  (case dt1_18=>k_is)
  (case dt1_19=>k_is)
  (case dz1=>kernel_rfl)
