import PyProof.Rows.All
import Wide.All
import OpenK.AllK
import Wide.FinOn
import Lean
import PyProof.EqAt
import PyProof.EqKinds
import PyProof.TupleCall
import PyProof.NeKinds
import PyProof.RulesTry
import PyProof.ExcArgsOwn
import PyProof.InstStoreFacts
import PyProof.ExcInit
import PyProof.ExcClass3
import KE.KTryMore
import PyProof.NsDelKeeps
import PyProof.RulesAs
import PyProof.InstEq
import PyProof.Rows.EqMixed
import PyProof.FactsAll.tuple_1
import PySem.Challenge.RW_markwords_k05_refused
set_option Elab.async false
set_option linter.all false
set_option maxRecDepth 100000
namespace L2
open PySem PySem.Spec PyProof.Rows
abbrev Key:=Sum Int Str
def keyIs:Key→Value→Bool
 | .inl k,v => Value.isInt k v
 | .inr x,v => Value.isStrOf x v
def keyH (w:World):Key→Int
 | .inl k => hashInt k
 | .inr x => hashStr w x
theorem vN:∀ {k:Key} {v:Value},keyIs k v = true→(∃ i t,k = Sum.inl i∧v = Value.int i t)∨(∃ x t,k = Sum.inr x∧v = Value.str x t)
 | .inl i,v,h => by
  obtain ⟨t,e⟩:=Value.isInt_shape (k:=i) (v:=v) h
  exact .inl ⟨i,t,rfl,e⟩
 | .inr x,v,h => by
  obtain ⟨t,e⟩:=Value.isStrOf_shape (x:=x) (v:=v) h
  exact .inr ⟨x,t,rfl,e⟩
theorem key_ll (a b:Int):decide ((Sum.inl a:Key) = Sum.inl b) = (a == b):=by
 by_cases e:a = b
 ·subst e; simp
 ·have h:¬ (Sum.inl a:Key) = Sum.inl b:=fun q => e (Sum.inl.inj q)
  rw [decide_eq_false h]
  exact (beq_eq_false_iff_ne.mpr e).symm
theorem key_rr (a b:Str):decide ((Sum.inr a:Key) = Sum.inr b) = decide (a = b):=by
 by_cases e:a = b
 ·subst e; simp
 ·have h:¬ (Sum.inr a:Key) = Sum.inr b:=fun q => e (Sum.inr.inj q)
  rw [decide_eq_false h,decide_eq_false e]
theorem key_lr (a:Int) (b:Str):decide ((Sum.inl a:Key) = Sum.inr b) = false:=decide_eq_false (fun q => nomatch q)
theorem key_rl (a:Str) (b:Int):decide ((Sum.inr a:Key) = Sum.inl b) = false:=decide_eq_false (fun q => nomatch q)
def JX (prog:Program) (w:World):PySem.KeyKind prog w Key where
 is:=keyIs
 hash:=keyH w
 inj:=fun v a b ha hb => by
  rcases vN ha with ⟨i,t,rfl,rfl⟩ | ⟨x,t,rfl,rfl⟩
  ·rcases vN hb with ⟨j,u,rfl,e⟩ | ⟨y,u,rfl,e⟩
   ·injection e with e1 _; rw [e1]
   ·exact nomatch e
  ·rcases vN hb with ⟨j,u,rfl,e⟩ | ⟨y,u,rfl,e⟩
   ·exact nomatch e
   ·injection e with e1 _; rw [e1]
 byValue:=fun k v h => by
  rcases vN h with ⟨i,t,rfl,rfl⟩ | ⟨x,t,rfl,rfl⟩ <;> rfl
 pyHash:=fun hv h => by
  rcases vN hv with ⟨i,t,rfl,rfl⟩ | ⟨x,t,rfl,rfl⟩
  ·exact wpAny_pyHash_int h
  ·exact wpAny_pyHash_str h
 eqBool:=fun hu hv h => by
  rcases vN hu with ⟨i,t,rfl,rfl⟩ | ⟨x,t,rfl,rfl⟩
  ·rcases vN hv with ⟨j,u,rfl,rfl⟩ | ⟨y,u,rfl,rfl⟩
   ·rw [key_ll] at h; exact wpAny_eqBool_int h
   ·rw [key_lr] at h; exact SeqAt.EqAt.int_str i t y u _ _ _ _ h
  ·rcases vN hv with ⟨j,u,rfl,rfl⟩ | ⟨y,u,rfl,rfl⟩
   ·rw [key_rl] at h; exact SeqAt.EqAt.str_int x t j u _ _ _ _ h
   ·rw [key_rr] at h; exact wpAny_eqBool_str h
 «strs»:=fun k x t v h => by
  rcases vN h with ⟨i,u,rfl,e⟩ | ⟨y,u,rfl,e⟩
  ·exact nomatch e
  ·injection e with e1 _
   subst e1
   cases v <;> rfl
inductive V where
 | non | bl (b:Bool) | int (i:Int) | str (x:Str) | byt (b:Array UInt8) | flt (b:UInt64) | ref (a:Addr) | ty (n:String)
 deriving DecidableEq
def RelV:V→Value→Prop
 | .non,u => u = Value.none
 | .bl b,u => u = Value.bool b
 | .int i,u => ∃ t,u = Value.int i t
 | .str x,u => ∃ t,u = Value.str x t
 | .byt b,u => ∃ t,u = Value.bytes b t
 | .flt b,u => ∃ t,u = Value.float b t
 | .ref a,u => u = Value.ref a
 | .ty n,u => u = Value.type n
abbrev Vals:List V→List Value→Prop:=Paired RelV
theorem Vals.length {xs:List V} {us:List Value} (r:Vals xs us):xs.length = us.length:=Paired.length r
theorem Vals.get:∀ {xs:List V} {us:List Value} {i:Nat} {x:V},Vals xs us→xs[i]? = some x→∃ u,us[i]? = some u∧RelV x u
 | _,_,_,_, .nil,e => by simp at e
 | _,_,0,_, .cons r _,e => by simp at e; subst e; exact ⟨_,rfl,r⟩
 | _,_,i + 1,x, .cons _ t,e => by
  obtain ⟨u,h1,h2⟩:=Vals.get (i:=i) (x:=x) t (by simpa using e)
  exact ⟨u,by simpa using h1,h2⟩
theorem Vals.set {x:V} {u:Value} (r:RelV x u):∀ {xs:List V} {us:List Value} (i:Nat),Vals xs us→Vals (xs.set i x) (us.set i u)
 | _,_,_, .nil => .nil
 | _,_,0, .cons _ t => .cons r t
 | _,_,i + 1, .cons q t => .cons q (Vals.set r i t)
theorem Vals.append:∀ {xs ys:List V} {us ws:List Value},Vals xs us→Vals ys ws→Vals (xs ++ ys) (us ++ ws)
 | _,_,_,_, .nil,s => s
 | _,_,_,_, .cons r t,s => .cons r (Vals.append t s)
theorem Vals.take:∀ {xs:List V} {us:List Value} (n:Nat),Vals xs us→Vals (xs.take n) (us.take n)
 | _,_,0,_ => .nil
 | _,_,_ + 1, .nil => .nil
 | _,_,n + 1, .cons r t => .cons r (Vals.take n t)
theorem Vals.drop:∀ {xs:List V} {us:List Value} (n:Nat),Vals xs us→Vals (xs.drop n) (us.drop n)
 | _,_,0,r => r
 | _,_,_ + 1, .nil => .nil
 | _,_,n + 1, .cons _ t => Vals.drop n t
def RelO:Option V→Option Value→Prop
 | some v,some u => RelV v u
 | none,none => True
 | _,_ => False
def KV {κ:Type}:List (κ × V)→List (κ × Value)→Prop:=Paired fun (p:κ × V) (q:κ × Value) => p.1 = q.1∧RelV p.2 q.2
def kV:Key→V
 | .inl i => .int i
 | .inr x => .str x
inductive HO where
  | lst (xs:List V)
  | tup (xs:List V)
  | dK (kvs:List (Key × V)) | dT (kvs:List (List Key × V))
  | set (S:Int→Bool) (n:Nat)
  | ins (C dx:Addr) (fs:List (Str × V))
  | own (x:Addr)
  | xd (fs:List (Str × V))
  | met (f x:Addr)
  | rng (lo hi:Int)
  | frz (o:Obj) (u:HO)
  | tbl (ps:Array Value)
  | ext (φ:Heap→Prop)
abbrev Hp:=Addr→Option HO
def upd (H:Hp) (a:Addr) (o:HO):Hp:=fun b => if b = a then some o else H b
theorem upd_same {H:Hp} {a:Addr} {o:HO}:upd H a o a = some o:=by unfold upd; rw [if_pos rfl]
theorem upd_ne {H:Hp} {a b:Addr} {o:HO} (h:b≠a):upd H a o b = H b:=by unfold upd; rw [if_neg h]
theorem vk {H:Hp} {a b:Addr} {o:HO} (h:H a = some o) (h':H b = none):a≠b:=by
 intro e; subst e; rw [h] at h'; cases h'
section
variable (P:Program) (w:World)
def ObjOk (H:Hp) (h:Heap) (a:Addr):HO→Prop
 | .lst xs => xs.length≤sizeLine∧∃ (its:List Value) (n:Nat),Vals xs its∧h.get? a = some { cls:=.type "list", data:=.seq its.toArray n }
 | .tup xs => xs.length≤sizeLine∧∃ its:List Value,Vals xs its∧IsTup h a its.toArray
 | .dK kvs => kvs.length≤sizeLine∧(a == sysModules) = false∧∃ vs,KV kvs vs∧h.DictOf (JX P w) a vs
 | .dT kvs => kvs.length≤sizeLine∧(a == sysModules) = false∧∃ xs:List (List Key × Addr × Value),
   Paired (fun (p:List Key × V) (q:List Key × Addr × Value) => p.1 = q.1∧H q.2.1 = some (.tup (p.1.map kV))∧RelV p.2 q.2.2) kvs xs ∧
   ∃ o es ep,h.get? a = some o∧o.ExactDict∧o.data = .dict es ep∧es.toList = xs.map (entryOfKey (tupleKind (JX P w)))∧(xs.map (·.1)).Nodup
 | .set S n => h.SetOf (intKind P w) a S n
 | .ins C dx fs => H dx = some (.own a)∧fs.length≤1000∧dx≠a∧h.get? a = some (PySem.W.instObj C dx) ∧
   ∃ mA,h.Ns1 dx mA∧(∀ f,RelO (fs.lookup f) (mA f))∧PySem.Within mA (fs.map (·.1))
 | .own _ => ∃ o,h.get? a = some o
 | .xd fs => ∃ mA,h.Ns1 a mA∧∀ f,RelO (fs.lookup f) (mA f)
 | .rng lo hi => ∃ t u v,h.get? a = some { cls:=.type "range", data:=.fields #[.int lo t, .int hi u, .int 1 v] }
 | .frz o u => h.get? a = some o∧ObjOk H h a u
 | .tbl ps => h.get? a = some { cls:=.none,data:=.fields ps }
 | .met f x => h.get? a = some (PySem.W.methodObj (.ref f) (.ref x))
 | .ext φ => φ h∧(∃ o,h.get? a = some o)∧∀ h1 h2:Heap,φ h1→(∀ o,h1.get? a = some o→h2.get? a = some o)→φ h2
def HOk (H:Hp) (h:Heap):Prop:=∀ a o,H a = some o→ObjOk P w H h a o
end
section
variable {P:Program} {w:World} {H H':Hp} {h h':Heap} {a:Addr} {o:HO}
theorem ObjOk.lt (x:ObjOk P w H h a o):a < h.objs.size:=by
 cases o with
 | lst xs => obtain ⟨_,_,_,_,e⟩:=x; exact Heap.lt_size e
 | tup xs => obtain ⟨_,_,_,p⟩:=x; exact p.lt
 | dK kvs => obtain ⟨_,_,_,_,o,_,_,e,_⟩:=x; exact Heap.lt_size e
 | dT kvs => obtain ⟨_,_,_,_,o,_,_,e,_⟩:=x; exact Heap.lt_size e
 | set S n => obtain ⟨o,_,_,_,e,_⟩:=x; exact Heap.lt_size e
 | ins C dx fs => obtain ⟨_,_,_,e,_⟩:=x; exact Heap.lt_size e
 | own y => obtain ⟨_,e⟩:=x; exact Heap.lt_size e
 | xd fs => obtain ⟨_,⟨_,_,_,e,_⟩,_⟩:=x; exact Heap.lt_size e
 | rng lo hi => obtain ⟨_,_,_,e⟩:=x; exact Heap.lt_size e
 | frz ob u => obtain ⟨e,_⟩:=x; exact Heap.lt_size e
 | tbl ps => exact Heap.lt_size (show h.get? a = some _ from x)
 | met f y => exact Heap.lt_size (show h.get? a = some _ from x)
 | ext φ => obtain ⟨_,⟨_,e⟩,_⟩:=x; exact Heap.lt_size e
theorem Paired.mapP {α β:Type} {F G:α→β→Prop}:∀ {l₁:List α} {l₂:List β},Paired F l₁ l₂→(∀ a b,F a b→G a b)→Paired G l₁ l₂
 | _,_, .nil,_ => .nil
 | _,_, .cons r t,f => .cons (f _ _ r) (Paired.mapP t f)
theorem ObjOk.stay (x:ObjOk P w H h a o) (k:∀ b u,(b = a∨H b = some (.own a))→h.get? b = some u→h'.get? b = some u)
  (ho:∀ b,H b = some (.own a)→H' b = some (.own a)) (ht:∀ b xs,H b = some (.tup xs)→H' b = some (.tup xs)):ObjOk P w H' h' a o:=by
 induction o with
 | lst xs => obtain ⟨z,its,n,r,e⟩:=x; exact ⟨z,its,n,r,k _ _ (.inl rfl) e⟩
 | tup xs => obtain ⟨z,its,r,ob,e,c⟩:=x; exact ⟨z,its,r,ob,k _ _ (.inl rfl) e,c⟩
 | dK kvs => obtain ⟨z,y,vs,r,ob,es,ep,e,c⟩:=x; exact ⟨z,y,vs,r,ob,es,ep,k _ _ (.inl rfl) e,c⟩
 | dT kvs =>
  obtain ⟨z,y,xs,r,ob,es,ep,e,c⟩:=x
  exact ⟨z,y,xs,Paired.mapP r fun p q z => ⟨z.1,ht _ _ z.2.1,z.2.2⟩,ob,es,ep,k _ _ (.inl rfl) e,c⟩
 | set S n => obtain ⟨ob,es,ep,t,e,c⟩:=x; exact ⟨ob,es,ep,t,k _ _ (.inl rfl) e,c⟩
 | ins C dx fs =>
  obtain ⟨d,z,ne,e,mA,⟨od,es,ep,e2,c⟩,r⟩:=x
  exact ⟨ho _ d,z,ne,k _ _ (.inl rfl) e,mA,⟨od,es,ep,k _ _ (.inr d) e2,c⟩,r⟩
 | own y => obtain ⟨ob,e⟩:=x; exact ⟨ob,k _ _ (.inl rfl) e⟩
 | xd fs => obtain ⟨mA,⟨od,es,ep,e,c⟩,r⟩:=x; exact ⟨mA,⟨od,es,ep,k _ _ (.inl rfl) e,c⟩,r⟩
 | rng lo hi => obtain ⟨t,u,v,e⟩:=x; exact ⟨t,u,v,k _ _ (.inl rfl) e⟩
 | frz ob u ih => obtain ⟨e,q⟩:=x; exact ⟨k _ _ (.inl rfl) e,ih q⟩
 | tbl ps =>
  have e:h.get? a = some { cls:=.none,data:=.fields ps }:=x
  show h'.get? a = some { cls:=.none,data:=.fields ps }
  exact k a _ (.inl rfl) e
 | met f y =>
  have e:h.get? a = some (PySem.W.methodObj (.ref f) (.ref y)):=x
  show h'.get? a = some (PySem.W.methodObj (.ref f) (.ref y))
  exact k a _ (.inl rfl) e
 | ext φ => obtain ⟨p,⟨o,e⟩,st⟩:=x; exact ⟨st _ _ p fun o q => k _ _ (.inl rfl) q,⟨o,k _ _ (.inl rfl) e⟩,st⟩
theorem HOk.lt (x:HOk P w H h) (e:H a = some o):a < h.objs.size:=(x a o e).lt
theorem HOk.fresh (x:HOk P w H h) (e:h.objs.size≤a):H a = none:=by
 cases q:H a with
 | none => rfl
 | some u => exact absurd (Nat.lt_of_lt_of_le (x.lt q) e) (Nat.lt_irrefl _)
theorem HOk.kept (x:HOk P w H h) (k:∀ b u,h.get? b = some u→h'.get? b = some u):HOk P w H h':=fun a o e =>
 (x a o e).stay (fun b u _ q => k b u q) (fun _ q => q) fun _ _ q => q
theorem HOk.laid (x:HOk P w H h) (k:∀ b u,h.get? b = some u→h'.get? b = some u) (hp:h.objs.size≤a) (new:ObjOk P w (upd H a o) h' a o):HOk P w (upd H a o) h':=fun b u e => by
 have hn:=x.fresh hp
 by_cases hb:b = a
 ·subst hb; rw [upd_same] at e; cases e; exact new
 ·rw [upd_ne hb] at e
  exact (x b u e).stay (fun c v _ q => k c v q) (fun c q => by rw [upd_ne (vk q hn)]; exact q) fun c xs q => by rw [upd_ne (vk q hn)]; exact q
end
def Rd (H:Hp) (a:Addr) (u:HO):Prop:=H a = some u∨∃ o,H a = some (.frz o u)
theorem Rd.ok {P:Program} {w:World} {H:Hp} {h:Heap} {a:Addr} {u:HO} (r:Rd H a u) (x:HOk P w H h):ObjOk P w H h a u:=by
 rcases r with r | ⟨o,r⟩
 ·exact x a u r
 ·obtain ⟨_,q⟩:=x a _ r
  exact q
def Mut:Option HO→Prop
 | some (.lst _) => True
 | some (.dK _) => True
 | some (.dT _) => True
 | some (.set _ _) => True
 | some (.ins _ _ _) => True
 | some (.ext _) => True
 | _ => False
section
variable {P:Program} {w:World} {H:Hp} {h h':Heap} {x e:Addr} {o':HO}
theorem HOk.write (ok:HOk P w H h) (mu:Mut (H x)) (he:e = x∨H e = some (.own x)) (k:∀ b u,b≠e→h.get? b = some u→h'.get? b = some u) (heo:∃ u,h'.get? e = some u)
  (new:ObjOk P w (upd H x o') h' x o'):HOk P w (upd H x o') h':=fun b u q => by
 have nown:∀ c y,H c = some (.own y)→c≠x:=fun c y r z => by subst z; rw [r] at mu; exact mu
 have ntup:∀ c xs,H c = some (.tup xs)→c≠x:=fun c xs r z => by subst z; rw [r] at mu; exact mu
 by_cases hb:b = x
 ·subst hb; rw [upd_same] at q; cases q; exact new
 ·rw [upd_ne hb] at q
  by_cases hbe:b = e
  ·have q':H b = some (.own x):=by
    rcases he with z | z
    ·exact absurd (hbe.trans z) hb
    ·rw [hbe]; exact z
   rw [q] at q'; cases q'
   obtain ⟨v,hv⟩:=heo
   exact ⟨v,by rw [hbe]; exact hv⟩
  ·refine (ok b u q).stay (fun c v hc r => k c v ?_ r) (fun c r => by rw [upd_ne (nown c b r)]; exact r) fun c xs r => by rw [upd_ne (ntup c xs r)]; exact r
   rcases hc with rfl | hc
   ·exact hbe
   ·rintro rfl
    rcases he with z | z
    ·exact nown c b hc z
    ·rw [hc] at z; cases z; exact hb rfl
end
structure Un (fs ex:List Addr) (H H':Hp) (h h':Heap):Prop where
 keep:∀ b o,h.get? b = some o→H b = none→b ∉ fs→b ∉ ex→h'.get? b = some o
 slot:∀ b o,h.get? b = some o→H b = none→b ∈ fs→b ∉ ex→∃ sl,h'.get? b = some { o with slots:=sl }
 free:∀ b o,h.get? b = some o→H b = none→b ∉ ex→H' b = none
 there:∀ b o,h.get? b = some o→b ∉ ex→∃ o',h'.get? b = some o'
 tups:∀ b xs,H b = some (.tup xs)→H' b = some (.tup xs)
 frzs:∀ b o u,H b = some (.frz o u)→H' b = some (.frz o u)
 tbls:∀ b ps,H b = some (.tbl ps)→∃ more,H' b = some (.tbl (ps ++ more))
section
variable {fs fs' ex ex':List Addr} {H H1 H2:Hp} {h h1 h2 h':Heap} {a x e:Addr} {o:HO}
theorem Un.any (u:Un fs ex H H1 h h1) {b:Addr} {ob:Obj} (q:h.get? b = some ob) (n:H b = none) (hx:b ∉ ex):∃ sl,h1.get? b = some { ob with slots:=sl }:=by
 by_cases hb:b ∈ fs
 ·exact u.slot b ob q n hb hx
 ·exact ⟨ob.slots,u.keep b ob q n hb hx⟩
theorem Un.trans (a:Un fs ex H H1 h h1) (b:Un fs ex H1 H2 h1 h2):Un fs ex H H2 h h2 where
 keep:=fun c ob q n hc hx => b.keep c ob (a.keep c ob q n hc hx) (a.free c ob q n hx) hc hx
 slot:=fun c ob q n hc hx => by
  obtain ⟨sl,e1⟩:=a.slot c ob q n hc hx
  obtain ⟨sl',e2⟩:=b.slot c _ e1 (a.free c ob q n hx) hc hx
  exact ⟨sl',e2⟩
 free:=fun c ob q n hx => by
  obtain ⟨o',e1⟩:=a.there c ob q hx
  exact b.free c o' e1 (a.free c ob q n hx) hx
 there:=fun c ob q hx => by
  obtain ⟨o',e1⟩:=a.there c ob q hx
  exact b.there c o' e1 hx
 tups:=fun c xs q => b.tups c xs (a.tups c xs q)
 frzs:=fun c ob xs q => b.frzs c ob xs (a.frzs c ob xs q)
 tbls:=fun c ps q => by
  obtain ⟨m1,e1⟩:=a.tbls c ps q
  obtain ⟨m2,e2⟩:=b.tbls c _ e1
  exact ⟨m1 ++ m2,by rw [e2,Array.append_assoc]⟩
theorem Un.kept (k:∀ b u,h.get? b = some u→h'.get? b = some u):Un fs ex H H h h' :=
 ⟨fun b ob q _ _ _ => k b ob q,fun b ob q _ _ _ => ⟨ob.slots,k b ob q⟩,fun _ _ _ n _ => n,fun b ob q _ => ⟨ob,k b ob q⟩,fun _ _ q => q,fun _ _ _ q => q,fun _ ps q => ⟨#[],by rw [q]; simp⟩⟩
theorem Un.refl:Un fs ex H H h h:=Un.kept fun _ _ q => q
theorem Un.laid (k:∀ b u,h.get? b = some u→h'.get? b = some u) (hp:h.objs.size≤a) (hn:H a = none):Un fs ex H (upd H a o) h h' where
 keep:=fun b u q _ _ _ => k b u q
 slot:=fun b u q _ _ _ => ⟨u.slots,k b u q⟩
 free:=fun b u q n _ => by rw [upd_ne (Nat.ne_of_lt (Nat.lt_of_lt_of_le (Heap.lt_size q) hp))]; exact n
 there:=fun b u q _ => ⟨u,k b u q⟩
 tups:=fun b xs q => by rw [upd_ne (vk q hn)]; exact q
 frzs:=fun b u xs q => by rw [upd_ne (vk q hn)]; exact q
 tbls:=fun b ps q => ⟨#[],by rw [upd_ne (vk q hn),q]; simp⟩
theorem Un.write (mu:Mut (H x)) (he:e = x∨H e = some (.own x)) (k:∀ b u,b≠e→h.get? b = some u→h'.get? b = some u) (heo:∃ u,h'.get? e = some u):Un fs ex H (upd H x o) h h':=by
 have hx:∀ b,H b = none→b≠x:=fun b n z => by subst z; rw [n] at mu; exact mu
 have hb:∀ b,H b = none→b≠e:=fun b n z => by
  subst z
  rcases he with r | r
  ·exact hx b n r
  ·rw [n] at r; cases r
 have hm:∀ b u,H b = some u→¬ Mut (some u)→b≠x:=fun b u q nm z => by subst z; rw [q] at mu; exact nm mu
 refine ⟨fun b u q n _ _ => k b u (hb b n) q,fun b u q n _ _ => ⟨u.slots,k b u (hb b n) q⟩,fun b u q n _ => by rw [upd_ne (hx b n)]; exact n,fun b u q _ => ?_,
  fun b xs q => by rw [upd_ne (hm b _ q fun z => z)]; exact q,fun b u xs q => by rw [upd_ne (hm b _ q fun z => z)]; exact q,fun b ps q => ⟨#[],by rw [upd_ne (hm b _ q fun z => z),q]; simp⟩⟩
 by_cases hbe:b = e
 ·subst hbe; exact heo
 ·exact ⟨u,k b u hbe q⟩
theorem Un.mono (u:Un fs ex H H1 h h1) (hs:∀ b ∈ fs,b ∈ fs') (hx:∀ b ∈ ex,b ∈ ex'):Un fs' ex' H H1 h h1 :=
 ⟨fun b ob q n hb he => u.keep b ob q n (fun z => hb (hs b z)) fun z => he (hx b z),fun _ _ q n _ he => u.any q n fun z => he (hx _ z),fun b ob q n he => u.free b ob q n fun z => he (hx b z),fun b ob q he => u.there b ob q fun z => he (hx b z),u.tups,u.frzs,u.tbls⟩
end
def trk (h:Heap) (H:Hp):List Addr:=(List.range h.objs.size).filter fun a => (H a).isSome
def hidT (h:Heap) (H:Hp):Heap:=PySem.W.hideAll h (trk h H)
theorem Kb (h:Heap) (H:Hp):(hidT h H).objs.size = h.objs.size:=PySem.W.hideAll_size _ _
theorem hidT_get {h:Heap} {H:Hp} {b:Addr} {o:Obj} (e:h.get? b = some o) (n:H b = none):(hidT h H).get? b = some o :=
 PySem.W.hideAll_get _ e fun hm => by
  have q:(H b).isSome = true:=(List.mem_filter.mp hm).2
  rw [n] at q; simp at q
theorem of_hidT {h:Heap} {H:Hp} {b:Addr} {o:Obj} (e:(hidT h H).get? b = some o):h.get? b = some o∧H b = none:=by
 have e':h.get? b = some o:=PySem.W.of_hideAll (trk h H) e
 refine ⟨e', ?_⟩
 cases q:H b with
 | none => rfl
 | some x =>
  have hm:b ∈ trk h H:=List.mem_filter.mpr ⟨List.mem_range.mpr (Heap.lt_size e'),by simp [q]⟩
  have z:(hidT h H).get? b = none:=PySem.W.hideAll_none (trk h H) hm
  rw [z] at e; cases e
def allNews (g h:Heap) (L:Addr):List (Addr × Obj):=(List.range h.objs.size).filterMap fun a => if a = L∨(g.get? a).isSome = true then none else (h.get? a).map fun o => (a,o)
def rest (g h:Heap) (L d:Addr):List (Addr × Obj):=(allNews g h L).filter fun p => decide (p.1≠d)
structure Mod (K:PySem.W.Frag) (mg:Str→Option Value) (base:Heap):Prop where
 kin:K.In base
 glob:base.Ns mainGlobals mg
 blt:∃ mb,base.Ns builtinsNs mb∧∀ x:Str,x ≠ "__name__" → mb x = bootBuiltins x
 nolimit:base.NoLimit
structure Cx where
 prog:Program
 w:World
 K:PySem.W.Frag
 mg:Str→Option Value
 base:Heap
 A:Around
 N:List Str
 s₀:Shared
 H₀:Hp
 env:Env
 outer:List Env
 stack:List Env
 ex:List Addr
 fn:Str→Bool
 calm:Bool
 pn:List (Addr × Obj)
 xe:Value→Shared→Prop
def frs (l:List Env):List Addr:=l.filterMap (·.frame)
abbrev Cx.fs (X:Cx):List Addr:=frs X.outer
def Vis (sc:Scope) (x:Str):Prop:=sc.names.lookup x = some .local∨sc.names.lookup x = some .cell∨sc.names.lookup x = some .free
def Loc (sc:Scope) (x:Str):Prop:=sc.names.lookup x = some .local∨sc.names.lookup x = some .cell
def Look (env:Env) (h:Heap) (m:Str→Option Value) (x:Str) (u:Value):Prop :=
 (env.kindOf x = some .local∧m x = some u)∨((env.kindOf x = some .cell∨env.kindOf x = some .free)∧∃ c,env.cells.lookup x = some c∧h.IsCell c (some u))
structure Cx.Ok (X:Cx):Prop where
 mod:Mod X.K X.mg X.base
 kind:X.env.scope.kind = .function
 glob:X.env.globals = mainGlobals
 blt:X.env.builtins = builtinsNs
 above:X.s₀.heap.objs.size≤X.env.locals
 inj:∀ x y c,X.env.cells.lookup x = some c→X.env.cells.lookup y = some c→x = y
 has:∀ x,(X.env.kindOf x = some .cell∨X.env.kindOf x = some .free)→∃ c,X.env.cells.lookup x = some c
 cab:∀ x c,X.fn x = true→X.env.cells.lookup x = some c→X.s₀.heap.objs.size≤c
 hd:X.calm = true→X.A.handled = none
 frames:X.A.frames = some X.stack
 stk:X.stack = X.outer∨(X.stack = X.env :: X.outer∧X.env.frame = some X.env.locals)
 exf:∀ b ∈ X.ex,b≠X.env.locals∧∀ x c,X.env.cells.lookup x = some c→c≠b
 bs:∀ b o,X.base.get? b = some o→X.s₀.heap.get? b = some o∧X.H₀ b = none
 bsz:X.base.objs.size≤X.s₀.heap.objs.size
 noex:∀ b o,X.base.get? b = some o→b ∉ X.ex
 exfs:∀ b ∈ X.ex,b ∉ X.fs
 funs:X.s₀.heap.FunFrames X.base X.outer
 frf:∀ b ∈ X.fs,X.H₀ b = none
structure Inv (X:Cx) (pins:List (Addr × Obj)) (σ:List (Option V)) (H:Hp) (s:Shared):Prop where
 ok:X.Ok
 os:s.os = X.s₀.os
 bare:AllBare s.gens
 base:Un X.fs X.ex X.H₀ H X.s₀.heap s.heap
 loc:∃ m,s.heap.Ns X.env.locals m∧∀ (i:Nat) (x:Str) (v:V),X.N[i]? = some x→σ[i]? = some (some v)→Vis X.env.scope x→∃ u,RelV v u∧Look X.env s.heap m x u
 cell:∀ x c,X.env.cells.lookup x = some c→∃ v,s.heap.IsCell c v
 free:H X.env.locals = none
 freeC:∀ x c,X.env.cells.lookup x = some c→H c = none
 pin:∀ p ∈ X.pn ++ pins,s.heap.get? p.1 = some p.2∧H p.1 = none∧p.1≠X.env.locals∧p.1 ∉ X.fs∧∀ v,p.2.data ≠ .cell v
 hok:HOk X.prog X.w H s.heap
 len:σ.length = X.N.length
section
variable {X:Cx} {pins:List (Addr × Obj)} {σ:List (Option V)} {H H':Hp} {s:Shared} {h':Heap}
theorem Cx.Ok.nofr (ok:X.Ok) {b:Addr} {o:Obj} (e:X.base.get? b = some o):b ∉ X.fs:=fun hb => by
 have:=(ok.funs.mem hb).1
 rw [e] at this; cases this
theorem Inv.bs (I:Inv X pins σ H s):∀ b o,X.base.get? b = some o→s.heap.get? b = some o∧H b = none:=fun b o e =>
 ⟨I.base.keep b o (I.ok.bs b o e).1 (I.ok.bs b o e).2 (I.ok.nofr e) (I.ok.noex b o e),I.base.free b o (I.ok.bs b o e).1 (I.ok.bs b o e).2 (I.ok.noex b o e)⟩
theorem Inv.bk (I:Inv X pins σ H s):∀ b o,X.base.get? b = some o→s.heap.get? b = some o:=fun b o e => (I.bs b o e).1
theorem Inv.mod (I:Inv X pins σ H s):Mod X.K X.mg X.base:=I.ok.mod
theorem Inv.kIn (I:Inv X pins σ H s):X.K.In s.heap:=I.ok.mod.kin.keeps I.bk
theorem Inv.fr (I:Inv X pins σ H s):∃ m,Fr X.base X.env.locals s.heap m :=
 let ⟨m,hn,_⟩:=I.loc
 ⟨m,hn,I.bk,Nat.le_trans I.ok.bsz I.ok.above⟩
theorem Inv.lt (I:Inv X pins σ H s):X.env.locals < s.heap.objs.size:=let ⟨_,hn,_⟩:=I.loc; hn.lt
theorem Inv.sz (I:Inv X pins σ H s):X.s₀.heap.objs.size≤s.heap.objs.size:=Nat.le_trans I.ok.above (Nat.le_of_lt I.lt)
theorem Inv.nofs (I:Inv X pins σ H s) {a:Addr} (h:s.heap.objs.size≤a):a ∉ X.fs:=fun hb => by
 obtain ⟨_,o,ho,_⟩:=I.ok.funs.mem hb
 exact absurd (Nat.lt_of_lt_of_le (Heap.lt_size ho) (Nat.le_trans I.sz h)) (Nat.lt_irrefl _)
theorem Inv.cne (I:Inv X pins σ H s):∀ x c,X.env.cells.lookup x = some c→c≠X.env.locals:=fun x c e z => by
 obtain ⟨v,o,ho,hd⟩:=I.cell x c e
 obtain ⟨m,⟨o',es,ep,ho',hd',_⟩,_⟩:=I.loc
 rw [z,ho'] at ho; cases ho; rw [hd'] at hd; cases hd
theorem Inv.funs (I:Inv X pins σ H s):s.heap.FunFrames X.base X.outer:=by
 have all:∀ (l:List Env),(∀ b ∈ frs l,b ∈ X.fs)→X.s₀.heap.FunFrames X.base l→s.heap.FunFrames X.base l:=by
  intro l
  induction l with
  | nil => intro _ _; trivial
  | cons env r ih =>
   intro hs hl
   obtain ⟨hk,⟨L,o,hf,hn,ho,hd⟩,hr⟩:=hl
   have hL:L ∈ X.fs:=hs L (by unfold frs; rw [List.filterMap_cons,hf]; exact List.mem_cons_self)
   obtain ⟨sl,e⟩:=I.base.slot L o ho (I.ok.frf L hL) hL fun z => I.ok.exfs L z hL
   exact ⟨hk,⟨L,_,hf,hn,e,hd⟩,ih (fun b hb => hs b (by unfold frs; rw [List.filterMap_cons,hf]; exact List.mem_cons_of_mem _ hb)) hr⟩
 exact all X.outer (fun _ hb => hb) I.ok.funs
theorem Inv.stack (I:Inv X pins σ H s):s.heap.FunFrames X.base X.stack:=by
 rcases I.ok.stk with e | ⟨e,hf⟩
 ·rw [e]; exact I.funs
 ·rw [e]
  obtain ⟨m,hn,_⟩:=I.loc
  refine .cons (by rw [I.ok.kind]; decide) hf hn ?_ I.funs
  exact Heap.get?_none_of_le (Nat.le_trans I.ok.bsz I.ok.above)
theorem Inv.stkSub (I:Inv X pins σ H s):∀ b ∈ frs X.stack,b ∈ X.env.locals :: X.fs:=fun b hb => by
 rcases I.ok.stk with e | ⟨e,hf⟩
 ·rw [e] at hb; exact List.mem_cons_of_mem _ hb
 ·rw [e] at hb
  unfold frs at hb
  rw [List.filterMap_cons,hf] at hb
  exact hb
theorem Inv.stkFree (I:Inv X pins σ H s):∀ b ∈ frs X.stack,H b = none:=fun b hb => by
 rcases List.mem_cons.mp (I.stkSub b hb) with e | hb
 ·rw [e]; exact I.free
 ·obtain ⟨_,o,ho,_⟩:=I.ok.funs.mem hb
  exact I.base.free b o ho (I.ok.frf b hb) fun z => I.ok.exfs b z hb
theorem Inv.step {g':Array GenState} {t':Nat} {d':Drawn} {ch:List Addr} (I:Inv X pins σ H s)
  (hch:∀ b ∈ ch,(b ∈ X.ex∨X.s₀.heap.objs.size≤b)∧b≠X.env.locals∧(∀ x c,X.env.cells.lookup x = some c→c≠b)∧∀ p ∈ X.pn ++ pins,p.1≠b)
  (keep:∀ b o,b≠X.env.locals→b ∉ X.fs→b ∉ ch→s.heap.get? b = some o→H b = none→h'.get? b = some o)
  (slot:∀ b o,b≠X.env.locals→b ∈ X.fs→b ∉ ch→s.heap.get? b = some o→H b = none→∃ sl,h'.get? b = some { o with slots:=sl }) (free:∀ b o,b ∉ ch→s.heap.get? b = some o→H b = none→H' b = none)
  (there:∀ b o,b ∉ ch→s.heap.get? b = some o→∃ o',h'.get? b = some o')
  (tups:∀ b xs,H b = some (.tup xs)→H' b = some (.tup xs)) (frzs:∀ b o u,H b = some (.frz o u)→H' b = some (.frz o u)) (tbls:∀ b ps,H b = some (.tbl ps)→∃ more,H' b = some (.tbl (ps ++ more)))
  (ns:∀ m,s.heap.Ns X.env.locals m→h'.Ns X.env.locals m) (hok:HOk X.prog X.w H' h') (hg:AllBare g') :
  Inv X pins σ H' { s with heap:=h',gens:=g',drawn:=d',toks:=t' }:=by
 have neL:∀ b o,X.s₀.heap.get? b = some o→b≠X.env.locals:=fun b o e => Nat.ne_of_lt (Nat.lt_of_lt_of_le (Heap.lt_size e) I.ok.above)
 have neC:∀ b o,X.s₀.heap.get? b = some o→b ∉ X.ex→b ∉ ch:=fun b o e hx hb => by
  rcases (hch b hb).1 with z | z
  ·exact hx z
  ·exact absurd (Nat.lt_of_lt_of_le (Heap.lt_size e) z) (Nat.lt_irrefl _)
 have cellK:∀ x c,X.env.cells.lookup x = some c→∀ v,s.heap.IsCell c v→h'.IsCell c v:=fun x c e v ⟨o,ho,hd⟩ => by
  have nch:c ∉ ch:=fun z => (hch c z).2.2.1 x c e rfl
  by_cases hc:c ∈ X.fs
  ·obtain ⟨sl,q⟩:=slot c o (I.cne x c e) hc nch ho (I.freeC x c e)
   exact ⟨_,q,hd⟩
  ·exact ⟨o,keep c o (I.cne x c e) hc nch ho (I.freeC x c e),hd⟩
 refine ⟨I.ok,I.os,hg,⟨fun b o e n hb hx => ?_,fun b o e n hb hx => ?_,fun b o e n hx => ?_,fun b o e hx => ?_,fun b xs e => tups b xs (I.base.tups b xs e),fun b o xs e => frzs b o xs (I.base.frzs b o xs e),fun b ps e => ?_⟩, ?_,fun x c e => ?_, ?_,fun x c e => ?_,fun p hp => ?_,hok,I.len⟩
 ·exact keep b o (neL b o e) hb (neC b o e hx) (I.base.keep b o e n hb hx) (I.base.free b o e n hx)
 ·obtain ⟨sl,e1⟩:=I.base.slot b o e n hb hx
  obtain ⟨sl',e2⟩:=slot b _ (neL b o e) hb (neC b o e hx) e1 (I.base.free b o e n hx)
  exact ⟨sl',e2⟩
 ·obtain ⟨o',e1⟩:=I.base.there b o e hx
  exact free b o' (neC b o e hx) e1 (I.base.free b o e n hx)
 ·obtain ⟨o',e1⟩:=I.base.there b o e hx
  exact there b o' (neC b o e hx) e1
 ·obtain ⟨m1,e1⟩:=I.base.tbls b ps e
  obtain ⟨m2,e2⟩:=tbls b _ e1
  exact ⟨m1 ++ m2,by rw [e2,Array.append_assoc]⟩
 ·obtain ⟨m,hn,hl⟩:=I.loc
  refine ⟨m,ns m hn,fun i x v e1 e2 e3 => ?_⟩
  obtain ⟨u,r,l⟩:=hl i x v e1 e2 e3
  refine ⟨u,r, ?_⟩
  rcases l with l | ⟨k,c,e,z⟩
  ·exact .inl l
  ·exact .inr ⟨k,c,e,cellK x c e _ z⟩
 ·obtain ⟨v,z⟩:=I.cell x c e
  exact ⟨v,cellK x c e v z⟩
 ·obtain ⟨m,⟨o,_,_,ho,_⟩,_⟩:=I.loc
  exact free _ o (fun z => (hch _ z).2.1 rfl) ho I.free
 ·obtain ⟨v,o,ho,hd⟩:=I.cell x c e
  exact free c o (fun z => (hch c z).2.2.1 x c e rfl) ho (I.freeC x c e)
 ·obtain ⟨e,n,ne,nf,d⟩:=I.pin p hp
  have nch:p.1 ∉ ch:=fun z => (hch p.1 z).2.2.2 p hp rfl
  exact ⟨keep p.1 p.2 ne nf nch e n,free p.1 p.2 nch e n,ne,nf,d⟩
theorem Inv.un {t':Nat} (I:Inv X pins σ H s) (u:Un X.fs [] H H' s.heap h') (hok:HOk X.prog X.w H' h'):Inv X pins σ H' { s with heap:=h',toks:=t' }:=by
 obtain ⟨m,⟨o,es,ep,ho,r⟩,_⟩:=id I.loc
 obtain ⟨sl,hL⟩:=u.any ho I.free (by simp)
 exact I.step (g':=s.gens) (d':=s.drawn) (ch:=[]) (fun _ z => nomatch z) (fun b o _ hb _ e n => u.keep b o e n hb (by simp)) (fun b o _ hb _ e n => u.slot b o e n hb (by simp)) (fun b o _ e n => u.free b o e n (by simp)) (fun b o _ e => u.there b o e (by simp)) u.tups u.frzs u.tbls (fun m' hm => by
  obtain ⟨o',es',ep',ho',r'⟩:=hm
  rw [ho] at ho'; cases ho'
  exact ⟨_,es',ep',hL,r'⟩) hok I.bare
theorem Inv.call {g':Array GenState} {t':Nat} {d':Drawn} {ch:List Addr} (I:Inv X pins σ H s) (u:Un (frs X.stack) ch H H' s.heap h') (hok:HOk X.prog X.w H' h') (hg:AllBare g')
  (hch:∀ b ∈ ch,(b ∈ X.ex∨X.s₀.heap.objs.size≤b)∧b≠X.env.locals∧(∀ x c,X.env.cells.lookup x = some c→c≠b)∧∀ p ∈ X.pn ++ pins,p.1≠b) :
  Inv X pins σ H' { s with heap:=h',gens:=g',drawn:=d',toks:=t' }:=by
 obtain ⟨m,⟨o,es,ep,ho,r⟩,_⟩:=id I.loc
 obtain ⟨sl,hL⟩:=u.any ho I.free fun z => (hch _ z).2.1 rfl
 exact I.step (ch:=ch) hch (fun b o hL hb hc e n => u.keep b o e n (fun z => (List.mem_cons.mp (I.stkSub b z)).elim hL hb) hc) (fun b o _ _ hc e n => u.any e n hc) (fun b o hc e n => u.free b o e n hc) (fun b o hc e => u.there b o e hc) u.tups u.frzs u.tbls (fun m' hm => by
  obtain ⟨o',es',ep',ho',r'⟩:=hm
  rw [ho] at ho'; cases ho'
  exact ⟨_,es',ep',hL,r'⟩) hok hg
theorem Inv.turned {t':Nat} {it:Addr} (I:Inv X pins σ H s) (k:∀ b o,b≠it→s.heap.get? b = some o→h'.get? b = some o) (hn:H it = none) (hL:it≠X.env.locals)
  (h1:it ∈ X.ex∨X.s₀.heap.objs.size≤it) (h2:∀ x c,X.env.cells.lookup x = some c→c≠it) (h3:∀ p ∈ X.pn ++ pins,p.1≠it):Inv X pins σ H { s with heap:=h',toks:=t' }:=by
 have nit:∀ b u,H b = some u→b≠it:=fun b u e z => by rw [z,hn] at e; cases e
 refine I.step (g':=s.gens) (d':=s.drawn) (ch:=[it]) (fun b hb => ?_) (fun b o _ _ hc e _ => k b o (fun z => hc (by simp [z])) e) (fun b o _ _ hc e _ => ⟨o.slots,k b o (fun z => hc (by simp [z])) e⟩) (fun _ _ _ _ n => n)
  (fun b o hc e => ⟨o,k b o (fun z => hc (by simp [z])) e⟩) (fun _ _ e => e) (fun _ _ _ e => e) (fun b ps e => ⟨#[],by rw [e]; simp⟩) (fun m hm => ?_) (fun b u e => ?_) I.bare
 ·have e:b = it:=by simpa using hb
  subst e
  exact ⟨h1,hL,h2,h3⟩
 ·obtain ⟨o,es,ep,ho,r⟩:=hm
  exact ⟨o,es,ep,k _ o (Ne.symm hL) ho,r⟩
 ·refine (I.hok b u e).stay (fun c v hc q => k c v ?_ q) (fun _ q => q) fun _ _ q => q
  rcases hc with z | z
  ·rw [z]; exact nit b u e
  ·exact nit c _ z
theorem Inv.tok (I:Inv X pins σ H s) (t:Nat):Inv X pins σ H { s with toks:=t }:=I.un (h':=s.heap) (t':=t) Un.refl I.hok
theorem Inv.kept {t':Nat} (I:Inv X pins σ H s) (k:∀ b u,s.heap.get? b = some u→h'.get? b = some u):Inv X pins σ H { s with heap:=h',toks:=t' }:=I.un (Un.kept k) (I.hok.kept k)
theorem Inv.laid {a:Addr} {o:HO} {t':Nat} (I:Inv X pins σ H s) (k:∀ b u,s.heap.get? b = some u→h'.get? b = some u) (hp:s.heap.objs.size≤a) (new:ObjOk X.prog X.w (upd H a o) h' a o) :
  Inv X pins σ (upd H a o) { s with heap:=h',toks:=t' }:=I.un (Un.laid k hp (I.hok.fresh hp)) (I.hok.laid k hp new)
theorem Inv.write {x e:Addr} {o:HO} {t':Nat} (I:Inv X pins σ H s) (mu:Mut (H x)) (he:e = x∨H e = some (.own x)) (k:∀ b u,b≠e→s.heap.get? b = some u→h'.get? b = some u) (heo:∃ u,h'.get? e = some u)
  (new:ObjOk X.prog X.w (upd H x o) h' x o):Inv X pins σ (upd H x o) { s with heap:=h',toks:=t' }:=I.un (Un.write mu he k heo) (I.hok.write mu he k heo new)
theorem Inv.weak {σ':List (Option V)} (I:Inv X pins σ H s) (hl:σ'.length = σ.length) (w:∀ (i:Nat) v,σ'[i]? = some (some v)→σ[i]? = some (some v)):Inv X pins σ' H s :=
 ⟨I.ok,I.os,I.bare,I.base,let ⟨m,hn,hl'⟩:=I.loc; ⟨m,hn,fun i x v e1 e2 e3 => hl' i x v e1 (w i v e2) e3⟩,I.cell,I.free,I.freeC,I.pin,I.hok,hl.trans I.len⟩
theorem Inv.pins_of {pins':List (Addr × Obj)} (I:Inv X pins σ H s) (h:∀ p ∈ pins',s.heap.get? p.1 = some p.2∧H p.1 = none∧p.1≠X.env.locals∧p.1 ∉ X.fs∧∀ v,p.2.data ≠ .cell v):Inv X pins' σ H s :=
 ⟨I.ok,I.os,I.bare,I.base,I.loc,I.cell,I.free,I.freeC,fun p hp => (List.mem_append.mp hp).elim (fun z => I.pin p (List.mem_append_left _ z)) (h p),I.hok,I.len⟩
theorem Qp {N:List Str} (hN:N.Nodup) {i j:Nat} {x:Str} (a:N[i]? = some x) (b:N[j]? = some x):i = j:=by
 obtain ⟨h1,e1⟩:=List.getElem?_eq_some_iff.mp a
 obtain ⟨h2,e2⟩:=List.getElem?_eq_some_iff.mp b
 exact (List.getElem_inj hN).mp (e1.trans e2.symm)
theorem Q2 {M:Model} {A:Around} {E:Value→Shared→Prop} {i:Nat} {x:Str} {v:V} {u:Value} {Q:Unit→Shared→Prop} (I:Inv X pins σ H s) (hN:X.N.Nodup) (hi:X.N[i]? = some x) (hx:Loc X.env.scope x) (r:RelV v u)
  (h:∀ s',Inv X pins (σ.set i (some v)) H s'→(∃ a,Heap.SameBut a s.heap s'.heap∧(a = X.env.locals∨X.env.cells.lookup x = some a))→Q () s') (hf:X.fn x = true∨X.env.scope.names.lookup x = some .local:=by first | exact .inl rfl | exact .inr rfl | assumption):wpAny M A (storeName X.env x u) Q E s:=by
 obtain ⟨m,hn,hl⟩:=id I.loc
 have hcls:(X.env.scope.kind == .class || (X.env.scope.kind == .module && X.env.locals != X.env.globals)) = false:=by rw [I.ok.kind]; rfl
 have hiσ:i < σ.length:=by rw [I.len]; exact (List.getElem?_eq_some_iff.mp hi).1
 have cne:=I.cne
 have tracked:∀ {a:Addr} {h':Heap},(∃ o,s.heap.get? a = some o∧H a = none)→Heap.SameBut a s.heap h'→HOk X.prog X.w H h':=fun {a h'} ha hs b ob e => by
  obtain ⟨_,_,hfree⟩:=ha
  refine (I.hok b ob e).stay (fun c w' hc q => (hs.2 c ?_).trans q) (fun _ q => q) fun _ _ q => q
  rintro rfl
  rcases hc with rfl | hc
  ·rw [hfree] at e; cases e
  ·rw [hfree] at hc; cases hc
 rcases hx with hk | hk
 ·refine wpAny_storeName_local hk hn (fun h' hn' hs => ?_) hcls
  obtain ⟨oL,_,_,hoL,_⟩:=id hn
  refine h _ ⟨I.ok,I.os,I.bare,⟨fun b o e n hb hx => ?_,fun b o e n hb hx => ?_,I.base.free,fun b o e hx => ?_,I.base.tups,I.base.frzs,I.base.tbls⟩,⟨_,hn',fun j y v' e1 e2 e3 => ?_⟩,fun y c e => ?_,I.free,I.freeC,fun p hp => ?_,tracked ⟨oL,hoL,I.free⟩ hs,by simpa using I.len⟩ ⟨_,hs, .inl rfl⟩
  ·exact (hs.2 b (Nat.ne_of_lt (Nat.lt_of_lt_of_le (Heap.lt_size e) I.ok.above))).trans (I.base.keep b o e n hb hx)
  ·obtain ⟨sl,e1⟩:=I.base.slot b o e n hb hx
   exact ⟨sl,(hs.2 b (Nat.ne_of_lt (Nat.lt_of_lt_of_le (Heap.lt_size e) I.ok.above))).trans e1⟩
  ·obtain ⟨o',e1⟩:=I.base.there b o e hx
   exact ⟨o',(hs.2 b (Nat.ne_of_lt (Nat.lt_of_lt_of_le (Heap.lt_size e) I.ok.above))).trans e1⟩
  ·by_cases hj:j = i
   ·subst hj
    rw [hi] at e1; cases e1
    rw [List.getElem?_set_self hiσ] at e2
    cases e2
    exact ⟨u,r, .inl ⟨hk,by simp⟩⟩
   ·rw [List.getElem?_set_ne (Ne.symm hj)] at e2
    obtain ⟨u',r',q⟩:=hl j y v' e1 e2 e3
    refine ⟨u',r', ?_⟩
    rcases q with ⟨k,e⟩ | ⟨k,c,e,z⟩
    ·refine .inl ⟨k, ?_⟩
     have:y≠x:=fun e => hj (Qp hN e1 (e ▸ hi))
     simp [this,e]
    ·exact .inr ⟨k,c,e,z.sameBut hs (cne y c e)⟩
  ·obtain ⟨w',z⟩:=I.cell y c e
   exact ⟨w',z.sameBut hs (cne y c e)⟩
  ·obtain ⟨e,n,ne,nf,d⟩:=I.pin p hp
   exact ⟨(hs.2 p.1 ne).trans e,n,ne,nf,d⟩
 ·have hfn:X.fn x = true:=by
   rcases hf with z | z
   ·exact z
   ·rw [z] at hk; cases hk
  obtain ⟨c,hc⟩:=I.ok.has x (.inl hk)
  obtain ⟨w',z⟩:=I.cell x c hc
  refine wpAny_storeName_cell I.ok.kind hk hc z (fun h' hc' hs => ?_)
  obtain ⟨oc,hoc,hocd⟩:=id z
  refine h { s with heap:=h' } ⟨I.ok,I.os,I.bare,⟨fun b o e n hb hx => ?_,fun b o e n hb hx => ?_,I.base.free,fun b o e hx => ?_,I.base.tups,I.base.frzs,I.base.tbls⟩,⟨m,hn.sameBut hs (Ne.symm (cne x c hc)),fun j y v' e1 e2 e3 => ?_⟩,fun y c' e => ?_,I.free,I.freeC,fun p hp => ?_,tracked ⟨oc,hoc,I.freeC x c hc⟩ hs,by simpa using I.len⟩ ⟨c,hs, .inr hc⟩
  ·exact (hs.2 b (Nat.ne_of_lt (Nat.lt_of_lt_of_le (Heap.lt_size e) (I.ok.cab x c hfn hc)))).trans (I.base.keep b o e n hb hx)
  ·obtain ⟨sl,e1⟩:=I.base.slot b o e n hb hx
   exact ⟨sl,(hs.2 b (Nat.ne_of_lt (Nat.lt_of_lt_of_le (Heap.lt_size e) (I.ok.cab x c hfn hc)))).trans e1⟩
  ·obtain ⟨o',e1⟩:=I.base.there b o e hx
   exact ⟨o',(hs.2 b (Nat.ne_of_lt (Nat.lt_of_lt_of_le (Heap.lt_size e) (I.ok.cab x c hfn hc)))).trans e1⟩
  ·by_cases hj:j = i
   ·subst hj
    rw [hi] at e1; cases e1
    rw [List.getElem?_set_self hiσ] at e2
    cases e2
    exact ⟨u,r, .inr ⟨.inl hk,c,hc,hc'⟩⟩
   ·rw [List.getElem?_set_ne (Ne.symm hj)] at e2
    obtain ⟨u',r',q⟩:=hl j y v' e1 e2 e3
    refine ⟨u',r', ?_⟩
    rcases q with q | ⟨k,c',e,z'⟩
    ·exact .inl q
    ·refine .inr ⟨k,c',e,z'.sameBut hs ?_⟩
     rintro rfl
     exact hj (Qp hN e1 (I.ok.inj _ _ _ e hc ▸ hi))
  ·by_cases hcc:c' = c
   ·subst hcc; exact ⟨_,hc'⟩
   ·obtain ⟨w2,z2⟩:=I.cell y c' e
    exact ⟨w2,z2.sameBut hs hcc⟩
  ·obtain ⟨e,n,ne,nf,d⟩:=I.pin p hp
   refine ⟨(hs.2 p.1 ?_).trans e,n,ne,nf,d⟩
   intro q
   rw [q,hoc] at e
   have q':oc = p.2:=Option.some.inj e
   exact d w' (by rw [← q']; exact hocd)
theorem zL {M:Model} {A:Around} {E:Value→Shared→Prop} {i:Nat} {x:Str} {v:V} {u:Value} {Q:Unit→Shared→Prop} (I:Inv X pins σ H s) (hN:X.N.Nodup) (hi:X.N[i]? = some x) (hx:Loc X.env.scope x) (r:RelV v u)
  (h:∀ s',Inv X pins (σ.set i (some v)) H s'→Q () s') (hf:X.fn x = true∨X.env.scope.names.lookup x = some .local:=by first | exact .inl rfl | exact .inr rfl | assumption):wpAny M A (storeName X.env x u) Q E s :=
 Q2 I hN hi hx r (fun s' I' _ => h s' I') hf
theorem Inv.call' {s':Shared} {ch:List Addr} (I:Inv X pins σ H s) (ho:s'.os = s.os) (u:Un (frs X.stack) ch H H' s.heap s'.heap) (hok:HOk X.prog X.w H' s'.heap) (hg:AllBare s'.gens)
  (hch:∀ b ∈ ch,(b ∈ X.ex∨X.s₀.heap.objs.size≤b)∧b≠X.env.locals∧(∀ x c,X.env.cells.lookup x = some c→c≠b)∧∀ p ∈ X.pn ++ pins,p.1≠b):Inv X pins σ H' s':=by
 obtain ⟨h',g',d',t',o'⟩:=s'
 have e:o' = s.os:=ho
 subst e
 exact I.call (g':=g') (t':=t') (d':=d') u hok hg hch
end
abbrev XK:=Value→Option Addr→Hp→Prop
abbrev St:=List (Option V)
abbrev VK:=V→Hp→Prop
abbrev TE:=St→Hp→VK→Prop
abbrev TT:=St→Hp→(Bool→Hp→Prop)→Prop
abbrev TA:=St→Hp→(List V→Hp→Prop)→Prop
structure Ends where
 nx:St→Hp→Prop
 rt:VK
 bk:St→Hp→Prop:=fun _ _ => False
 ct:St→Hp→Prop:=fun _ _ => False
abbrev TS:=Ends→St→Hp→Prop
def EP (X:Cx) (pins:List (Addr × Obj)) (σ:St) (Q:VK) (u:Value) (s':Shared):Prop:=∃ v H',Inv X pins σ H' s'∧RelV v u∧Q v H'
def TP (X:Cx) (pins:List (Addr × Obj)) (σ:St) (Q:Bool→Hp→Prop) (b:Bool) (s':Shared):Prop:=∃ H',Inv X pins σ H' s'∧Q b H'
def AP (X:Cx) (pins:List (Addr × Obj)) (σ:St) (Q:List V→Hp→Prop) (us:List Value) (s':Shared):Prop:=∃ vs H',Inv X pins σ H' s'∧Vals vs us∧Q vs H'
def SP (X:Cx) (pins:List (Addr × Obj)) (D:Ends) (f:Flow) (s':Shared):Prop :=
 match f with
 | .next => ∃ σ' H',Inv X pins σ' H' s'∧D.nx σ' H'
 | .brk => ∃ σ' H',Inv X pins σ' H' s'∧D.bk σ' H'
 | .cont => ∃ σ' H',Inv X pins σ' H' s'∧D.ct σ' H'
 | .ret u => ∃ v σ' H',Inv X pins σ' H' s'∧RelV v u∧D.rt v H'
def PE (X:Cx) (e:Expr) (t:TE):Prop :=
 ∀ (pins:List (Addr × Obj)) (s:Shared) (σ:St) (H:Hp) (Q:VK),Inv X pins σ H s→t σ H Q→wpAny (model X.prog X.w) X.A (eval e X.env) (EP X pins σ Q) X.xe s
def PT (X:Cx) (e:Expr) (t:TT):Prop :=
 ∀ (pins:List (Addr × Obj)) (s:Shared) (σ:St) (H:Hp) (Q:Bool→Hp→Prop),Inv X pins σ H s→t σ H Q→wpAny (model X.prog X.w) X.A (isTrue e X.env (eval e X.env)) (TP X pins σ Q) X.xe s
def PW (X:Cx) (e:Expr) (t:TT):Prop :=
 ∀ (whole:Sem Value) (pins:List (Addr × Obj)) (s:Shared) (σ:St) (H:Hp) (Q:Bool→Hp→Prop),Inv X pins σ H s→t σ H Q→wpAny (model X.prog X.w) X.A (isTrue e X.env whole) (TP X pins σ Q) X.xe s
theorem PW.pt {X:Cx} {e:Expr} {t:TT} (h:PW X e t):PT X e t:=h _
def PA (X:Cx) (es:List Expr) (t:TA):Prop :=
 ∀ (pos:Pos) (pins:List (Addr × Obj)) (s:Shared) (σ:St) (H:Hp) (Q:List V→Hp→Prop),Inv X pins σ H s→t σ H Q→wpAny (model X.prog X.w) X.A (spliced (backTo pos (starEach es X.env))) (AP X pins σ Q) X.xe s
def PS (X:Cx) (st:Stmt) (t:TS):Prop :=
 ∀ (pins:List (Addr × Obj)) (s:Shared) (σ:St) (H:Hp) (D:Ends),Inv X pins σ H s→t D σ H→wpAny (model X.prog X.w) X.A (exec st X.env) (SP X pins D) X.xe s
def PSs (X:Cx) (st:List Stmt) (t:TS):Prop :=
 ∀ (pins:List (Addr × Obj)) (s:Shared) (σ:St) (H:Hp) (D:Ends),Inv X pins σ H s→t D σ H→wpAny (model X.prog X.w) X.A (execs st X.env) (SP X pins D) X.xe s
theorem thn {α:Type} {t:Sem α} {Q Q':α→Shared→Prop} {M:Model} {A:Around} {E:Value→Shared→Prop} {s:Shared} (h:wpAny M A t Q E s) (hQ:∀ a s,Q a s→Q' a s):wpAny M A t Q' E s:=wpAny_mono h hQ fun _ _ x => x
section
variable {X:Cx}
theorem bin {a b:Expr} {ta tb:TE} (ha:PE X a ta) (hb:PE X b tb) {pins:List (Addr × Obj)} {s:Shared} {σ:St} {H:Hp} {R:V→V→Hp→Prop} (I:Inv X pins σ H s) (h:ta σ H fun x H1 => tb σ H1 fun y H2 => R x y H2)
  {α:Type} {Q:α→Shared→Prop} {f:Value→Value→Sem α}
  (hf:∀ v u s2 x y H2,Inv X pins σ H2 s2→RelV x v→RelV y u→R x y H2→wpAny (model X.prog X.w) X.A (f v u) Q X.xe s2) :
  wpAny (model X.prog X.w) X.A (eval a X.env) (fun v s₁ => wpAny (model X.prog X.w) X.A (eval b X.env) (fun u s₂ => wpAny (model X.prog X.w) X.A (f v u) Q X.xe s₂) X.xe s₁) X.xe s:=by
 refine thn (ha pins s σ H _ I h) fun v s1 ⟨x,H1,I1,r1,q1⟩ => ?_
 refine thn (hb pins s1 σ H1 _ I1 q1) fun u s2 ⟨y,H2,I2,r2,q2⟩ => ?_
 exact hf v u s2 x y H2 I2 r1 r2 q2
def tVar (i:Nat):TE:=fun σ H Q => ∃ v,σ[i]? = some (some v)∧Q v H
def tC (v:V):TE:=fun _ H Q => Q v H
theorem pe_var {i:Nat} {x:Str} {pos:Pos} (hN:X.N[i]? = some x) (hv:Vis X.env.scope x) (hd:(x == ("__debug__" : Str)) = false:=by decide) (hcd:(x == ("__classdict__" : Str)) = false:=by decide):PE X (.Name x pos) (tVar i):=by
 intro pins s σ H Q I h
 obtain ⟨v,e,h⟩:=h
 obtain ⟨m,hn,hl⟩:=I.loc
 obtain ⟨u,r,l⟩:=hl i x v hN e hv
 have fin:EP X pins σ Q u s:=⟨v,H,I,r,h⟩
 rcases l with ⟨hk,hm⟩ | ⟨hk,c,hc,hcell⟩
 ·exact wpAny_Name (wpAny_loadName_local I.ok.kind hk hn hm fin) hd
 ·rcases hk with hk | hk
  ·exact wpAny_Name (wpAny_loadName_cell I.ok.kind hk hc hcell fin) hd
  ·exact wpAny_Name (wpAny_loadName_free I.ok.kind hk hc hcell fin hcd) hd
theorem pe_int {i j pos}:PE X (.Constant (.int i) j pos) (tC (.int i)):=fun _ _ _ H _ I h => wpAny_Constant_int ⟨.int i,H,I.tok _,⟨_,rfl⟩,h⟩
theorem pe_bl {b j pos}:PE X (.Constant (.bool b) j pos) (tC (.bl b)):=fun _ _ _ H _ I h => Constant_bool ⟨.bl b,H,I,rfl,h⟩
theorem pe_non {j pos}:PE X (.Constant .none j pos) (tC .non):=fun _ _ _ H _ I h => Constant_none ⟨.non,H,I,rfl,h⟩
theorem pe_str {x j pos}:PE X (.Constant (.str x) j pos) (tC (.str x)):=fun _ _ _ H _ I h => Calls.Constant_str ⟨.str x,H,I.tok _,⟨_,rfl⟩,h⟩
def Gl (X:Cx) (x:Str):Prop:=X.env.kindOf x = some .globalImplicit
theorem zB {E:Value→Shared→Prop} {pins:List (Addr × Obj)} {s:Shared} {σ:St} {H:Hp} {x:Str} {u:Value} {pos:Pos} {Q:Value→Shared→Prop} (I:Inv X pins σ H s) (hg:Gl X x) (hm:X.mg x = some u) (h:Q u s)
  (hd:(x == ("__debug__" : Str)) = false:=by decide):wpAny (model X.prog X.w) X.A (eval (.Name x pos) X.env) Q E s :=
 Calls.Name_function_global I.ok.kind hg (Calls.loadGlobal_global (by rw [I.ok.glob]; exact I.mod.glob.keeps I.bk) hm h) hd
theorem ZC {E:Value→Shared→Prop} {pins:List (Addr × Obj)} {s:Shared} {σ:St} {H:Hp} {x:Str} {u:Value} {pos:Pos} {Q:Value→Shared→Prop} (I:Inv X pins σ H s) (hg:Gl X x) (hm:X.mg x = none) (hv:bootBuiltins x = some u) (h:Q u s)
  (hn:x ≠ "__name__" := by decide) (hd:(x == ("__debug__" : Str)) = false:=by decide):wpAny (model X.prog X.w) X.A (eval (.Name x pos) X.env) Q E s:=by
 obtain ⟨mb,h1,h2⟩:=I.mod.blt
 exact Calls.Name_function_global I.ok.kind hg (Calls.loadGlobal_builtin (by rw [I.ok.glob]; exact I.mod.glob.keeps I.bk) hm (by rw [I.ok.blt]; exact h1.keeps I.bk) ((h2 x hn).trans hv) h) hd
theorem Js {x:Str} {v:V} {u:Value} {pos:Pos} (hg:Gl X x) (hm:X.mg x = some u) (r:RelV v u) (hd:(x == ("__debug__" : Str)) = false:=by decide):PE X (.Name x pos) (tC v) :=
 fun _ _ _ H _ I h => zB I hg hm ⟨v,H,I,r,h⟩ hd
theorem pe_bltn {x:Str} {v:V} {u:Value} {pos:Pos} (hg:Gl X x) (hm:X.mg x = none) (hv:bootBuiltins x = some u) (r:RelV v u) (hn:x ≠ "__name__" := by decide) (hd:(x == ("__debug__" : Str)) = false:=by decide):PE X (.Name x pos) (tC v) :=
 fun _ _ _ H _ I h => ZC I hg hm hv ⟨v,H,I,r,h⟩ hn hd
variable {a b:Expr} {ta tb:TE} {pos:Pos}
def PC (X:Cx) (op:CmpOp) (a b:Expr) (t:TE):Prop :=
 ∀ (pins:List (Addr × Obj)) (s:Shared) (σ:St) (H:Hp) (Q:VK),Inv X pins σ H s→t σ H Q →
  wpAny (model X.prog X.w) X.A (eval a X.env) (fun v s₁ => wpAny (model X.prog X.w) X.A (eval b X.env) (fun u s₂ => wpAny (model X.prog X.w) X.A (compareOp op v u) (EP X pins σ Q) X.xe s₂) X.xe s₁) X.xe s
def tB (t:TE):TT:=fun σ H Q => t σ H fun x H1 => ∃ c,x = .bl c∧Q c H1
theorem pt_cmp {op:CmpOp} {t:TE} (h:PC X op a b t) (h1:behindInMarks op b = false:=by first | exact nobehind _ (by decide) (by decide) | rfl):PT X (.Compare a [op] [b] pos) (tB t):=by
 intro pins s σ H Q I hw
 refine wpAny_isTrue_Compare1 (thn (h pins s σ H _ I hw) fun v s1 h1 => thn h1 fun u s2 h2 => thn h2 fun c s3 ⟨x,H1,I1,r1,q1⟩ => ?_) h1
 obtain ⟨d,rfl,q⟩:=q1
 cases r1
 exact wpAny_truthy_bool ⟨H1,I1,q⟩
theorem pt_val {e:Expr} {t:TE} (h:PE X e t) (he:∀ whole,isTrue e X.env whole = (do let v ← whole; standAt e.pos; holding [v] (truthy v)):=by intro _; rfl):PT X e (tB t):=by
 intro pins s σ H Q I hw
 refine isTrue_plain (thn (h pins s σ H _ I hw) fun v s1 ⟨x,H1,I1,r1,q1⟩ => ?_) (he _)
 obtain ⟨d,rfl,q⟩:=q1
 cases r1
 exact wpAny_truthy_bool ⟨H1,I1,q⟩
variable {tA tB':TT} {rest:List Expr}
def tAnd (t u:TT):TT:=fun σ H Q => t σ H fun c H1 => if c = true then u σ H1 Q else Q false H1
def tOr (t u:TT):TT:=fun σ H Q => t σ H fun c H1 => if c = true then Q true H1 else u σ H1 Q
def tNot (t:TT):TT:=fun σ H Q => t σ H fun c H1 => Q (!c) H1
theorem pw_and1 (ha:PT X a tA):PW X (.BoolOp .And [a] pos) tA:=by
 intro wh pins s σ H Q I h
 refine isTrue_and (thn (ha pins s σ H Q I h) fun c s1 e => ?_)
 cases c with
 | true => exact isTrue_and_nil e
 | false => exact e
theorem pw_or1 (ha:PT X a tA):PW X (.BoolOp .Or [a] pos) tA:=by
 intro wh pins s σ H Q I h
 refine isTrue_or (thn (ha pins s σ H Q I h) fun c s1 e => ?_)
 cases c with
 | false => exact isTrue_or_nil e
 | true => exact e
theorem pw_and (ha:PT X a tA) (hb:PW X (.BoolOp .And (b :: rest) pos) tB'):PW X (.BoolOp .And (a :: b :: rest) pos) (tAnd tA tB'):=by
 intro wh pins s σ H Q I h
 refine isTrue_and (thn (ha pins s σ H _ I h) fun c s1 ⟨H1,I1,q1⟩ => ?_)
 cases c with
 | true => exact hb wh pins s1 σ H1 Q I1 q1
 | false => exact ⟨H1,I1,q1⟩
theorem pw_or (ha:PT X a tA) (hb:PW X (.BoolOp .Or (b :: rest) pos) tB'):PW X (.BoolOp .Or (a :: b :: rest) pos) (tOr tA tB'):=by
 intro wh pins s σ H Q I h
 refine isTrue_or (thn (ha pins s σ H _ I h) fun c s1 ⟨H1,I1,q1⟩ => ?_)
 cases c with
 | true => exact ⟨H1,I1,q1⟩
 | false => exact hb wh pins s1 σ H1 Q I1 q1
theorem pt_not (ha:PT X a tA):PT X (.UnaryOp .Not a pos) (tNot tA):=by
 intro pins s σ H Q I h
 exact isTrue_not (ha pins s σ H (fun c H1 => Q (!c) H1) I h)
def vV (ta tb:TE):TE:=fun σ H Q => ta σ H fun x H1 => ∃ c,x = .bl c∧if c = true then tb σ H1 Q else Q (.bl false) H1
def tOrV (ta tb:TE):TE:=fun σ H Q => ta σ H fun x H1 => ∃ c,x = .bl c∧if c = true then Q (.bl true) H1 else tb σ H1 Q
def zb (ta:TE):TE:=fun σ H Q => ta σ H fun x H1 => ∃ c,x = .bl c∧Q (.bl (!c)) H1
theorem pe_one {op} {t:TE} (h:PE X a t):PE X (.BoolOp op [a] pos) t:=fun pins s σ H Q I hw => BoolOp_one (h pins s σ H Q I hw)
theorem pe_and (ha:PE X a ta) (hb:PE X (.BoolOp .And (b :: rest) pos) tb):PE X (.BoolOp .And (a :: b :: rest) pos) (vV ta tb):=by
 intro pins s σ H Q I h
 refine BoolOp_and (thn (ha pins s σ H _ I h) fun v s1 ⟨x,H1,I1,r1,q1⟩ => ?_)
 obtain ⟨c,rfl,q1⟩:=q1
 cases r1
 refine wpAny_truthy_bool ?_
 cases c with
 | true => exact hb pins s1 σ H1 Q I1 q1
 | false => exact ⟨.bl false,H1,I1,rfl,q1⟩
theorem pe_or (ha:PE X a ta) (hb:PE X (.BoolOp .Or (b :: rest) pos) tb):PE X (.BoolOp .Or (a :: b :: rest) pos) (tOrV ta tb):=by
 intro pins s σ H Q I h
 refine BoolOp_or (thn (ha pins s σ H _ I h) fun v s1 ⟨x,H1,I1,r1,q1⟩ => ?_)
 obtain ⟨c,rfl,q1⟩:=q1
 cases r1
 refine wpAny_truthy_bool ?_
 cases c with
 | false => exact hb pins s1 σ H1 Q I1 q1
 | true => exact ⟨.bl true,H1,I1,rfl,q1⟩
def tIf (t:TT) (ta tb:TE):TE:=fun σ H Q => t σ H fun c H1 => if c = true then ta σ H1 Q else tb σ H1 Q
theorem pe_ifExp {c:Expr} (hc:PT X c tA) (ha:PE X a ta) (hb:PE X b tb):PE X (.IfExp c a b pos) (tIf tA ta tb):=by
 intro pins s σ H Q I h
 refine wpAny_IfExp (thn (hc pins s σ H _ I h) fun d s1 ⟨H1,I1,q1⟩ => ?_)
 cases d with
 | true => exact ha pins s1 σ H1 Q I1 q1
 | false => exact hb pins s1 σ H1 Q I1 q1
end
def SqL (K:PySem.W.Frag) (H:Hp) (a:Addr) (xs:List V):Prop :=
 Rd H a (.lst xs) ∨
  ∃ (o:Obj) (its:Array Value) (n:Nat),K.lookup a = some o∧o.cls = .type "list" ∧ o.dict = none∧o.data = .seq its n∧its.size≤sizeLine∧Vals xs its.toList
def SqT (K:PySem.W.Frag) (H:Hp) (a:Addr) (xs:List V):Prop :=
 Rd H a (.tup xs) ∨
  ∃ (o:Obj) (its:Array Value) (n:Nat),K.lookup a = some o∧o.cls = .type "tuple" ∧ o.data = .seq its n∧its.size≤sizeLine∧Vals xs its.toList
def absV:Value→Option V
 | .none => some .non
 | .bool b => some (.bl b)
 | .int i _ => some (.int i)
 | .str x _ => some (.str x)
 | .bytes b _ => some (.byt b)
 | .float b _ => some (.flt b)
 | .ref a => some (.ref a)
 | .type n => some (.ty n)
 | _ => none
theorem RelV.abs {x:V} {u:Value} (r:RelV x u):absV u = some x:=by
 cases x with
 | non => cases r; rfl
 | bl _ => cases r; rfl
 | int _ => obtain ⟨t,rfl⟩:=r; rfl
 | str _ => obtain ⟨t,rfl⟩:=r; rfl
 | byt _ => obtain ⟨t,rfl⟩:=r; rfl
 | flt _ => obtain ⟨t,rfl⟩:=r; rfl
 | ref _ => cases r; rfl
 | ty _ => cases r; rfl
theorem RelV.inj {x y:V} {u:Value} (r:RelV x u) (q:RelV y u):x = y:=Option.some.inj (r.abs.symm.trans q.abs)
theorem Vals.inj:∀ {xs ys:List V} {us:List Value},Vals xs us→Vals ys us→xs = ys
 | _,_,_, .nil, .nil => rfl
 | _,_,_, .cons r t, .cons r' t' => by rw [r.inj r',Vals.inj t t']
section
variable {X:Cx} {pins:List (Addr × Obj)} {σ:St} {H:Hp} {s:Shared} {a:Addr} {xs ys:List V}
theorem SqL.of {K:PySem.W.Frag} (h:H a = some (.lst xs)):SqL K H a xs:=.inl (.inl h)
theorem SqT.of {K:PySem.W.Frag} (h:H a = some (.tup xs)):SqT K H a xs:=.inl (.inl h)
theorem Inv.list (I:Inv X pins σ H s) (h:SqL X.K H a xs):∃ its:List Value,Vals xs its∧PlainL s.heap a its.toArray∧xs.length≤sizeLine:=by
 rcases h with h | ⟨o,its,n,hk,hc,hd,hs,hz,r⟩
 ·obtain ⟨z,its,n,r,e⟩:=h.ok I.hok
  exact ⟨its,r,⟨_,n,e,rfl,rfl,rfl⟩,z⟩
 ·refine ⟨its.toList,r,⟨o,n,I.kIn a o hk,hc,hd,by simpa using hs⟩, ?_⟩
  have e:=r.length
  simp only [Array.length_toList] at e
  omega
theorem Inv.tuple (I:Inv X pins σ H s) (h:SqT X.K H a xs):∃ its:List Value,Vals xs its∧IsTup s.heap a its.toArray∧xs.length≤sizeLine:=by
 rcases h with h | ⟨o,its,n,hk,hc,hs,hz,r⟩
 ·obtain ⟨z,its,r,p⟩:=h.ok I.hok
  exact ⟨its,r,p,z⟩
 ·refine ⟨its.toList,r,⟨o,I.kIn a o hk,hc,n,by simpa using hs⟩, ?_⟩
  have e:=r.length
  simp only [Array.length_toList] at e
  omega
theorem Inv.list_inj (I:Inv X pins σ H s) (h:SqL X.K H a xs) (h':SqL X.K H a ys):xs = ys:=by
 obtain ⟨its,r,⟨o,n,e,_,_,d⟩,_⟩:=I.list h
 obtain ⟨its',r',⟨o',n',e',_,_,d'⟩,_⟩:=I.list h'
 rw [e] at e'; cases e'
 rw [d] at d'
 injection d' with d1 _
 have:its = its':=by simpa using congrArg Array.toList d1
 subst this
 exact r.inj r'
end
abbrev Cx.wish (X:Cx) (E:Value→Shared→Prop):Cx:={ X with xe:=E }
abbrev Cx.nox (X:Cx):Cx:=X.wish fun _ _ => False
theorem Cx.Ok.wish {X:Cx} (ok:X.Ok) (E:Value→Shared→Prop):(X.wish E).Ok :=
 ⟨ok.mod,ok.kind,ok.glob,ok.blt,ok.above,ok.inj,ok.has,ok.cab,ok.hd,ok.frames,ok.stk,ok.exf,ok.bs,ok.bsz,ok.noex,ok.exfs,ok.funs,ok.frf⟩
theorem Cx.Ok.unwish {X:Cx} {E:Value→Shared→Prop} (ok:(X.wish E).Ok):X.Ok :=
 ⟨ok.mod,ok.kind,ok.glob,ok.blt,ok.above,ok.inj,ok.has,ok.cab,ok.hd,ok.frames,ok.stk,ok.exf,ok.bs,ok.bsz,ok.noex,ok.exfs,ok.funs,ok.frf⟩
section
variable {X:Cx} {pins:List (Addr × Obj)} {σ:St} {H:Hp} {s:Shared} {E:Value→Shared→Prop}
theorem Inv.wish (I:Inv X pins σ H s) (E:Value→Shared→Prop):Inv (X.wish E) pins σ H s:=⟨I.ok.wish E,I.os,I.bare,I.base,I.loc,I.cell,I.free,I.freeC,I.pin,I.hok,I.len⟩
theorem Inv.unwish (I:Inv (X.wish E) pins σ H s):Inv X pins σ H s:=⟨I.ok.unwish,I.os,I.bare,I.base,I.loc,I.cell,I.free,I.freeC,I.pin,I.hok,I.len⟩
theorem SP.unwish {D:Ends} {f:Flow} {s':Shared} (h:SP (X.wish E) pins D f s'):SP X pins D f s':=by
 cases f with
 | next => obtain ⟨σ',H',I,q⟩:=h; exact ⟨σ',H',I.unwish,q⟩
 | brk => obtain ⟨σ',H',I,q⟩:=h; exact ⟨σ',H',I.unwish,q⟩
 | cont => obtain ⟨σ',H',I,q⟩:=h; exact ⟨σ',H',I.unwish,q⟩
 | ret u => obtain ⟨v,σ',H',I,r,q⟩:=h; exact ⟨v,σ',H',I.unwish,r,q⟩
theorem PE.nox {e:Expr} {t:TE} (h:PE X.nox e t):PE X e t:=fun pins s σ H Q I hw =>
 wpAny_mono (h pins s σ H Q (I.wish _) hw) (fun _ _ ⟨v,H',I',r,q⟩ => ⟨v,H',I'.unwish,r,q⟩) fun _ _ z => False.elim z
theorem PT.nox {e:Expr} {t:TT} (h:PT X.nox e t):PT X e t:=fun pins s σ H Q I hw =>
 wpAny_mono (h pins s σ H Q (I.wish _) hw) (fun _ _ ⟨H',I',q⟩ => ⟨H',I'.unwish,q⟩) fun _ _ z => False.elim z
theorem PSs.nox {st:List Stmt} {t:TS} (h:PSs X.nox st t):PSs X st t:=fun pins s σ H D I hw =>
 wpAny_mono (h pins s σ H D (I.wish _) hw) (fun _ _ q => q.unwish) fun _ _ z => False.elim z
end
section
variable {X:Cx} {st:Stmt} {rest:List Stmt} {t u:TS} {e:Expr} {te:TE} {pos:Pos}
def vT:TS:=fun D σ H => D.nx σ H
def tSeq (t u:TS):TS:=fun D σ H => t { D with nx:=u D } σ H
theorem pss_nil:PSs X [] vT:=fun _ _ σ H _ I h => wpAny_execs_nil ⟨σ,H,I,h⟩
theorem pss_cons (h1:PS X st t) (h2:PSs X rest u):PSs X (st :: rest) (tSeq t u):=by
 intro pins s σ H D I h
 refine wpAny_execs_cons (thn (h1 pins s σ H { D with nx:=u D } I h) fun f s1 q => ?_)
 cases f with
 | next =>
  obtain ⟨σ',H',I',q⟩:=q
  exact h2 pins s1 σ' H' D I' q
 | ret v => exact q
 | brk => exact q
 | cont => exact q
theorem pss_one (h1:PS X st t):PSs X [st] t:=by
 intro pins s σ H D I h
 refine wpAny_execs_cons (thn (h1 pins s σ H D I h) fun f s1 q => ?_)
 cases f with
 | next => exact wpAny_execs_nil q
 | ret v => exact q
 | brk => exact q
 | cont => exact q
theorem Inv.quiet {pins:List (Addr × Obj)} {σ:St} {H:Hp} {s:Shared} (I:Inv X pins σ H s):interactive X.env = false:=by simp [interactive,I.ok.kind]
def vU (te:TE):TS:=fun D σ H => te σ H fun _ H1 => D.nx σ H1
theorem ps_expr (he:PE X e te) (hs:swapsWith e none pos.line X.env = pure false:=by rfl):PS X (.Expr e pos) (vU te):=by
 intro pins s σ H D I h
 exact wpAny_Expr_any (thn (he pins s σ H _ I h) fun v s1 ⟨x,H1,I1,r1,q1⟩ => ⟨σ,H1,I1,q1⟩) I.quiet hs
def tRet (te:TE):TS:=fun D σ H => te σ H D.rt
theorem ps_ret (he:PE X e te):PS X (.Return (some e) pos) (tRet te):=by
 intro pins s σ H D I h
 exact wpAny_Return_some (thn (he pins s σ H _ I h) fun v s1 ⟨x,H1,I1,r1,q1⟩ => ⟨x,σ,H1,I1,r1,q1⟩)
def za:TS:=fun D _ H => D.rt .non H
def tIfS (c:TT) (t u:TS):TS:=fun D σ H => c σ H fun b H1 => if b = true then t D σ H1 else u D σ H1
theorem ps_if {c:Expr} {a b:List Stmt} {tc:TT} (hc:PT X c tc) (ha:PSs X a t) (hb:PSs X b u):PS X (.If c a b pos) (tIfS tc t u):=by
 intro pins s σ H D I h
 refine wpAny_If (thn (hc pins s σ H _ I h) fun d s1 ⟨H1,I1,q1⟩ => ?_)
 cases d with
 | true => exact ha pins s1 σ H1 D I1 q1
 | false => exact hb pins s1 σ H1 D I1 q1
end
abbrev TG:=V→St→Hp→(St→Hp→Prop)→Prop
abbrev TGs:=List V→St→Hp→(St→Hp→Prop)→Prop
def PG (X:Cx) (target:Expr) (t:TG):Prop :=
 ∀ (pins:List (Addr × Obj)) (s:Shared) (σ:St) (H:Hp) (v:V) (u:Value) (Q:St→Hp→Prop),Inv X pins σ H s→RelV v u→t v σ H Q →
  wpAny (model X.prog X.w) X.A (assign target X.env u) (fun _ s' => ∃ σ' H',Inv X pins σ' H' s'∧Q σ' H') X.xe s
def PGs (X:Cx) (ts:List Expr) (t:TGs):Prop :=
 ∀ (pins:List (Addr × Obj)) (s:Shared) (σ:St) (H:Hp) (vs:List V) (us:List Value) (Q:St→Hp→Prop),Inv X pins σ H s→Vals vs us→t vs σ H Q →
  wpAny (model X.prog X.w) X.A (assignInOrder ((assignEach ts X.env).map (·.2)) us) (fun _ s' => ∃ σ' H',Inv X pins σ' H' s'∧Q σ' H') X.xe s
abbrev TSet:=V→V→V→Hp→(Hp→Prop)→Prop
def PSet (X:Cx) (t:TSet):Prop :=
 ∀ (pins:List (Addr × Obj)) (s:Shared) (σ:St) (H:Hp) (o i v:V) (ov iv u:Value) (Q:Hp→Prop),Inv X pins σ H s→RelV o ov→RelV i iv→RelV v u→t o i v H Q →
  wpAny (model X.prog X.w) X.A (setItem ov iv u) (fun _ s' => ∃ H',Inv X pins σ H' s'∧Q H') X.xe s
section
variable {X:Cx} {pos:Pos}
def qI (i:Nat):TG:=fun v σ H Q => Q (σ.set i (some v)) H
theorem jO {i:Nat} {x:Str} (hN:X.N.Nodup) (hi:X.N[i]? = some x) (hx:Loc X.env.scope x) (hf:X.fn x = true∨X.env.scope.names.lookup x = some .local:=by first | exact .inl rfl | exact .inr rfl | assumption):PG X (.Name x pos) (qI i):=by
 intro pins s σ H v u Q I r h
 exact wpAny_assign_Name (zL I hN hi hx r (fun s' I' => ⟨_,H,I',h⟩) hf)
def gNil:TGs:=fun vs σ H Q => vs = []∧Q σ H
def vJ (t:TG) (u:TGs):TGs:=fun vs σ H Q => ∃ v r,vs = v :: r∧t v σ H fun σ' H' => u r σ' H' Q
theorem VI:PGs X [] gNil:=by
 intro pins s σ H vs us Q I r h
 obtain ⟨e,h⟩:=h
 subst e
 cases r
 exact assignInOrder_nil ⟨σ,H,I,h⟩
theorem xH {e:Expr} {es:List Expr} {t:TG} {u:TGs} (h1:PG X e t) (h2:PGs X es u)
  (hs:(assignEach (e :: es) X.env).map (·.2) = assign e X.env :: (assignEach es X.env).map (·.2):=by rfl):PGs X (e :: es) (vJ t u):=by
 intro pins s σ H vs us Q I r h
 obtain ⟨v,vr,e1,h⟩:=h
 subst e1
 cases r with
 | cons r rr =>
  rw [hs]
  refine assignInOrder_cons (thn (h1 pins s σ H _ _ _ I r h) fun _ s1 ⟨σ1,H1,I1,q1⟩ => ?_)
  exact h2 pins s1 σ1 H1 _ _ Q I1 rr q1
def gTup (K:PySem.W.Frag) (n:Nat) (t:TGs):TG:=fun v σ H Q => ∃ a xs,v = .ref a∧SqT K H a xs∧xs.length = n∧t xs σ H Q
theorem Jr {es:List Expr} {k:Nat} {t:TGs} {n:Nat} (hc:X.calm = true) (h:PGs X es t)
  (hn:(assignEach es X.env).length = n:=by rfl) (hst:(assignEach es X.env).findIdx? (·.1) = none:=by rfl):PG X (.Tuple es k pos) (gTup X.K n t):=by
 intro pins s σ H v u Q I r hw
 obtain ⟨a,xs,e1,hq,hl,hw⟩:=hw
 subst e1
 cases r
 obtain ⟨its,rv,ht,hz⟩:=I.tuple hq
 refine assign_Tuple_tuple (I.ok.hd hc) ht (by simp [hn, ← hl,rv.length]) hst fun h' hx => ?_
 have I1:Inv X pins σ H { s with heap:=h' }:=I.kept (t':=s.toks) fun b o e => hx b o (Nat.ne_of_lt (Heap.lt_size e)) e
 exact h pins _ σ H xs _ Q I1 (by simpa using rv) hw
def gSub (to ti:TE) (t:TSet):TG:=fun v σ H Q => to σ H fun o H1 => ti σ H1 fun i H2 => t o i v H2 fun H3 => Q σ H3
theorem pg_sub {o i:Expr} {to ti:TE} {t:TSet} (ho:PE X o to) (hi:PE X i ti) (hs:PSet X t)
  (ha:∀ v,assign (.Subscript o i pos) X.env v = (do
   let ov ← holding [v] (eval o X.env)
   let iv ← holding [v,ov] (eval i X.env)
   standAt pos
   holding [v,ov,iv] (setItem ov iv v)
   release [v,ov,iv] []):=by intro _; rfl):PG X (.Subscript o i pos) (gSub to ti t):=by
 intro pins s σ H v u Q I r h
 rw [ha]
 refine wpAny_bind (wpAny_holding (thn (ho pins s σ H _ I h) fun ov s1 ⟨x,H1,I1,r1,q1⟩ => ?_))
 refine wpAny_bind (wpAny_holding (thn (hi pins s1 σ H1 _ I1 q1) fun iv s2 ⟨y,H2,I2,r2,q2⟩ => ?_))
 refine wpAny_bind (wpAny_standAt (wpAny_bind (wpAny_holding (thn (hs pins s2 σ H2 x y v ov iv u _ I2 r1 r2 r q2) fun _ s3 ⟨H3,I3,q3⟩ => ?_))))
 exact wpAny_release ⟨σ,H3,I3,q3⟩
def tAsg (te:TE) (g:TG):TS:=fun D σ H => te σ H fun x H1 => g x σ H1 D.nx
theorem ps_asg {tg e:Expr} {te:TE} {g:TG} (he:PE X e te) (hg:PG X tg g) (hs:swapsWithSole [tg] e pos.line X.env = pure false:=by rfl) (hw:swappedStores [tg] e X.env = pure none:=by rfl)
  (h1:(assignEach [tg] X.env).map (·.2) = [assign tg X.env]:=by rfl):PS X (.Assign [tg] e pos) (tAsg te g):=by
 intro pins s σ H D I h
 refine wpAny_Assign_stores (thn (he pins s σ H _ I h) fun v s1 ⟨x,H1,I1,r1,q1⟩ => ?_) hs hw
 rw [h1]
 exact thn (hg pins s1 σ H1 x v _ I1 r1 q1) fun _ s2 q => q
theorem ps_set {i:Nat} {x:Str} {e:Expr} {te:TE} {pos':Pos} (hN:X.N.Nodup) (hi:X.N[i]? = some x) (hx:Loc X.env.scope x) (he:PE X e te) (hs:swapsWith e (some (.Name x pos')) pos.line X.env = pure false:=by rfl) (hf:X.fn x = true∨X.env.scope.names.lookup x = some .local:=by first | exact .inl rfl | exact .inr rfl | assumption) :
  PS X (.Assign [.Name x pos'] e pos) (tAsg te (qI i)):=by
 intro pins s σ H D I h
 refine wpAny_Assign_Name (thn (he pins s σ H _ I h) fun v s1 ⟨y,H1,I1,r1,q1⟩ => ?_) hs
 exact zL I1 hN hi hx r1 (fun s2 I2 => ⟨_,H1,I2,q1⟩) hf
def tPar (i j:Nat) (ta:TA):TS:=fun D σ H => ta σ H fun vs H1 => ∃ v w,vs = [v,w]∧D.nx ((σ.set i (some v)).set j (some w)) H1
theorem ps_par {i j:Nat} {x y:Str} {a b:Expr} {ta:TA} {px py pt:Pos} {kt k2 pt2} (hc:X.calm = true) (hN:X.N.Nodup) (hi:X.N[i]? = some x) (hj:X.N[j]? = some y) (hij:i≠j)
  (hx:X.env.scope.names.lookup x = some .local) (hy:X.env.scope.names.lookup y = some .local) (ha:PA X [a,b] ta)
  (hw:swappedStores [.Tuple [.Name x px, .Name y py] kt pt] (.Tuple [a,b] k2 pt2) X.env = pure (some [x,y]))
  (hs:swapsWithSole [.Tuple [.Name x px, .Name y py] kt pt] (.Tuple [a,b] k2 pt2) pos.line X.env = pure false:=by rfl) :
  PS X (.Assign [.Tuple [.Name x px, .Name y py] kt pt] (.Tuple [a,b] k2 pt2) pos) (tPar i j ta):=by
 intro pins s σ H D I h
 rw [exec_Assign_arm]
 refine wpAny_bind (wpAny_standAt ?_)
 rw [hs]
 refine wpAny_bind (wpAny_pure ?_)
 rw [if_neg (by decide)]
 refine wpAny_bind (Tuple_ (thn (ha _ pins s σ H _ I h) fun us s1 ⟨vs,H1,I1,r1,q1⟩ => ?_))
 obtain ⟨v,w,e1,q1⟩:=q1
 subst e1
 obtain ⟨u1,u2,rfl,rv,rw'⟩:∃ u1 u2,us = [u1,u2]∧RelV v u1∧RelV w u2:=by
  cases r1 with
  | cons p q =>
   cases q with
   | cons p' q' =>
    cases q'
    exact ⟨_,_,rfl,p,p'⟩
 refine wpAny_newObj_type ?_ (by show 2≤sizeLine; decide)
 have I2:Inv X pins σ H1 { s1 with heap:=s1.heap.push { cls:=.type "tuple", data:=.seq [u1,u2].toArray } }:=I1.kept (t':=s1.toks) fun b o e => Heap.get?_push_of_some _ e
 rw [hw]
 refine wpAny_bind (wpAny_pure ?_)
 show wpAny (model X.prog X.w) X.A (do rule "assign.swapped-stores"; let items ← unpackItems (.ref s1.heap.objs.size) 2 none; assignInOrder [fun v => bindName X.env y v,fun v => bindName X.env x v] items.reverse; pure Flow.next) _ _ _
 refine wpAny_bind (wpAny_rule (wpAny_bind (unpackItems_tuple (items:=#[u1,u2]) (I.ok.hd hc) (IsTup.new s1.heap _) fun h' hx' => ?_)))
 have I3:=I2.kept (h':=h') (t':=s1.toks) fun b o e => hx' b o (Nat.ne_of_lt (Heap.lt_size e)) e
 show wpAny _ _ (assignInOrder [fun v => bindName X.env y v,fun v => bindName X.env x v] [u2,u1] >>= fun _ => pure Flow.next) _ _ _
 refine wpAny_bind (assignInOrder_cons (wpAny_bindName (zL I3 hN hj (.inl hy) rw' (fun s2 I4 => ?_) (.inr hy))))
 refine assignInOrder_cons (wpAny_bindName (zL I4 hN hi (.inl hx) rv (fun s3 I5 => assignInOrder_nil (wpAny_pure ?_)) (.inr hx)))
 rw [List.set_comm _ _ (Ne.symm hij)] at I5
 exact ⟨_,H1,I5,q1⟩
end
structure It where
 go:Nat→Hp→Prop
 yld:Nat→Hp→V→Hp→Prop
 stop:Nat→Hp→Prop
def FpOk (X:Cx) (pins:List (Addr × Obj)) (H:Hp) (b:Addr):Prop :=
 H b = none∧b≠X.env.locals∧b ∉ X.fs∧(b ∈ X.ex∨X.s₀.heap.objs.size≤b)∧(∀ x c,X.env.cells.lookup x = some c→c≠b)∧∀ p ∈ X.pn ++ pins,p.1≠b
theorem Inv.fpOk {X:Cx} {pins:List (Addr × Obj)} {σ:St} {H H':Hp} {s:Shared} {b:Addr} (I:Inv X pins σ H s) (hb:s.heap.objs.size≤b) (hn:H' b = none):FpOk X pins H' b:=by
 refine ⟨hn,Nat.ne_of_gt (Nat.lt_of_lt_of_le I.lt hb),I.nofs hb, .inr (Nat.le_trans I.sz hb),fun x c e z => ?_,fun p hp z => ?_⟩
 ·obtain ⟨v,q⟩:=I.cell x c e
  exact absurd (Nat.lt_of_lt_of_le q.lt (by rw [z]; exact hb)) (Nat.lt_irrefl _)
 ·exact absurd (Nat.lt_of_lt_of_le (Heap.lt_size (I.pin p hp).1) (by rw [z]; exact hb)) (Nat.lt_irrefl _)
structure Turn (P:Program) (w:World) (K:PySem.W.Frag) (tg:Expr) (J:It) (fp:List Addr) (it:Addr) (tn:Nat→Heap→Prop):Prop where
 mem:it ∈ fp
 obj:∀ i h,tn i h→∀ b ∈ fp,∃ o,h.get? b = some o∧∀ v,o.data ≠ .cell v
 keep:∀ i h h',tn i h→(∀ b ∈ fp,∀ o,h.get? b = some o→h'.get? b = some o)→tn i h'
 item:∀ (X:Cx),X.prog = P→X.w = w→X.K = K→X.calm = true→∀ (i:Nat) (pins:List (Addr × Obj)) (s:Shared) (σ:St) (H:Hp) (E:Value→Shared→Prop),Inv X pins σ H s→(∀ b ∈ fp,FpOk X pins H b)→tn i s.heap→J.go i H →
  wpAny (model P w) X.A (pyNext (.ref it)) (fun r s1 => ∃ u,r = some u ∧
   wpAny (model P w) X.A (letOwnedTupleGo tg (.ref it) u) (fun _ s2 => ∃ x H',Inv X pins σ H' s2∧RelV x u∧J.yld i H x H'∧tn (i + 1) s2.heap∧∀ b ∈ fp,H' b = none) E s1) E s
 done:∀ (X:Cx),X.prog = P→X.w = w→X.K = K→X.calm = true→∀ (i:Nat) (pins:List (Addr × Obj)) (s:Shared) (σ:St) (H:Hp) (E:Value→Shared→Prop),Inv X pins σ H s→(∀ b ∈ fp,FpOk X pins H b)→tn i s.heap→J.stop i H →
  wpAny (model P w) X.A (pyNext (.ref it)) (fun r s1 => r = none∧Inv X pins σ H s1) E s
 self:∀ (A:Around) (i:Nat) (s:Shared) (Q:Value→Shared→Prop) (E:Value→Shared→Prop),tn i s.heap→Q (.ref it) s→wpAny (model P w) A (pyIter (.ref it)) Q E s
abbrev TI:=St→Hp→(It→Hp→Prop)→Prop
def PIE (X:Cx) (pins:List (Addr × Obj)) (σ:St) (tg:Expr) (R:It→Hp→Prop) (itv:Value) (s2:Shared):Prop :=
 ∃ (it:Addr) (fp:List Addr) (tn:Nat→Heap→Prop) (J:It) (H':Hp),itv = .ref it∧Inv X pins σ H' s2∧Turn X.prog X.w X.K tg J fp it tn∧tn 0 s2.heap∧(∀ b ∈ fp,FpOk X pins H' b)∧R J H'
def PI (X:Cx) (tg iter:Expr) (wi:TI):Prop :=
 ∀ (pins:List (Addr × Obj)) (s:Shared) (σ:St) (H:Hp) (R:It→Hp→Prop),Inv X pins σ H s→wi σ H R →
  wpAny (model X.prog X.w) X.A (eval iter X.env) (fun v s1 => wpAny (model X.prog X.w) X.A (pyIter v) (PIE X pins σ tg R) X.xe s1) X.xe s
theorem go_of {M:Model} {A:Around} {E:Value→Shared→Prop} {s:Shared} {tg:Expr} {it:Addr} {u:Value} {o:Obj} {n:String} {vs:Array Value} {Q:Unit→Shared→Prop} (ho:s.heap.get? it = some o) (hc:o.cls = .type n) (hd:o.data = .fields vs)
  (hn:["enumerate", "zip", "dict_itemiterator", "dict_reverseitemiterator", "odict_iterator", "itertools.zip_longest", "itertools.pairwise"].contains n = false) (hQ:Q () s):wpAny M A (letOwnedTupleGo tg (.ref it) u) Q E s:=by
 unfold letOwnedTupleGo
 cases tg <;> first
  | exact wpAny_pure hQ
  | (cases u <;> first
    | exact wpAny_pure hQ
    | (refine wpAny_bind (wpAny_load ho ?_)
       rw [hc,hd]
       show wpAny M A (if (["enumerate", "zip", "dict_itemiterator", "dict_reverseitemiterator", "odict_iterator", "itertools.zip_longest", "itertools.pairwise"].contains n && vs[0]? == some (rawInt _)) = true then _ else _) Q E s
       rw [if_neg (by intro h; rw [hn,Bool.false_and] at h; cases h)]
       exact wpAny_pure hQ))
def Itl (K:PySem.W.Frag) (a:Addr):It :=
 ⟨fun i H => ∃ xs x,SqL K H a xs∧xs[i]? = some x,fun i H x H' => H' = H∧∀ xs,SqL K H a xs→xs[i]? = some x,fun i H => ∃ xs,SqL K H a xs∧xs.length≤i⟩
def Itr (lo:Int) (n:Nat):It:=⟨fun i _ => i < n,fun i H x H' => H' = H∧x = .int (lo + i),fun i _ => n≤i⟩
theorem X1 {P:Program} {w:World} {K:PySem.W.Frag} {tg:Expr} (a it:Addr):Turn P w K tg (Itl K a) [it] it (fun i h => h.IsListIter it a i) where
 mem:=by simp
 obj:=fun i h st b hb => by
  have e:b = it:=by simpa using hb
  subst e
  obtain ⟨o,e,c,d⟩:=st
  exact ⟨o,e,fun v z => by rw [d] at z; cases z⟩
 keep:=fun i h h' st k => st.at fun o e => k it (by simp) o e
 item:=by
  intro X hP hw hK hc i pins s σ H E I hf st hg
  subst hP hw hK
  obtain ⟨xs,x,hq,hx⟩:=hg
  obtain ⟨its,rv,p,hz⟩:=I.list hq
  obtain ⟨u,hu,ru⟩:=rv.get hx
  obtain ⟨f0,f1,f2,f3,f4,f5⟩:=hf it (by simp)
  refine wpAny_pyNext_list_item st p.isList (x:=u) (by simpa using hu) fun h' st' sb => ?_
  have I1:Inv X pins σ H { s with heap:=h' }:=I.turned (t':=s.toks) (fun b o hb e => (sb.2 b hb).trans e) f0 f1 f3 f4 f5
  obtain ⟨o,e,c,d⟩:=id st'
  exact ⟨u,rfl,go_of (s:={ s with heap:=h' }) e c d (by decide) ⟨x,H,I1,ru,⟨rfl,fun ys hy => by rw [I.list_inj hy hq]; exact hx⟩,st',fun b hb => (hf b hb).1⟩⟩
 done:=by
  intro X hP hw hK hc i pins s σ H E I hf st hg
  subst hP hw hK
  obtain ⟨xs,hq,hx⟩:=hg
  obtain ⟨its,rv,p,hz⟩:=I.list hq
  obtain ⟨f0,f1,f2,f3,f4,f5⟩:=hf it (by simp)
  have hl:=rv.length
  exact wpAny_pyNext_list_end (I.ok.hd hc) st p.isList (by simp; omega) fun h' eb => ⟨rfl,I.turned (t':=s.toks) (fun b o hb e => eb b o hb e) f0 f1 f3 f4 f5⟩
 self:=fun _ _ _ _ _ st h => wpAny_pyIter_listiter st h
theorem Xa {P:Program} {w:World} {K:PySem.W.Frag} {tg:Expr} (it:Addr) (lo:Int) (n:Nat):Turn P w K tg (Itr lo n) [it] it (fun i h => IsRangeIter h it (lo + (i:Nat) * 1) ((n:Int) - (i:Nat)) 1) where
 mem:=by simp
 obj:=fun i h st b hb => by
  have e:b = it:=by simpa using hb
  subst e
  exact ⟨_,st,fun v z => by
   have z':Data.fields _ = Data.cell v:=z
   cases z'⟩
 keep:=fun i h h' st k => k it (by simp) _ st
 item:=by
  intro X hP hw hK hc i pins s σ H E I hf st hg
  subst hP hw hK
  obtain ⟨f0,f1,f2,f3,f4,f5⟩:=hf it (by simp)
  have W:=Walks.range (prog:=X.prog) (w:=X.w) (I.ok.hd hc) it lo 1 n
  refine W.item i s _ _ hg st fun v h' tk hv st' kk => ?_
  obtain ⟨t,rfl⟩:=hv
  have I1:Inv X pins σ H { s with heap:=h',toks:=tk }:=I.turned (fun b o hb e => kk b o (by simpa using hb) e) f0 f1 f3 f4 f5
  refine ⟨_,rfl,go_of (s:={ s with heap:=h',toks:=tk }) (n := "range_iterator") st' rfl rfl (by decide) ⟨.int (lo + i),H,I1,⟨t, ?_⟩,⟨rfl,rfl⟩,st',fun b hb => (hf b hb).1⟩⟩
  rw [Int.mul_one]
 done:=by
  intro X hP hw hK hc i pins s σ H E I hf st hg
  subst hP hw hK
  obtain ⟨f0,f1,f2,f3,f4,f5⟩:=hf it (by simp)
  exact wpAny_pyNext_range_end (I.ok.hd hc) st (by have:n≤i:=hg; omega) fun h' eb => ⟨rfl,I.turned (t':=s.toks) (fun b o hb e => eb b o hb e) f0 f1 f3 f4 f5⟩
 self:=fun _ _ _ _ _ st h => wpAny_pyIter_rangeiter st h
section
variable {X:Cx} {tg:Expr}
def XC (K:PySem.W.Frag) (tl:TE):TI:=fun σ H R => tl σ H fun x H1 => ∃ a,x = .ref a∧(∃ xs,SqL K H1 a xs)∧R (Itl K a) H1
theorem pi_list {l:Expr} {tl:TE} (hl:PE X l tl):PI X tg l (XC X.K tl):=by
 intro pins s σ H R I h
 refine thn (hl pins s σ H _ I h) fun v s1 ⟨x,H1,I1,r1,q1⟩ => ?_
 obtain ⟨a,e,⟨xs,hq⟩,q⟩:=q1
 subst e
 cases r1
 obtain ⟨its,rv,p,hz⟩:=I1.list hq
 refine wpAny_pyIter_list p.isList ?_
 refine ⟨s1.heap.objs.size, [s1.heap.objs.size],_,_,H1,rfl,I1.kept (t':=s1.toks) fun b o e => Heap.get?_push_of_some _ e,X1 a _,⟨_,Heap.get?_push_size _ rfl,rfl,rfl⟩,fun b hb => ?_,q⟩
 have e:b = s1.heap.objs.size:=by simpa using hb
 subst e
 exact I1.fpOk (Nat.le_refl _) (I1.hok.fresh (Nat.le_refl _))
theorem range_it {pins:List (Addr × Obj)} {σ:St} {H:Hp} {s:Shared} {R:It→Hp→Prop} {E:Value→Shared→Prop} {lo hi:Int} {t u v:Tok} {tk:Nat} (I:Inv X pins σ H s) (h1 : -(2 ^ 62)≤lo) (h2:lo < 2 ^ 62) (h3 : -(2 ^ 62)≤hi) (h4:hi < 2 ^ 62)
  (q:R (Itr lo (hi - lo).toNat) H):wpAny (model X.prog X.w) X.A (pyIter (.ref s.heap.objs.size)) (PIE X pins σ tg R) E { s with heap:=s.heap.push { cls:=.type "range", data:=.fields #[.int lo t, .int hi u, .int 1 v] },toks:=tk }:=by
 refine wpAny_pyIter_range (IsRange.new ..) (small_one h1 h2 h3 h4) ?_
 have I1:Inv X pins σ H { s with heap:=s.heap.push { cls:=.type "range", data:=.fields #[.int lo t, .int hi u, .int 1 v] },toks:=tk }:=I.kept fun b o e => Heap.get?_push_of_some _ e
 refine ⟨(s.heap.push { cls:=.type "range", data:=.fields #[.int lo t, .int hi u, .int 1 v] }).objs.size, [(s.heap.push { cls:=.type "range", data:=.fields #[.int lo t, .int hi u, .int 1 v] }).objs.size],_,_,H,rfl,
  I1.kept (t':=tk) fun b o e => Heap.get?_push_of_some _ e,Xa _ lo (hi - lo).toNat, ?_,fun b hb => ?_,q⟩
 ·have e1:lo + ((0:Nat):Int) * 1 = lo:=by simp
  have e2:(((hi - lo).toNat:Nat):Int) - ((0:Nat):Int) = Builtin.Range.rangeSize lo hi 1:=by rw [rangeSize_one]; split <;> omega
  show IsRangeIter _ _ (lo + ((0:Nat):Int) * 1) ((((hi - lo).toNat:Nat):Int) - ((0:Nat):Int)) 1
  rw [e1,e2]
  exact Heap.get?_push_size _ rfl
 ·have e:b = (s.heap.push { cls:=.type "range", data:=.fields #[.int lo t, .int hi u, .int 1 v] }).objs.size:=by simpa using hb
  subst e
  exact I1.fpOk (Nat.le_refl _) (I1.hok.fresh (Nat.le_refl _))
def Ka (ta:TA):TI:=fun σ H R => ta σ H fun vs H1 => ∃ j:Int,vs = [.int j] ∧ -(2 ^ 62)≤j∧j < 2 ^ 62∧R (Itr 0 j.toNat) H1
theorem Jq {a:Expr} {ta:TA} {p pos:Pos} (hg:Gl X "range") (hm:X.mg "range" = none) (ha:PA X [a] ta) (hs:starEach [a] X.env = [(false,eval a X.env)]:=by rfl):PI X tg (.Call (.Name "range" p) [a] [] pos) (Ka ta):=by
 intro pins s σ H R I h
 refine Call_ (ZC I hg hm boot_range (PyProof.Rows.callWith_type1 (thn (ha pos pins s σ H _ I h) fun us s1 ⟨vs,H1,I1,r1,q1⟩ => ?_) hs rfl))
 obtain ⟨j,e,q1,q2,q⟩:=q1
 subst e
 cases r1 with
 | cons r rr =>
  cases rr
  obtain ⟨t,rfl⟩:=r
  exact call_range_1 (range_it I1 (by omega) (by omega) q1 q2 (by simpa using q))
def tFor (wi:TI) (g:TG) (tb:TS):TS:=fun D σ H => wi σ H fun J H1 => ∃ W:Nat→Nat→St→Hp→Prop,(∃ m,W 0 m σ H1)∧∀ i m σ H,W i m σ H →
 (J.stop i H∧D.nx σ H)∨(J.go i H∧∃ N:St→Hp→Prop,(∀ σ' H',N σ' H'→∃ m',m' < m∧W (i + 1) m' σ' H')∧∀ x H',J.yld i H x H'→g x σ H' fun σ2 H2 => tb { D with nx:=N,ct:=N,bk:=D.nx } σ2 H2)
def Q7 (fp:List Addr) (h:Heap):List (Addr × Obj):=fp.filterMap fun b => (h.get? b).map fun o => (b,o)
theorem xI {fp:List Addr} {h:Heap} {b:Addr} {o:Obj} (hb:b ∈ fp) (e:h.get? b = some o):(b,o) ∈ Q7 fp h:=List.mem_filterMap.mpr ⟨b,hb,by rw [e]; rfl⟩
theorem JT {fp:List Addr} {h:Heap} {p:Addr × Obj} (hp:p ∈ Q7 fp h):p.1 ∈ fp∧h.get? p.1 = some p.2:=by
 obtain ⟨b,hb,e⟩:=List.mem_filterMap.mp hp
 cases q:h.get? b with
 | none => rw [q] at e; cases e
 | some o =>
  rw [q] at e
  have e':(b,o) = p:=Option.some.inj e
  subst e'
  exact ⟨hb,q⟩
theorem Inv.pinned {pins:List (Addr × Obj)} {σ:St} {H:Hp} {s:Shared} {fp:List Addr} (I:Inv X pins σ H s) (hf:∀ b ∈ fp,FpOk X pins H b) (ho:∀ b ∈ fp,∃ o,s.heap.get? b = some o∧∀ v,o.data ≠ .cell v):Inv X (pins ++ Q7 fp s.heap) σ H s :=
 I.pins_of fun p hp => (List.mem_append.mp hp).elim (fun z => I.pin p (List.mem_append_right _ z)) fun z => by
  obtain ⟨hb,e⟩:=JT z
  obtain ⟨f0,f1,f2,_⟩:=hf p.1 hb
  obtain ⟨o,e',d⟩:=ho p.1 hb
  rw [e] at e'; cases e'
  exact ⟨e,f0,f1,f2,d⟩
theorem Inv.unpinned {pins pl:List (Addr × Obj)} {σ:St} {H:Hp} {s:Shared} (I:Inv X (pins ++ pl) σ H s):Inv X pins σ H s:=I.pins_of fun p hp => I.pin p (List.mem_append_right _ (List.mem_append_left _ hp))
theorem ps_for {iter:Expr} {body:List Stmt} {wi:TI} {g:TG} {tb:TS} {pos:Pos} (hp:PassesOwn (model X.prog X.w) X.A X.env X.xe) (hc:X.calm = true) (hi:PI X tg iter wi) (hg:PG X tg g) (hb:PSs X body tb)
  (hs:∀ x,foldedSetIterable iter X.env x = pure x:=by intro _; rfl):PS X (.For tg iter body [] pos) (tFor wi g tb):=by
 intro pins s σ H D I h
 refine wpAny_For (thn (hi pins s σ H _ I h) fun v s1 h1 => thn h1 fun itv s2 h2 => ?_) hs
 obtain ⟨it,fp,tn,J,H2,e,I2,T,st2,f2,W,⟨m0,w0⟩,turn⟩:=h2
 subst e
 -- what stays true of the iterator's objects through the loop
 have stat:∀ {H':Hp},(∀ b ∈ fp,H' b = none)→∀ b ∈ fp,FpOk X pins H' b:=fun hn b hb => ⟨hn b hb,(f2 b hb).2⟩
 refine codeAny_forLoop_any (fun n s' => ∃ i σ' H',Inv X pins σ' H' s'∧tn i s'.heap∧(∀ b ∈ fp,H' b = none)∧W i n σ' H') ?_ m0 ⟨0,σ,H2,I2,st2,fun b hb => (f2 b hb).1,w0⟩
 rintro n s3 ⟨i,σ3,H3,I3,st3,fr3,w3⟩
 rcases turn i n σ3 H3 w3 with ⟨stop,qn⟩ | ⟨go,N,hN,step⟩
 ·refine wpAny_passesOwn hp (thn (T.done X rfl rfl rfl hc i pins s3 σ3 H3 X.xe I3 (stat fr3) st3 stop) fun r s4 ⟨hr,I4⟩ => ?_)
  subst hr
  exact wpAny_execs_nil ⟨σ3,H3,I4,qn⟩
 ·refine wpAny_passesOwn hp (thn (T.item X rfl rfl rfl hc i pins s3 σ3 H3 X.xe I3 (stat fr3) st3 go) fun r s4 ⟨u,hr,h4⟩ => ?_)
  subst hr
  refine wpAny_passesOwn hp (thn h4 fun _ s5 ⟨x,H5,I5,r5,y5,st5,fr5⟩ => ?_)
  have I5':=I5.pinned (stat fr5) (T.obj _ _ st5)
  refine wpAny_passesOwn hp (thn (hg _ s5 σ3 H5 x u _ I5' r5 (step x H5 y5)) fun _ s6 ⟨σ6,H6,I6,q6⟩ => ?_)
  refine wpAny_passesOwn hp (thn (hb _ s6 σ6 H6 _ I6 q6) fun f s7 q7 => ?_)
  have again:∀ {σ7:St} {H7:Hp},Inv X (pins ++ Q7 fp s5.heap) σ7 H7 s7→N σ7 H7→∃ m,m < n∧∃ i σ' H',Inv X pins σ' H' s7∧tn i s7.heap∧(∀ b ∈ fp,H' b = none)∧W i m σ' H':=fun {σ7 H7} I7 n7 => by
   obtain ⟨m',hm,w7⟩:=hN σ7 H7 n7
   refine ⟨m',hm,i + 1,σ7,H7,I7.unpinned,T.keep _ _ _ st5 fun b hb o e => (I7.pin (b,o) (List.mem_append_right _ (List.mem_append_right _ (xI hb e)))).1,fun b hb => ?_,w7⟩
   obtain ⟨o,e,d⟩:=T.obj _ _ st5 b hb
   exact (I7.pin (b,o) (List.mem_append_right _ (List.mem_append_right _ (xI hb e)))).2.1
  cases f with
  | next => obtain ⟨σ7,H7,I7,n7⟩:=q7; exact again I7 n7
  | cont => obtain ⟨σ7,H7,I7,n7⟩:=q7; exact again I7 n7
  | brk => obtain ⟨σ7,H7,I7,q7⟩:=q7; exact ⟨σ7,H7,I7.unpinned,q7⟩
  | ret v => obtain ⟨x7,σ7,H7,I7,r7,q7⟩:=q7; exact ⟨x7,σ7,H7,I7.unpinned,r7,q7⟩
end
theorem for_list {K:PySem.W.Frag} {a:Addr} {xs:List V} {g:TG} {tb:TS} {D:Ends} {σ:St} {H:Hp} (Pv:Nat→St→Hp→Prop) (h0:Pv 0 σ H) (hl:∀ i σ H,i≤xs.length→Pv i σ H→SqL K H a xs)
  (hs:∀ i x σ H,xs[i]? = some x→Pv i σ H→g x σ H fun σ2 H2 => tb { D with nx:=Pv (i + 1),ct:=Pv (i + 1),bk:=D.nx } σ2 H2) (hd:∀ σ H,Pv xs.length σ H→D.nx σ H) :
  ∃ W:Nat→Nat→St→Hp→Prop,(∃ m,W 0 m σ H)∧∀ i m σ H,W i m σ H →
   ((Itl K a).stop i H∧D.nx σ H)∨((Itl K a).go i H∧∃ N:St→Hp→Prop,(∀ σ' H',N σ' H'→∃ m',m' < m∧W (i + 1) m' σ' H')∧∀ x H',(Itl K a).yld i H x H'→g x σ H' fun σ2 H2 => tb { D with nx:=N,ct:=N,bk:=D.nx } σ2 H2):=by
 refine ⟨fun i m σ H => m = xs.length - i∧i≤xs.length∧Pv i σ H,⟨xs.length,by simp,Nat.zero_le _,h0⟩, ?_⟩
 rintro i m σ H ⟨rfl,hi,p⟩
 have q:=hl i σ H hi p
 by_cases hlt:i < xs.length
 ·refine .inr ⟨⟨xs,xs[i],q,by simp [hlt]⟩,Pv (i + 1),fun σ' H' p' => ⟨xs.length - (i + 1),by omega,rfl,hlt,p'⟩,fun x H' y => ?_⟩
  obtain ⟨e,y⟩:=y
  subst e
  exact hs i x σ _ (y xs q) p
 ·have e:i = xs.length:=by omega
  subst e
  exact .inl ⟨⟨xs,q,Nat.le_refl _⟩,hd σ H p⟩
abbrev R2:=V→V→Hp→VK→Prop
def OpR (X:Cx) (f:Value→Value→Sem Value) (r:R2):Prop :=
 ∀ (pins:List (Addr × Obj)) (s:Shared) (σ:St) (H:Hp) (x y:V) (v u:Value) (Q:VK),Inv X pins σ H s→RelV x v→RelV y u→r x y H Q →
  wpAny (model X.prog X.w) X.A (f v u) (EP X pins σ Q) X.xe s
def xz (X:Cx) (f:Value) (r:List V→Hp→VK→Prop):Prop :=
 ∀ (pins:List (Addr × Obj)) (s:Shared) (σ:St) (H:Hp) (xs:List V) (us:List Value) (Q:VK),Inv X pins σ H s→Vals xs us→r xs H Q →
  wpAny (model X.prog X.w) X.A (call f us) (EP X pins σ Q) X.xe s
def tOp (r:R2) (ta tb:TE):TE:=fun σ H Q => ta σ H fun x H1 => tb σ H1 fun y H2 => r x y H2 Q
def tUn (r:V→Hp→VK→Prop) (ta:TE):TE:=fun σ H Q => ta σ H fun x H1 => r x H1 Q
def rI (C:Int→Int→Prop) (g:Int→Int→V):R2:=fun x y H Q => ∃ i j,x = .int i∧y = .int j∧C i j∧Q (g i j) H
def rI0 (g:Int→Int→V):R2:=fun x y H Q => ∃ i j,x = .int i∧y = .int j∧Q (g i j) H
def rU (g:Int→V):V→Hp→VK→Prop:=fun x H Q => ∃ i,x = .int i∧Q (g i) H
section
variable {X:Cx} {a b:Expr} {ta tb:TE} {pos:Pos}
theorem binT (ha:PE X a ta) (hb:PE X b tb) {pins:List (Addr × Obj)} {s:Shared} {σ:St} {H:Hp} {R:V→V→Hp→Prop} (I:Inv X pins σ H s)
  (h:ta σ H fun x H1 => tb σ H1 fun y H2 => R x y H2) {Q:Value→Shared→Prop} {f:Value→Value→Sem Value}
  (hf:∀ v u s2 x y H2,Inv X pins σ H2 s2→RelV x v→RelV y u→R x y H2→wpAny (model X.prog X.w) X.A (f v u) Q X.xe s2) :
  wpAny (model X.prog X.w) X.A (eval a X.env) (fun v s₁ => wpAny (model X.prog X.w) X.A (eval b X.env) (fun u s₂ => wpAny (model X.prog X.w) X.A (f v u) Q X.xe s₂) X.xe s₁) X.xe s:=by
 refine thn (ha pins s σ H _ I h) fun v s1 ⟨x,H1,I1,r1,q1⟩ => ?_
 refine thn (hb pins s1 σ H1 _ I1 q1) fun u s2 ⟨y,H2,I2,r2,q2⟩ => ?_
 exact hf v u s2 x y H2 I2 r1 r2 q2
theorem pe_op {op:Operator} {r:R2} (ho:OpR X (binaryOp op) r) (ha:PE X a ta) (hb:PE X b tb):PE X (.BinOp a op b pos) (tOp r ta tb):=by
 intro pins s σ H Q I h
 exact wpAny_BinOp (binT ha hb I h fun v u s2 x y H2 I2 rx ry q => ho pins s2 σ H2 x y v u Q I2 rx ry q)
theorem opI {f:Value→Value→Sem Value} {C:Int→Int→Prop} {g:Int→Int→Int}
  (rule:∀ (i j:Int) (t u:Tok) (s:Shared) (Q:Value→Shared→Prop) (E:Value→Shared→Prop),C i j→Q (.int (g i j) s.toks) { s with toks:=s.toks + 1 }→wpAny (model X.prog X.w) X.A (f (.int i t) (.int j u)) Q E s) :
  OpR X f (rI C fun i j => .int (g i j)):=by
 intro pins s σ H x y v u Q I rx ry h
 obtain ⟨i,j,rfl,rfl,hc,q⟩:=h
 obtain ⟨t,rfl⟩:=rx
 obtain ⟨t',rfl⟩:=ry
 exact rule i j t t' s _ _ hc ⟨.int (g i j),H,I.tok _,⟨_,rfl⟩,q⟩
theorem opI0 {f:Value→Value→Sem Value} {g:Int→Int→Int}
  (rule:∀ (i j:Int) (t u:Tok) (s:Shared) (Q:Value→Shared→Prop) (E:Value→Shared→Prop),Q (.int (g i j) s.toks) { s with toks:=s.toks + 1 }→wpAny (model X.prog X.w) X.A (f (.int i t) (.int j u)) Q E s) :
  OpR X f (rI0 fun i j => .int (g i j)):=by
 intro pins s σ H x y v u Q I rx ry h
 obtain ⟨i,j,rfl,rfl,q⟩:=h
 obtain ⟨t,rfl⟩:=rx
 obtain ⟨t',rfl⟩:=ry
 exact rule i j t t' s _ _ ⟨.int (g i j),H,I.tok _,⟨_,rfl⟩,q⟩
theorem opB0 {f:Value→Value→Sem Value} {g:Int→Int→Bool}
  (rule:∀ (i j:Int) (t u:Tok) (s:Shared) (Q:Value→Shared→Prop) (E:Value→Shared→Prop),Q (.bool (g i j)) s→wpAny (model X.prog X.w) X.A (f (.int i t) (.int j u)) Q E s) :
  OpR X f (rI0 fun i j => .bl (g i j)):=by
 intro pins s σ H x y v u Q I rx ry h
 obtain ⟨i,j,rfl,rfl,q⟩:=h
 obtain ⟨t,rfl⟩:=rx
 obtain ⟨t',rfl⟩:=ry
 exact rule i j t t' s _ _ ⟨.bl (g i j),H,I,rfl,q⟩
def CPow (i j:Int):Prop:=0≤j∧j≤1000000∧i.natAbs < 2 ^ 64
def CMul (i j:Int):Prop:=(-(2 ^ 64) < i∧i < 2 ^ 64)∨(-(2 ^ 64) < j∧j < 2 ^ 64)
theorem CMul.ok {i j:Int} (h:CMul i j):IntMulOk i j:=by
 rcases h with ⟨h1,h2⟩ | ⟨h1,h2⟩
 ·exact .of_left (intBits_le_64 h1 h2)
 ·exact .of_right (intBits_le_64 h1 h2)
theorem xm:OpR X (binaryOp .Add) (rI0 fun i j => .int (i + j)):=opI0 fun _ _ _ _ _ _ _ q => add_int q
theorem ki:OpR X (binaryOp .Sub) (rI0 fun i j => .int (i - j)):=opI0 fun _ _ _ _ _ _ _ q => sub_int q
theorem kS:OpR X (binaryOp .Mult) (rI CMul fun i j => .int (i * j)):=opI fun _ _ _ _ _ _ _ hc q => mul_int q hc.ok
theorem jV:OpR X (binaryOp .Mod) (rI (fun _ j => 0 < j) fun i j => .int (i % j)):=opI fun i j _ _ _ _ _ hc q => by
 have h1:(0:Int) < j:=hc
 exact mod_int' (by omega) (by rw [Int.fmod_eq_emod_of_nonneg i (by omega)]; exact q)
theorem Jy:OpR X (binaryOp .Mod) (rI (fun _ j => j≠0) fun i j => .int (i.fmod j)):=opI fun _ _ _ _ _ _ _ hc q => mod_int' hc q
theorem Zr:OpR X (binaryOp .Pow) (rI CPow fun i j => .int (i ^ j.toNat)):=opI fun _ _ _ _ _ _ _ hc q => pow_int_small hc.1 hc.2.1 hc.2.2 q
theorem op_shl:OpR X (binaryOp .LShift) (rI CPow fun i j => .int (i * 2 ^ j.toNat)):=opI fun _ _ _ _ _ _ _ hc q => lshift_int_small hc.1 hc.2.1 hc.2.2 q
end
def scal:V→V→Bool
 | .non, .non => true | .non, .int _ => true | .int _, .non => true | .non, .bl _ => true | .bl _, .non => true | .non, .str _ => true | .str _, .non => true
 | .int _, .int _ => true | .bl _, .bl _ => true | .str _, .str _ => true | .byt _, .byt _ => true
 | .int _, .str _ => true | .str _, .int _ => true | .bl _, .str _ => true | .str _, .bl _ => true
 | _,_ => false
def rEq:R2:=fun x y H Q => scal x y = true∧Q (.bl (decide (x = y))) H
def rNe:R2:=fun x y H Q => scal x y = true∧Q (.bl (!decide (x = y))) H
theorem Ko {i j:Int}:decide (V.int i = V.int j) = (i == j):=by
 rw [Bool.eq_iff_iff]
 simp
theorem dec_bl {i j:Bool}:decide (V.bl i = V.bl j) = (i == j):=by
 rw [Bool.eq_iff_iff]
 simp
theorem Kn {i j:Str}:decide (V.str i = V.str j) = (i == j):=by
 rw [Bool.eq_iff_iff]
 simp
theorem Kp {i j:Array UInt8}:decide (V.byt i = V.byt j) = (i.toList == j.toList):=by
 rw [Bool.eq_iff_iff]
 cases i
 cases j
 simp
section
variable {X:Cx} {a b c:Expr} {ta tb tc:TE} {pos:Pos}
theorem vD {pins:List (Addr × Obj)} {σ:St} {H:Hp} {s:Shared} {Q:VK} {k k':Bool} (I:Inv X pins σ H s) (q:Q (.bl k) H) (e:k = k'):EP X pins σ Q (.bool k') s:=by
 subst e
 exact ⟨.bl k,H,I,rfl,q⟩
theorem op_eq:OpR X (compareOp .Eq) rEq:=by
 intro pins s σ H x y v u Q I rx ry h
 obtain ⟨hs,q⟩:=h
 cases x with
 | non =>
  cases rx
  cases y with
  | non => cases ry; exact PySem.EqNone.eq_none_none (vD I q (by simp))
  | bl j => cases ry; exact PySem.EqNone.eq_none_bool (vD I q (by simp))
  | int j => obtain ⟨t',rfl⟩:=ry; exact PySem.EqNone.eq_none_int (vD I q (by simp))
  | str j => obtain ⟨t',rfl⟩:=ry; exact PySem.EqNone.eq_none_str (vD I q (by simp))
  | _ => exact absurd (show false = true from hs) Bool.false_ne_true
 | bl i =>
  cases rx
  cases y with
  | non => cases ry; exact PySem.EqNone.eq_bool_none (vD I q (by simp))
  | bl j => cases ry; exact eq_bool (vD I q dec_bl)
  | str j => obtain ⟨t',rfl⟩:=ry; exact PySem.EqMixed.eq_bool_str (vD I q (by simp))
  | _ => exact absurd (show false = true from hs) Bool.false_ne_true
 | int i =>
  obtain ⟨t,rfl⟩:=rx
  cases y with
  | non => cases ry; exact PySem.EqNone.eq_int_none (vD I q (by simp))
  | int j => obtain ⟨t',rfl⟩:=ry; exact eq_int (vD I q Ko)
  | str j => obtain ⟨t',rfl⟩:=ry; exact PySem.EqMixed.eq_int_str (vD I q (by simp))
  | _ => exact absurd (show false = true from hs) Bool.false_ne_true
 | str i =>
  obtain ⟨t,rfl⟩:=rx
  cases y with
  | non => cases ry; exact PySem.EqNone.eq_str_none (vD I q (by simp))
  | bl j => cases ry; exact PySem.EqMixed.eq_str_bool (vD I q (by simp))
  | int j => obtain ⟨t',rfl⟩:=ry; exact PySem.EqMixed.eq_str_int (vD I q (by simp))
  | str j => obtain ⟨t',rfl⟩:=ry; exact eq_str (vD I q Kn)
  | _ => exact absurd (show false = true from hs) Bool.false_ne_true
 | byt i =>
  obtain ⟨t,rfl⟩:=rx
  cases y with
  | byt j => obtain ⟨t',rfl⟩:=ry; exact PySem.W.eq_bytes (vD I q Kp)
  | _ => exact absurd (show false = true from hs) Bool.false_ne_true
 | _ => cases y <;> exact absurd (show false = true from hs) Bool.false_ne_true
theorem jP:OpR X (compareOp .NotEq) rNe:=by
 intro pins s σ H x y v u Q I rx ry h
 obtain ⟨hs,q⟩:=h
 cases x with
 | non =>
  cases rx
  cases y with
  | non => cases ry; exact PySem.EqNone.ne_none_none (vD I q (by simp))
  | bl j => cases ry; exact PySem.EqNone.ne_none_bool (vD I q (by simp))
  | int j => obtain ⟨t',rfl⟩:=ry; exact PySem.EqNone.ne_none_int (vD I q (by simp))
  | str j => obtain ⟨t',rfl⟩:=ry; exact PySem.EqNone.ne_none_str (vD I q (by simp))
  | _ => exact absurd (show false = true from hs) Bool.false_ne_true
 | bl i =>
  cases rx
  cases y with
  | non => cases ry; exact PySem.EqNone.ne_bool_none (vD I q (by simp))
  | bl j => cases ry; exact ne_bool (vD I q (congrArg not dec_bl))
  | str j => obtain ⟨t',rfl⟩:=ry; exact PySem.EqMixed.ne_bool_str (vD I q (by simp))
  | _ => exact absurd (show false = true from hs) Bool.false_ne_true
 | int i =>
  obtain ⟨t,rfl⟩:=rx
  cases y with
  | non => cases ry; exact PySem.EqNone.ne_int_none (vD I q (by simp))
  | int j => obtain ⟨t',rfl⟩:=ry; exact ne_int (vD I q (congrArg not Ko))
  | str j => obtain ⟨t',rfl⟩:=ry; exact PySem.EqMixed.ne_int_str (vD I q (by simp))
  | _ => exact absurd (show false = true from hs) Bool.false_ne_true
 | str i =>
  obtain ⟨t,rfl⟩:=rx
  cases y with
  | non => cases ry; exact PySem.EqNone.ne_str_none (vD I q (by simp))
  | bl j => cases ry; exact PySem.EqMixed.ne_str_bool (vD I q (by simp))
  | int j => obtain ⟨t',rfl⟩:=ry; exact PySem.EqMixed.ne_str_int (vD I q (by simp))
  | str j => obtain ⟨t',rfl⟩:=ry; exact ne_str (vD I q (congrArg not Kn))
  | _ => exact absurd (show false = true from hs) Bool.false_ne_true
 | byt i =>
  obtain ⟨t,rfl⟩:=rx
  cases y with
  | byt j => obtain ⟨t',rfl⟩:=ry; exact PySem.W.ne_bytes (vD I q (congrArg not Kp))
  | _ => exact absurd (show false = true from hs) Bool.false_ne_true
 | _ => cases y <;> exact absurd (show false = true from hs) Bool.false_ne_true
theorem VL:OpR X (compareOp .Lt) (rI0 fun i j => .bl (decide (i < j))):=opB0 fun _ _ _ _ _ _ _ q => lt_int q
theorem OpR.or {f:Value→Value→Sem Value} {r r':R2} (h:OpR X f r) (h':OpR X f r'):OpR X f (fun x y H Q => r x y H Q∨r' x y H Q):=by
 intro pins s σ H x y v u Q I rx ry q
 rcases q with q | q
 ·exact h pins s σ H x y v u Q I rx ry q
 ·exact h' pins s σ H x y v u Q I rx ry q
theorem qC (b:Expr) {op:CmpOp} (h:op ≠ .In:=by decide) (h2:op ≠ .NotIn:=by decide):behindInMarks op b = false:=by
 have e1:(op == CmpOp.In) = false:=by cases op <;> first | rfl | exact absurd rfl h
 have e2:(op == CmpOp.NotIn) = false:=by cases op <;> first | rfl | exact absurd rfl h2
 cases b <;> simp [behindInMarks,e1,e2]
theorem pe_cmpR {op:CmpOp} {r:R2} (ho:OpR X (compareOp op) r) (ha:PE X a ta) (hb:PE X b tb) (hm:behindInMarks op b = false):PE X (.Compare a [op] [b] pos) (tOp r ta tb):=by
 intro pins s σ H Q I h
 exact wpAny_Compare1 (binT ha hb I h fun v u s2 x y H2 I2 rx ry q => ho pins s2 σ H2 x y v u Q I2 rx ry q) hm
def vS (t:TE):TT:=fun σ H Q => t σ H fun x H' => ∃ k,x = .bl k∧Q k H'
theorem pt_cmpR {op:CmpOp} {r:R2} (ho:OpR X (compareOp op) r) (ha:PE X a ta) (hb:PE X b tb) (hm:behindInMarks op b = false):PT X (.Compare a [op] [b] pos) (vS (tOp r ta tb)):=by
 intro pins s σ H Q I h
 refine wpAny_isTrue_Compare1 (thn (ha pins s σ H _ I h) fun v s1 ⟨x,H1,I1,r1,q1⟩ => thn (hb pins s1 σ H1 _ I1 q1) fun u s2 ⟨y,H2,I2,r2,q2⟩ =>
  thn (ho pins s2 σ H2 x y v u _ I2 r1 r2 q2) fun c s3 ⟨z,H3,I3,r3,k,e,q3⟩ => ?_) hm
 subst e
 cases r3
 exact wpAny_truthy_bool ⟨H3,I3,q3⟩
def vB (r r':R2) (ta tb tc:TE):TE:=fun σ H Q => ta σ H fun x H1 => tb σ H1 fun y H2 => r x y H2 fun z H3 => ∃ k,z = .bl k ∧
 (if k = true then tc σ H3 fun w' H4 => r' y w' H4 Q else Q (.bl false) H3)
def TruV (K:PySem.W.Frag) (x:V) (H:Hp) (k:Bool):Prop :=
 match x with
 | .non => k = false
 | .bl b => k = b
 | .int i => k = (i != 0)
 | .str y => y.length≤sizeLine∧k = ((y.length:Int) != 0)
 | .byt y => y.size≤sizeLine∧k = ((y.size:Int) != 0)
 | .ref p => (∃ xs,SqL K H p xs∧k = !xs.isEmpty)∨(∃ xs,SqT K H p xs∧k = !xs.isEmpty)∨∃ kvs,H p = some (.dK kvs)∧k = !kvs.isEmpty
 | _ => False
theorem ZB:(sizeLine:Nat) < 2 ^ 63:=by rw [sizeLine_eq]; decide
theorem Z9 {x:V} {us:List Value} (r:Vals [x] us):∃ u,us = [u]∧RelV x u:=by
 cases r with
 | cons r1 r2 => cases r2; exact ⟨_,rfl,r1⟩
theorem XO {x y:V} {us:List Value} (r:Vals [x,y] us):∃ u w',us = [u,w']∧RelV x u∧RelV y w':=by
 cases r with
 | cons r1 r2 =>
  cases r2 with
  | cons r3 r4 => cases r4; exact ⟨_,_,rfl,r1,r3⟩
theorem call_abs:xz X (.builtin "abs") (fun xs H Q => ∃ i,xs = [.int i]∧Q (.int (if i < 0 then -i else i)) H):=by
 intro pins s σ H xs us Q I r h
 obtain ⟨i,rfl,q⟩:=h
 obtain ⟨u,rfl,t,rfl⟩:=Z9 r
 exact call_abs_int fun u tk => ⟨.int (if i < 0 then -i else i),H,I.tok _,⟨_,rfl⟩,q⟩
theorem Vt:xz X (.type "int") (fun xs H Q => (∃ i,xs = [.int i]∧Q (.int i) H)∨∃ k,xs = [.bl k]∧Q (.int (if k then 1 else 0)) H):=by
 intro pins s σ H xs us Q I r h
 rcases h with ⟨i,rfl,q⟩ | ⟨k,rfl,q⟩
 ·obtain ⟨u,rfl,t,rfl⟩:=Z9 r
  exact call_int_int ⟨.int i,H,I,⟨_,rfl⟩,q⟩
 ·obtain ⟨u,rfl,r1⟩:=Z9 r
  cases r1
  exact call_int_bool ⟨.int (if k then 1 else 0),H,I.tok _,⟨_,rfl⟩,q⟩
end
structure ObjM (h:Heap) (x dx C:Addr) (mA:Str→Option Value):Prop where
 obj:h.get? x = some (PySem.W.instObj C dx)
 ns:h.Ns1 dx mA
 ne:dx≠x
theorem xu {h:Heap} {dx:Addr} {mA:Str→Option Value} (n:h.Ns1 dx mA):∃ od,h.get? dx = some od∧∀ name,PySem.W.lookIn name od = some (mA name):=by
 obtain ⟨o,es,ep,ho,hd,hk,_,hm⟩:=n
 refine ⟨o,ho,fun name => ?_⟩
 have e:=hm name
 unfold nsFind findBy at e
 rw [← Array.find?_toList] at e
 unfold PySem.W.lookIn
 rw [hd]
 dsimp only
 split
 ·rename_i y q
  rw [q] at e
  exact congrArg some e
 ·rename_i q
  rw [q] at e
  have a:es.toList.any (·.refKey) = false:=by
   rw [List.any_eq_false]
   intro y hy
   obtain ⟨z,t,hkey⟩:=hk y (Array.mem_toList_iff.mp hy)
   simp [DictEntry.refKey,hkey]
  have a':¬ es.toList.any (·.refKey) = true:=by rw [a]; exact Bool.false_ne_true
  rw [if_neg a']
  exact congrArg some e
theorem ObjM.look {h:Heap} {x dx C:Addr} {mA:Str→Option Value} (I:ObjM h x dx C mA):∃ od,PySem.W.InstAt h x (PySem.W.instObj C dx) C (some od)∧∀ name,PySem.W.lookIn name od = some (mA name) :=
 let ⟨od,ho,hl⟩:=xu I.ns
 ⟨od,⟨I.obj,rfl,rfl,ho⟩,hl⟩
section
variable {prog:Program} {w:World} {A:Around} {E:Value→Shared→Prop} {s:Shared} {K:PySem.W.Frag} {x dx C f:Addr} {mA:Str→Option Value} {name:Str} {v:Value}
theorem get_map {expr:Bool} {Q:Value→Shared→Prop} (X:K.In s.heap) (I:ObjM s.heap x dx C mA) (hg:PySem.W.plainGet K C name = true) (hh:PySem.W.hasDictIn K C = true)
  (ha:PySem.W.findIn K (.ref C) name = some none) (hv:mA name = some v) (hv':PySem.W.handedIn v = true) (h:Q v { s with toks:=s.toks + 1 }) :
  wpAny (model prog w) A (getAttr (.ref x) name expr) Q E s:=by
 obtain ⟨od,J,hl⟩:=I.look
 exact PySem.W.get_value X J (PySem.W.plainGet_of hg).1 (PySem.W.findObj_own hh ha rfl (by rw [hl,hv])) hv' h
theorem get_meth {pl:Sem Bool} {Q:Value × List Value→Shared→Prop} (X:K.In s.heap) (I:ObjM s.heap x dx C mA) (hg:PySem.W.plainGet K C name = true)
  (hf:PySem.W.findIn K (.ref C) name = some (some (.ref f))) (ht:PySem.W.isFn K (.ref f) = true) (hv:mA name = none) (h:Q (.ref f, [.ref x]) s) :
  wpAny (model prog w) A (getMethod (.ref x) name pl) Q E s:=by
 obtain ⟨od,J,hl⟩:=I.look
 exact PySem.W.method_fn X J (PySem.W.plainGet_of hg).1 (PySem.W.plainGet_of hg).2 hf (beq_iff_eq.mp ht) (by show (PySem.W.lookIn name od).map (·.isSome) = some false; rw [hl,hv]; rfl) h
theorem set_map {ns:List Str} {Q:Unit→Shared→Prop} (X:K.In s.heap) (I:ObjM s.heap x dx C mA)
  (hs:PySem.W.findIn K (.ref C) "__setattr__" = some (some (.builtin "object.__setattr__"))) (hp:PySem.W.plainOver K C = true) (ht:PySem.W.takerIn K C name = some none) (hh:PySem.W.hasDictIn K C = true)
  (hw:PySem.Within mA ns) (hsz:ns.length≤sizeLine)
  (h:∀ h',ObjM h' x dx C (fun y => if y = name then some v else mA y)→Heap.SameBut dx s.heap h'→Q () { s with heap:=h',toks:=s.toks + 2 }) :
  wpAny (model prog w) A (setAttr (.ref x) name v) Q E s:=by
 obtain ⟨od,J,hl⟩:=I.look
 refine PySem.W.set_plain X J hs (PySem.W.osa_open (s:={ s with toks:=s.toks + 1 }) (r:=none) X J hp ht fun b => ?_)
 obtain ⟨cd,hc,hd'⟩:=PySem.W.any_some hh
 have hx:s.heap.get? x = some ⟨.ref C,some dx, .plain, #[]⟩:=I.obj
 refine wpAny_bind (wpAny_pure (wpAny_bind (wpAny_bind (wpAny_loadPart hx (wpAny_bind (PySem.W.Looks.here (s:={ s with toks:=s.toks + 1 }) (PySem.W.looks_clsIn X hc) ?_))))))
 rw [hd']
 refine wpAny_pure (a:=some dx) (wpAny_bind (wpAny_pure (wpAny_bind ?_)))
 refine wpAny_nsSet1 (s:={ s with toks:=s.toks + 1 }) I.ns fun h' hn2 hs2 => ?_
 obtain ⟨oD,esD,epD,hoD,hdD,hcD⟩:=hn2.count (PySem.Within.cons name v hw)
 refine wpAny_bind (wpAny_lookBehind hoD (by rw [hdD]; exact pastItsLine_dict (Nat.le_trans hcD (by rw [List.length_cons]; omega))) ?_)
 exact wpAny_pure (h _ ⟨(hs2.2 _ (Ne.symm I.ne)).trans I.obj,hn2,I.ne⟩ hs2)
theorem make_map {R:Result→Shared→Prop} {vs:List Value} {kw:List (Str × Value)} (X:K.In s.heap) (hm:PySem.W.makesIn K C = true)
  (hi:PySem.W.findIn K (.ref C) "__init__" = some (some (.ref f))) (hf:PySem.W.typeIn K (.ref f) = some (.type "function"))
  (h:codeAny (model prog w) (A.under (.builtin "type.__call__" ⟨.ref C :: vs,kw⟩)) (.call (.ref f) ⟨.ref (s.heap.objs.size + 1) :: vs,kw⟩) (PySem.W.InitBack (s.heap.objs.size + 1) R)
   { s with heap:=(s.heap.push PySem.W.emptyDict).push (PySem.W.instObj C s.heap.objs.size) }) :
  codeAny (model prog w) A (.call (.ref C) ⟨vs,kw⟩) R s:=by
 obtain ⟨hh,g,d,t,os⟩:=s
 exact PySem.W.make_core (PySem.W.makes_of X hm) (PySem.W.looks_findIn X hi) (fun self => PySem.W.bind_fn X self hf) (.inl rfl) h
end
def putF (f:Str) (v:V):List (Str × V)→List (Str × V)
 | [] => [(f,v)]
 | (g,x) :: r => if g = f then (g,v) :: r else (g,x) :: putF f v r
theorem ko (f g:Str) (v:V):∀ fs:List (Str × V),(putF f v fs).lookup g = if g = f then some v else fs.lookup g
 | [] => by
  show List.lookup g [(f,v)] = _
  by_cases h:g = f
  ·have hb:(g == f) = true:=beq_iff_eq.mpr h
   simp only [List.lookup,hb,if_pos h]
  ·have hb:(g == f) = false:=beq_eq_false_iff_ne.mpr h
   simp only [List.lookup,hb,if_neg h]
 | (k,x) :: r => by
  have ih:=ko f g v r
  rw [show putF f v ((k,x) :: r) = (if k = f then (k,v) :: r else (k,x) :: putF f v r) from rfl]
  by_cases hk:k = f
  ·rw [if_pos hk]
   by_cases h:g = k
   ·have hb:(g == k) = true:=beq_iff_eq.mpr h
    simp only [List.lookup,hb,if_pos (h.trans hk)]
   ·have hb:(g == k) = false:=beq_eq_false_iff_ne.mpr h
    simp only [List.lookup,hb,if_neg (fun e:g = f => h (e.trans hk.symm))]
  ·rw [if_neg hk]
   by_cases h:g = k
   ·have hb:(g == k) = true:=beq_iff_eq.mpr h
    simp only [List.lookup,hb,if_neg (fun e:g = f => hk (h.symm.trans e))]
   ·have hb:(g == k) = false:=beq_eq_false_iff_ne.mpr h
    simp only [List.lookup,hb]
    exact ih
theorem kr (f:Str) (v:V):∀ fs:List (Str × V),f ∈ (putF f v fs).map (·.1)∧∀ g,g ∈ fs.map (·.1)→g ∈ (putF f v fs).map (·.1)
 | [] => ⟨by simp [putF],fun g h => by simp at h⟩
 | (k,x) :: r => by
  obtain ⟨i1,i2⟩:=kr f v r
  rw [show putF f v ((k,x) :: r) = (if k = f then (k,v) :: r else (k,x) :: putF f v r) from rfl]
  by_cases hk:k = f
  ·rw [if_pos hk]
   subst hk
   exact ⟨by simp,fun g h => by simpa using h⟩
  ·rw [if_neg hk]
   refine ⟨?_,fun g h => ?_⟩
   ·rw [List.map_cons]
    exact List.mem_cons_of_mem _ i1
   ·rw [List.map_cons] at h ⊢
    rcases List.mem_cons.mp h with e | e
    ·exact List.mem_cons.mpr (.inl e)
    ·exact List.mem_cons_of_mem _ (i2 g e)
theorem kq (f:Str) (v:V):∀ fs:List (Str × V),(putF f v fs).length≤fs.length + 1
 | [] => by simp [putF]
 | (k,x) :: r => by
  have ih:=kq f v r
  rw [show putF f v ((k,x) :: r) = (if k = f then (k,v) :: r else (k,x) :: putF f v r) from rfl]
  by_cases hk:k = f
  ·rw [if_pos hk,List.length_cons,List.length_cons]; omega
  ·rw [if_neg hk,List.length_cons,List.length_cons]; omega
theorem RelO.some_of {v:V} {o:Option Value} (r:RelO (some v) o):∃ u,o = some u∧RelV v u:=by
 cases o with
 | none => exact (show False from r).elim
 | some u => exact ⟨u,rfl,r⟩
theorem RelO.none_of {o:Option Value} (r:RelO none o):o = none:=by
 cases o with
 | none => rfl
 | some u => exact (show False from r).elim
theorem Kc {v:V} {u:Value} (r:RelV v u):PySem.W.handedIn u = true:=by
 cases v with
 | non => cases (show u = Value.none from r); rfl
 | bl b => cases (show u = Value.bool b from r); rfl
 | int i => obtain ⟨t,e⟩:=(show ∃ t,u = Value.int i t from r); cases e; rfl
 | str x => obtain ⟨t,e⟩:=(show ∃ t,u = Value.str x t from r); cases e; rfl
 | byt b => obtain ⟨t,e⟩:=(show ∃ t,u = Value.bytes b t from r); cases e; rfl
 | flt b => obtain ⟨t,e⟩:=(show ∃ t,u = Value.float b t from r); cases e; rfl
 | ref a => cases (show u = Value.ref a from r); rfl
 | ty n => cases (show u = Value.type n from r); rfl
section
variable {P:Program} {w:World} {H:Hp} {h:Heap} {a C dx:Addr} {fs:List (Str × V)}
theorem Qv (hok:HOk P w H h) (e:H a = some (.ins C dx fs)):∃ mA,ObjM h a dx C mA∧(∀ f,RelO (fs.lookup f) (mA f))∧PySem.Within mA (fs.map (·.1))∧fs.length≤1000∧H dx = some (.own a):=by
 obtain ⟨d,z,ne,ob,mA,n,r,q⟩:=(show ObjOk P w H h a (.ins C dx fs) from hok a _ e)
 exact ⟨mA,⟨ob,n,ne⟩,r,q,z,d⟩
end
structure Cls (K:PySem.W.Frag) (C:Addr):Prop where
 pg:PySem.W.plainGet K C Str.empty = true
 hd:PySem.W.hasDictIn K C = true
 po:PySem.W.plainOver K C = true
 sa:PySem.W.findIn K (.ref C) "__setattr__" = some (some (.builtin "object.__setattr__"))
theorem Cls.get {K:PySem.W.Frag} {C:Addr} (c:Cls K C) (f:Str):PySem.W.plainGet K C f = true:=c.pg
def NoAttr (K:PySem.W.Frag) (C:Addr) (f:Str):Prop:=PySem.W.findIn K (.ref C) f = some none
theorem NoAttr.taker {K:PySem.W.Frag} {C:Addr} {f:Str} (n:NoAttr K C f):PySem.W.takerIn K C f = some none:=by
 unfold PySem.W.takerIn
 rw [show PySem.W.findIn K (.ref C) f = some none from n]
 rfl
structure Meth (K:PySem.W.Frag) (C:Addr) (m:Str) (f:Addr):Prop where
 at_:PySem.W.findIn K (.ref C) m = some (some (.ref f))
 fn:PySem.W.isFn K (.ref f) = true
 kp:PySem.W.keepIn K (.ref f) = true
section
variable {X:Cx} {pins:List (Addr × Obj)} {σ:St} {H:Hp} {s:Shared} {a C dx:Addr} {fs:List (Str × V)} {f:Str} {v:V} {A:Around} {E:Value→Shared→Prop}
theorem kT {b:Bool} {Q:Value→Shared→Prop} (I:Inv X pins σ H s) (e:H a = some (.ins C dx fs)) (c:Cls X.K C) (n:NoAttr X.K C f) (l:fs.lookup f = some v)
  (h:∀ u s',Inv X pins σ H s'→RelV v u→Q u s'):wpAny (model X.prog X.w) A (getAttr (.ref a) f b) Q E s:=by
 obtain ⟨mA,O,r,_,_,_⟩:=Qv I.hok e
 obtain ⟨u,hu,ru⟩:=RelO.some_of (v:=v) (o:=mA f) (by rw [← l]; exact r f)
 exact get_map I.kIn O (c.get f) c.hd n hu (Kc ru) (h u _ (I.tok _) ru)
theorem jR {m:Str} {g:Addr} {pl:Sem Bool} {Q:Value × List Value→Shared→Prop} (I:Inv X pins σ H s) (e:H a = some (.ins C dx fs)) (c:Cls X.K C) (k:Meth X.K C m g) (l:fs.lookup m = none)
  (h:Q (.ref g, [.ref a]) s):wpAny (model X.prog X.w) A (getMethod (.ref a) m pl) Q E s:=by
 obtain ⟨mA,O,r,_,_,_⟩:=Qv I.hok e
 have hn:mA m = none:=RelO.none_of (by rw [← l]; exact r m)
 exact get_meth I.kIn O (c.get m) k.at_ k.fn hn h
theorem Xc {y:V} {u:Value} {Q:Unit→Shared→Prop} (I:Inv X pins σ H s) (e:H a = some (.ins C dx fs)) (c:Cls X.K C) (n:NoAttr X.K C f) (hl:fs.length < 1000) (ry:RelV y u)
  (h:∀ s',Inv X pins σ (upd H a (.ins C dx (putF f y fs))) s'→Q () s'):wpAny (model X.prog X.w) A (setAttr (.ref a) f u) Q E s:=by
 obtain ⟨mA,O,r,wi,_,ho⟩:=Qv I.hok e
 have hz:(fs.map (·.1)).length≤sizeLine:=by rw [List.length_map,sizeLine_eq]; omega
 refine set_map I.kIn O c.sa c.po n.taker c.hd wi hz fun h' O' sb => h _ ?_
 have hd:∃ o,h'.get? dx = some o:=let ⟨o,_,_,e',_⟩:=O'.ns; ⟨o,e'⟩
 refine I.write (x:=a) (e:=dx) (by rw [e]; exact True.intro) (.inr ho) (fun b q hb z => (sb.2 b hb).trans z) hd ?_
 refine ⟨by rw [upd_ne O.ne]; exact ho, ?_,O.ne,O'.obj,_,O'.ns,fun g => ?_,fun g hg => ?_⟩
 ·have:=kq f y fs; omega
 ·show RelO ((putF f y fs).lookup g) (if g = f then some u else mA g)
  rw [ko]
  by_cases q:g = f
  ·rw [if_pos q,if_pos q]; exact ry
  ·rw [if_neg q,if_neg q]; exact r g
 ·by_cases q:g = f
  ·rw [q]; exact (kr f y fs).1
  ·refine (kr f y fs).2 g (wi g fun z => hg ?_)
   show (if g = f then some u else mA g) = none
   rw [if_neg q]; exact z
theorem Inv.made (I:Inv X pins σ H s):Inv X pins σ (upd (upd H s.heap.objs.size (.own (s.heap.objs.size + 1))) (s.heap.objs.size + 1) (.ins C s.heap.objs.size []))
  { s with heap:=(s.heap.push PySem.W.emptyDict).push (PySem.W.instObj C s.heap.objs.size) }:=by
 have e1:(s.heap.push PySem.W.emptyDict).get? s.heap.objs.size = some PySem.W.emptyDict:=Heap.get?_push_size s.heap rfl
 have e2:((s.heap.push PySem.W.emptyDict).push (PySem.W.instObj C s.heap.objs.size)).get? (s.heap.objs.size + 1) = some (PySem.W.instObj C s.heap.objs.size):=by
  have:=Heap.get?_push_size (s.heap.push PySem.W.emptyDict) (o:=PySem.W.instObj C s.heap.objs.size) rfl
  rwa [Heap.size_push] at this
 have e3:(s.heap.push PySem.W.emptyDict).Ns s.heap.objs.size (fun _ => none):=⟨PySem.W.emptyDict, #[],_,e1,rfl,(fun e he => absurd he (by simp)),fun _ => rfl⟩
 have I1:=I.laid (a:=s.heap.objs.size) (o:=.own (s.heap.objs.size + 1)) (h':=s.heap.push PySem.W.emptyDict) (t':=s.toks) (fun b u q => Heap.get?_push_of_some _ q) (Nat.le_refl _) ⟨_,e1⟩
 refine I1.laid (a:=s.heap.objs.size + 1) (o:=.ins C s.heap.objs.size []) (t':=s.toks) (fun b u q => Heap.get?_push_of_some _ q) (Nat.le_of_eq (Heap.size_push _ _)) ?_
 have ne:s.heap.objs.size≠s.heap.objs.size + 1:=Nat.ne_of_lt (Nat.lt_succ_self _)
 refine ⟨by rw [upd_ne ne,upd_same],Nat.zero_le _,ne,e2,fun _ => none,(Heap.Ns1.of_empty e3).at fun o q => Heap.get?_push_of_some _ q,fun _ => True.intro,fun y hy => absurd rfl hy⟩
theorem kE {prog:Program} {w:World} {env:Env} {e:Expr} {f:Str} {pos:Pos} {s:Shared} {Q:Value→Shared→Prop} (hb:attributeBase e f env (eval e env) = eval e env)
  (h:wpAny (model prog w) A (eval e env) (fun o s₁ => wpAny (model prog w) A (getAttr o f true) Q E s₁) E s):wpAny (model prog w) A (eval (.Attribute e f pos) env) Q E s :=
 Attribute_any_ h (by rw [arm_eval_Attribute,hb])
end
def tFld (K:PySem.W.Frag) (ta:TE) (f:Str):TE:=fun σ H Q => ta σ H fun x H1 => ∃ a C dx fs v,x = .ref a∧H1 a = some (.ins C dx fs)∧Cls K C∧NoAttr K C f∧fs.lookup f = some v∧Q v H1
def sFld (K:PySem.W.Frag) (ta tv:TE) (f:Str):TS:=fun D σ H => tv σ H fun y H1 => ta σ H1 fun x H2 => ∃ a C dx fs,x = .ref a∧H2 a = some (.ins C dx fs)∧Cls K C∧NoAttr K C f∧fs.length < 1000 ∧
 D.nx σ (upd H2 a (.ins C dx (putF f y fs)))
section
variable {X:Cx} {o e value:Expr} {f:Str} {pos pos':Pos} {ta tv:TE}
theorem pe_fld (he:PE X e ta) (hb:attributeBase e f X.env (eval e X.env) = eval e X.env):PE X (.Attribute e f pos) (tFld X.K ta f):=by
 intro pins s σ H Q I h
 refine kE hb (thn (he pins s σ H _ I h) fun u s1 ⟨x,H1,I1,rx,a,C,dx,fs,v,ex,ea,c,n,l,q⟩ => ?_)
 subst ex
 obtain rfl:u = Value.ref a:=rx
 exact kT I1 ea c n l fun u' s2 I2 ru => ⟨v,H1,I2,ru,q⟩
theorem ps_fld (ha:PE X o ta) (hv:PE X value tv) (hs:swapsWith value (some (.Attribute o f pos')) pos.line X.env = pure false):PS X (.Assign [.Attribute o f pos'] value pos) (sFld X.K ta tv f):=by
 intro pins s σ H D I h
 refine plainObj_wpAny_Assign_Attribute (thn (hv pins s σ H _ I h) fun u s1 ⟨y,H1,I1,ry,q⟩ => thn (ha pins s1 σ H1 _ I1 q) fun ov s2 ⟨x,H2,I2,rx,a,C,dx,fs,ex,ea,c,n,l,q2⟩ => ?_) hs
 subst ex
 obtain rfl:ov = Value.ref a:=rx
 exact Xc I2 ea c n l ry fun s3 I3 => ⟨σ,_,I3,q2⟩
theorem methcall_of {pl:Sem Bool} {m:Str} {apos:Pos} {args:List Expr} {pins:List (Addr × Obj)} {s:Shared} {σ:St} {H:Hp} {Q:Value→Shared→Prop} {te:TE} (he:PE X e te) (I:Inv X pins σ H s)
  (h:te σ H fun x H1 => ∃ a C dx fs g,x = .ref a∧H1 a = some (.ins C dx fs)∧Cls X.K C∧Meth X.K C m g∧fs.lookup m = none ∧
   ∀ s1,Inv X pins σ H1 s1→wpAny (model X.prog X.w) X.A (callWith pos (.ref g) [.ref a] (backTo pos (starEach args X.env)) (backToKw pos (keywordEach [] X.env))) Q X.xe s1)
  (ht:eval (.Call (.Attribute e m apos) args [] pos) X.env = (do
   let ov ← eval e X.env
   standAt apos.atName
   let (f,first) ← holding [ov] (getMethod ov m pl)
   callWith pos f first (backTo pos (starEach args X.env)) (backToKw pos (keywordEach [] X.env)))) :
  wpAny (model X.prog X.w) X.A (eval (.Call (.Attribute e m apos) args [] pos) X.env) Q X.xe s:=by
 refine PySem.W.methodCall_KW (pl:=pl) (thn (he pins s σ H _ I h) fun u s1 ⟨x,H1,I1,rx,a,C,dx,fs,g,ex,ea,c,k,l,q⟩ => ?_) ht
 subst ex
 obtain rfl:u = Value.ref a:=rx
 exact jR I1 ea c k l (q s1 I1)
end
section
variable {X:Cx} {pins:List (Addr × Obj)} {σ:St} {H:Hp} {s:Shared} {A:Around} {E:Value→Shared→Prop} {Q:Value→Shared→Prop} {c:Value} {b:Bool}
inductive TyOf (K:PySem.W.Frag) (H:Hp):V→Value→Prop where
 | non:TyOf K H .non (.type "NoneType")
 | bl (x:Bool):TyOf K H (.bl x) (.type "bool")
 | int (i:Int):TyOf K H (.int i) (.type "int")
 | str (x:Str):TyOf K H (.str x) (.type "str")
 | flt (x:UInt64):TyOf K H (.flt x) (.type "float")
 | lst {a:Addr} {xs:List V} (e:H a = some (.lst xs)):TyOf K H (.ref a) (.type "list")
 | frz {a:Addr} {o:Obj} {xs:List V} (e:H a = some (.frz o (.lst xs))):TyOf K H (.ref a) (.type "list")
 | tup {a:Addr} {xs:List V} (e:H a = some (.tup xs)):TyOf K H (.ref a) (.type "tuple")
 | dK {a:Addr} {kvs:List (Key × V)} (e:H a = some (.dK kvs)):TyOf K H (.ref a) (.type "dict")
 | dT {a:Addr} {kvs:List (List Key × V)} (e:H a = some (.dT kvs)):TyOf K H (.ref a) (.type "dict")
 | ins {a C dx:Addr} {fs:List (Str × V)} (e:H a = some (.ins C dx fs)) (cl:Cls K C) (ha:PySem.W.findIn K (.ref C) "__class__" = some (some (.builtin "object.__class__")))
   (hn:PySem.W.specialIn K (.builtin "object.__class__") "__get__" = some (some (.builtin "getset_descriptor.__get__"))) (htk:PySem.W.takesIn K (.builtin "object.__class__") = some true)
   (hm:PySem.W.mroIn K C (.type "object") = some true):TyOf K H (.ref a) (.ref C)
theorem Vb {x:V} {u t:Value} (I:Inv X pins σ H s) (rx:RelV x u) (ty:TyOf X.K H x t) (e:PySem.W.kitOne X.K t c = some b) (h:∀ tk,Q (.bool b) { s with toks:=tk }) :
  wpAny (model X.prog X.w) A (call (.builtin "isinstance") [u,c]) Q E s:=by
 cases ty with
 | non => cases (show u = Value.none from rx); exact PySem.W.kia_one PySem.W.kitx_none I.kIn True.intro e (fun z => nomatch z) h
 | bl y => cases (show u = Value.bool y from rx); exact PySem.W.kia_one PySem.W.kitx_bool I.kIn True.intro e (fun z => nomatch z) h
 | int i => obtain ⟨t,q⟩:=(show ∃ t,u = Value.int i t from rx); cases q; exact PySem.W.kia_one PySem.W.kitx_int I.kIn True.intro e (fun z => nomatch z) h
 | str y => obtain ⟨t,q⟩:=(show ∃ t,u = Value.str y t from rx); cases q; exact PySem.W.kia_one PySem.W.kitx_str I.kIn True.intro e (fun z => nomatch z) h
 | flt y => obtain ⟨t,q⟩:=(show ∃ t,u = Value.float y t from rx); cases q; exact PySem.W.kia_one PySem.W.kitx_float I.kIn True.intro e (fun z => nomatch z) h
 | @lst a xs ea =>
  cases (show u = Value.ref a from rx)
  obtain ⟨_,_,n,_,h1⟩:=(show ObjOk X.prog X.w H s.heap a (.lst xs) from I.hok a _ ea)
  exact PySem.W.kia_one PySem.W.kitx_list I.kIn ⟨_,h1,rfl⟩ e (fun z => nomatch z) h
 | @frz a ob xs ea =>
  cases (show u = Value.ref a from rx)
  obtain ⟨_,_,_,n,_,h1⟩:=(show ObjOk X.prog X.w H s.heap a (.frz ob (.lst xs)) from I.hok a _ ea)
  exact PySem.W.kia_one PySem.W.kitx_list I.kIn ⟨_,h1,rfl⟩ e (fun z => nomatch z) h
 | @tup a xs ea =>
  cases (show u = Value.ref a from rx)
  obtain ⟨_,_,_,p⟩:=(show ObjOk X.prog X.w H s.heap a (.tup xs) from I.hok a _ ea)
  obtain ⟨o,h1,h2,_⟩:=p
  exact PySem.W.kia_one PySem.W.kitx_tuple I.kIn ⟨o,h1,h2⟩ e (fun z => nomatch z) h
 | @dK a kvs ea =>
  cases (show u = Value.ref a from rx)
  obtain ⟨_,_,vs,_,p⟩:=(show ObjOk X.prog X.w H s.heap a (.dK kvs) from I.hok a _ ea)
  obtain ⟨o,es,ep,h1,h2,_⟩:=p
  exact PySem.W.kia_one PySem.W.kitx_dict I.kIn ⟨o,h1,h2.1⟩ e (fun z => nomatch z) h
 | @dT a kvs ea =>
  cases (show u = Value.ref a from rx)
  obtain ⟨_,_,xs,_,o,es,ep,h1,h2,_⟩:=(show ObjOk X.prog X.w H s.heap a (.dT kvs) from I.hok a _ ea)
  exact PySem.W.kia_one PySem.W.kitx_dict I.kIn ⟨o,h1,h2.1⟩ e (fun z => nomatch z) h
 | @ins a C dx fs ea cl ha hn htk hm =>
  cases (show u = Value.ref a from rx)
  obtain ⟨mA,O,_⟩:=Qv I.hok ea
  obtain ⟨od,J,_⟩:=O.look
  exact PySem.W.kia_one (PySem.W.kitx_own (cl.get _) cl.hd ha hn htk hm) I.kIn J e (fun z => nomatch z) h
end
structure Room (k:Nat) (A:Around):Prop where
 hd:A.handled = none
 dp:A.depth + 3 * k + 5 < recursionLimit
 un:A.units + 16 * k + 200 < cLine
theorem Room.mono {j k:Nat} {A:Around} (r:Room k A) (h:j≤k):Room j A:=⟨r.hd,by have:=r.dp; omega,by have:=r.un; omega⟩
theorem Room.deeper {k:Nat} {A:Around} (r:Room (k + 1) A) (env:Env):Room k (A.deeper env) :=
 ⟨r.hd,by have:=r.dp; show A.depth + 1 + 3 * k + 5 < _; omega,by have:=r.un; show A.units + 3 + 16 * k + 200 < _; omega⟩
theorem XB {A:Around} {C:Addr} {us:List Value} {kw:List (Str × Value)}:(A.under (.builtin "type.__call__" ⟨.ref C :: us,kw⟩)).depth = A.depth + 1:=by
 first | rfl | simp [Around.under,Code.weight,Code.isCreation,Code.isGuard,Code.isCaller,Code.frames,Code.isFrame,guardIds]
theorem XA {A:Around} {C:Addr} {us:List Value} {kw:List (Str × Value)}:(A.under (.builtin "type.__call__" ⟨.ref C :: us,kw⟩)).units = A.units + 1:=by
 first | rfl | simp [Around.under,Code.cUnits,Code.frames,Code.isFrame]
theorem Room.make {k:Nat} {A:Around} (r:Room (k + 1) A) (C:Addr) (us:List Value) (kw:List (Str × Value)):Room k (A.under (.builtin "type.__call__" ⟨.ref C :: us,kw⟩)) :=
 ⟨r.hd,by have:=r.dp; rw [XB]; omega,by have:=r.un; rw [XA]; omega⟩
theorem Room.depth {k:Nat} {A:Around} (r:Room k A):A.depth < recursionLimit:=by have:=r.dp; omega
theorem Room.units {k:Nat} {A:Around} (r:Room k A):A.units + 64 < cLine:=by have:=r.un; omega
def tNil:TA:=fun _ H Q => Q [] H
def vo (ta:TE) (tr:TA):TA:=fun σ H Q => ta σ H fun x H1 => tr σ H1 fun xs H2 => Q (x :: xs) H2
section
variable {X:Cx} {e:Expr} {es:List Expr} {te:TE} {t:TA} {pos:Pos}
theorem pa_nil:PA X [] tNil:=fun _ _ _ _ H Q I h => Calls.spliced_nil ⟨[],H,I, .nil,h⟩
theorem pa_cons (ha:PE X e te) (hr:PA X es t) (hs:starEach (e :: es) X.env = (false,eval e X.env) :: starEach es X.env:=by rfl):PA X (e :: es) (vo te t):=by
 intro pos pins s σ H Q I h
 rw [hs]
 show wpAny _ _ (spliced ((false,eval e X.env) :: backTo pos (starEach es X.env))) _ _ s
 refine Calls.spliced_cons (thn (ha pins s σ H _ I h) fun u s1 ⟨x,H1,I1,r1,q1⟩ => ?_)
 exact thn (hr pos pins s1 σ H1 _ I1 q1) fun us s2 ⟨xs,H2,I2,r2,q2⟩ => ⟨x :: xs,H2,I2, .cons r1 r2,q2⟩
def tTup (t:TA):TE:=fun σ H Q => t σ H fun xs H1 => xs.length≤sizeLine∧∀ p,H1 p = none→Q (.ref p) (upd H1 p (.tup xs))
def tLst (t:TA):TE:=fun σ H Q => t σ H fun xs H1 => xs.length≤sizeLine∧∀ p,H1 p = none→Q (.ref p) (upd H1 p (.lst xs))
theorem pe_tup {x1} (h:PA X es t):PE X (.Tuple es x1 pos) (tTup t):=by
 intro pins s σ H Q I hq
 refine wpAny_Tuple_spliced (thn (h pos pins s σ H _ I hq) fun us s1 ⟨xs,H1,I1,r,z,q⟩ => ⟨by rw [← r.length]; exact z, ?_⟩)
 have hf:H1 s1.heap.objs.size = none:=I1.hok.fresh (Nat.le_refl _)
 refine ⟨.ref s1.heap.objs.size,upd H1 s1.heap.objs.size (.tup xs),I1.laid (t':=s1.toks) (fun b u e => Heap.get?_push_of_some _ e) (Nat.le_refl _) ?_,rfl,q _ hf⟩
 exact ⟨z,us,r,⟨_,Heap.get?_push_size _ rfl,rfl,_,rfl⟩⟩
theorem pe_lst (h:PA X es t):PE X (.List es pos) (tLst t):=by
 intro pins s σ H Q I hq
 refine wpAny_List_spliced (thn (h pos pins s σ H _ I hq) fun us s1 ⟨xs,H1,I1,r,z,q⟩ => ⟨by rw [← r.length]; exact z, ?_⟩)
 have hf:H1 s1.heap.objs.size = none:=I1.hok.fresh (Nat.le_refl _)
 refine ⟨.ref s1.heap.objs.size,upd H1 s1.heap.objs.size (.lst xs),I1.laid (t':=s1.toks) (fun b u e => Heap.get?_push_of_some _ e) (Nat.le_refl _) ?_,rfl,q _ hf⟩
 exact ⟨z,us,0,r,Heap.get?_push_size _ rfl⟩
end
abbrev Sp:=List V→Hp→VK→XK→Prop
abbrev CXT:=List Env→Hp→Shared→XK→Value→Shared→Prop
structure Env0 (P:Program) (w:World) (K:PySem.W.Frag) (mg:Str→Option Value) (base:Heap) (A:Around) (outer:List Env) (s:Shared) (H:Hp):Prop where
 frames:A.frames = some outer
 mod:Mod K mg base
 bs:∀ b o,base.get? b = some o→s.heap.get? b = some o∧H b = none
 bsz:base.objs.size≤s.heap.objs.size
 funs:s.heap.FunFrames base outer
 frf:∀ b ∈ frs outer,H b = none
 hok:HOk P w H s.heap
 bare:AllBare s.gens
def CE (outer:List Env) (P:Program) (w:World) (H:Hp) (s:Shared) (Q:VK) (u:Value) (s':Shared):Prop :=
 ∃ v H',s'.os = s.os∧AllBare s'.gens∧Un (frs outer) [] H H' s.heap s'.heap∧HOk P w H' s'.heap∧RelV v u∧Q v H'
def CR (CX:CXT) (outer:List Env) (P:Program) (w:World) (H:Hp) (s:Shared) (Q:VK) (E:XK) (r:Result) (s':Shared):Prop :=
 match r with
 | .ok (.ret u) => CE outer P w H s Q u s'
 | .ok _ => False
 | .error e => CX outer H s E e s'
structure FnOk (P:Program) (w:World) (K:PySem.W.Frag) (mg:Str→Option Value) (base:Heap) (CX:CXT) (k:Nat) (f:Addr) (fd:FuncData) (ps:List Str) (sp:Sp):Prop where
 len:∀ vs H Q E,sp vs H Q E→vs.length = ps.length
 run:∀ (A:Around) (outer:List Env) (s:Shared) (H:Hp) (args:Args) (us:List Value) (vs:List V) (Q:VK) (E:XK),Room k A→Env0 P w K mg base A outer s H→BindsTo s fd args (ps.zip us)→Vals vs us→sp vs H Q E →
  codeAny (model P w) A (.call (.ref f) args) (CR CX outer P w H s Q E) s
theorem FnOk.mono {P:Program} {w:World} {K:PySem.W.Frag} {mg:Str→Option Value} {base:Heap} {CX:CXT} {j k:Nat} {f:Addr} {fd:FuncData} {ps:List Str} {sp:Sp} (F:FnOk P w K mg base CX j f fd ps sp) (h:j≤k) :
  FnOk P w K mg base CX k f fd ps sp:=⟨F.len,fun A outer s H args us vs Q E hr => F.run A outer s H args us vs Q E (hr.mono h)⟩
theorem FnOk.imp {P:Program} {w:World} {K:PySem.W.Frag} {mg:Str→Option Value} {base:Heap} {CX:CXT} {k:Nat} {f:Addr} {fd:FuncData} {ps:List Str} {sp sp':Sp} (F:FnOk P w K mg base CX k f fd ps sp)
  (h:∀ vs H Q E,sp' vs H Q E→sp vs H Q E):FnOk P w K mg base CX k f fd ps sp' :=
 ⟨fun vs H Q E q => F.len vs H Q E (h _ _ _ _ q),fun A outer s H args us vs Q E hr he hb hv hs => F.run A outer s H args us vs Q E hr he hb hv (h _ _ _ _ hs)⟩
theorem Env0.make {P:Program} {w:World} {K:PySem.W.Frag} {mg:Str→Option Value} {base:Heap} {A:Around} {outer:List Env} {s:Shared} {H:Hp} (e:Env0 P w K mg base A outer s H) (C:Addr) (us:List Value) (kw:List (Str × Value)) :
  Env0 P w K mg base (A.under (.builtin "type.__call__" ⟨.ref C :: us,kw⟩)) outer s H:=⟨by first | exact e.frames | (simpa [Around.under,Code.envs,Code.isFrame,pushEnvs] using e.frames),e.mod,e.bs,e.bsz,e.funs,e.frf,e.hok,e.bare⟩
section
variable {X:Cx} {pins:List (Addr × Obj)} {σ:St} {H:Hp} {s s':Shared}
theorem Inv.env0 (I:Inv X pins σ H s):Env0 X.prog X.w X.K X.mg X.base X.A X.stack s H :=
 ⟨I.ok.frames,I.ok.mod,I.bs,Nat.le_trans I.ok.bsz I.sz,I.stack,I.stkFree,I.hok,I.bare⟩
theorem Inv.after {Q:VK} {u:Value} (I:Inv X pins σ H s) (h:CE X.stack X.prog X.w H s Q u s'):EP X pins σ Q u s':=by
 obtain ⟨v,H',os,bare,un,hok,r,q⟩:=h
 obtain ⟨hh,g,d,t,os'⟩:=s'
 obtain rfl:os' = s.os:=os
 exact ⟨v,H',I.call (h':=hh) (g':=g) (d':=d) (t':=t) (ch:=[]) un hok bare (fun b z => absurd z (by simp)),r,q⟩
end
def vL (sp:Sp) (dvs:List V) (E:XK) (t:TA):TE:=fun σ H Q => t σ H fun vs H1 => sp (vs ++ dvs) H1 Q E
def X3 (C:Addr) (m:Str) (sp:Sp) (dvs:List V) (E:XK) (ta:TE) (t:TA):TE:=fun σ H Q => ta σ H fun x H1 => ∃ a dx fs,x = .ref a∧H1 a = some (.ins C dx fs)∧fs.lookup m = none ∧
 t σ H1 fun vs H2 => sp (x :: (vs ++ dvs)) H2 Q E
def Xb (C:Addr) (sp:Sp) (dvs:List V) (E:XK) (t:TA):TE:=fun σ H Q => t σ H fun vs H1 => ∀ x dx,H1 x = none→H1 dx = none→dx≠x →
 sp (.ref x :: (vs ++ dvs)) (upd (upd H1 dx (.own x)) x (.ins C dx [])) (fun v H2 => v = .non∧Q (.ref x) H2) E
def Binds (K:PySem.W.Frag) (fd:FuncData) (ps:List Str) (ds:List Value):Prop :=
 ∀ (s:Shared) (us:List Value),K.In s.heap→(us ++ ds).length = ps.length→BindsTo s fd ⟨us, []⟩ (ps.zip (us ++ ds))
theorem Binds.all {K:PySem.W.Frag} {fd:FuncData} {ps:List Str} (h:∀ us:List Value,us.length = ps.length→bindArgs fd ⟨us, []⟩ = pure (ps.zip us)):Binds K fd ps []:=fun s us _ hl => by
 rw [List.append_nil] at hl ⊢
 exact .of_eq (h us hl)
def kF (CX:CXT) (X:Cx) (E:XK):Prop:=∀ (pins:List (Addr × Obj)) (σ:St) (H:Hp) (s:Shared) (e:Value) (s':Shared),Inv X pins σ H s→CX X.stack H s E e s'→X.xe e s'
section
variable {X:Cx} {CX:CXT} {k:Nat} {f C:Addr} {fd:FuncData} {ps:List Str} {sp:Sp} {dvs:List V} {ds:List Value} {E:XK} {x m:Str} {p pos apos:Pos} {e o:Expr} {es:List Expr} {ta:TE} {t:TA}
theorem run_fn {pins:List (Addr × Obj)} {σ:St} {H:Hp} {s:Shared} {Q:VK} {us:List Value} {vs:List V} (F:FnOk X.prog X.w X.K X.mg X.base CX k f fd ps sp) (hr:Room k X.A) (hb:Binds X.K fd ps ds) (hd:Vals dvs ds) (hx:kF CX X E)
  (I:Inv X pins σ H s) (r:Vals vs us) (h:sp (vs ++ dvs) H Q E):wpAny (model X.prog X.w) X.A (call (.ref f) us) (EP X pins σ Q) X.xe s:=by
 have r2:Vals (vs ++ dvs) (us ++ ds):=r.append hd
 have hl:(us ++ ds).length = ps.length:=by rw [← r2.length]; exact F.len _ _ _ _ h
 refine wpAny_call (codeAny_mono (F.run X.A X.stack s H ⟨us, []⟩ (us ++ ds) (vs ++ dvs) Q E hr I.env0 (hb s us I.kIn hl) r2 h) fun r s' hq => ?_)
 cases r with
 | error e => exact hx pins σ H s e s' I hq
 | ok fl =>
  cases fl with
  | ret u => exact I.after hq
  | next => exact False.elim hq
  | brk => exact False.elim hq
  | cont => exact False.elim hq
theorem pe_call (F:FnOk X.prog X.w X.K X.mg X.base CX k f fd ps sp) (hr:Room k X.A) (hg:Gl X x) (hm:X.mg x = some (.ref f)) (hk:PySem.W.keepIn X.K (.ref f) = true) (hb:Binds X.K fd ps ds) (hd:Vals dvs ds) (hx:kF CX X E)
  (ha:PA X (e :: es) t) (hdb:(x == ("__debug__" : Str)) = false:=by decide) (he:starEach (e :: es) X.env = (false,eval e X.env) :: starEach es X.env:=by rfl) (hpl:(backTo pos (starEach es X.env)).any (·.1) = false:=by rfl) :
  PE X (.Call (.Name x p) (e :: es) [] pos) (vL sp dvs E t):=by
 intro pins s σ H Q I h
 refine wpAny_Call_Name_kw (zB I hg hm ?_ hdb)
 refine PySem.W.callWith_K (h₀:=X.base) I.ok.mod.kin hk (thn (ha pos pins s σ H _ I h) fun us s1 ⟨vs,H1,I1,r,q⟩ => ⟨I1.kIn, ?_⟩) he hpl
 exact run_fn F hr hb hd hx I1 r q
theorem pe_meth {pl:Sem Bool} (he:PE X o ta) (c:Cls X.K C) (hm:Meth X.K C m f) (F:FnOk X.prog X.w X.K X.mg X.base CX k f fd ps sp) (hr:Room k X.A) (hb:Binds X.K fd ps ds) (hd:Vals dvs ds) (hx:kF CX X E) (ha:PA X (e :: es) t)
  (hst:starEach (e :: es) X.env = (false,eval e X.env) :: starEach es X.env:=by rfl) (hpl:(backTo pos (starEach es X.env)).any (·.1) = false:=by rfl)
  (ht:eval (.Call (.Attribute o m apos) (e :: es) [] pos) X.env = (do
   let ov ← eval o X.env
   standAt apos.atName
   let (f,first) ← holding [ov] (getMethod ov m pl)
   callWith pos f first (backTo pos (starEach (e :: es) X.env)) (backToKw pos (keywordEach [] X.env))):=by rfl) :
  PE X (.Call (.Attribute o m apos) (e :: es) [] pos) (X3 C m sp dvs E ta t):=by
 intro pins s σ H Q I h
 refine PySem.W.methodCall_KW (pl:=pl) (thn (he pins s σ H _ I h) fun u s1 ⟨x,H1,I1,rx,a,dx,fs,ex,ea,l,q⟩ => ?_) ht
 subst ex
 obtain rfl:u = Value.ref a:=rx
 refine jR I1 ea c hm l ?_
 refine PySem.W.callWith_K (first:=[.ref a]) (h₀:=X.base) I.ok.mod.kin hm.kp (thn (ha pos pins s1 σ H1 _ I1 q) fun us s2 ⟨vs,H2,I2,r,q2⟩ => ⟨I2.kIn, ?_⟩) hst hpl
 exact run_fn (us:=.ref a :: us) (vs:=.ref a :: vs) F hr hb hd hx I2 (.cons rfl r) q2
structure Mk (K:PySem.W.Frag) (C f:Addr):Prop where
 makes:PySem.W.makesIn K C = true
 init:PySem.W.findIn K (.ref C) "__init__" = some (some (.ref f))
 fn:PySem.W.isFn K (.ref f) = true
 kp:PySem.W.keepIn K (.ref C) = true
theorem Zm {pins:List (Addr × Obj)} {σ:St} {H:Hp} {s:Shared} {Q:VK} {us:List Value} {vs:List V} (M:Mk X.K C f) (F:FnOk X.prog X.w X.K X.mg X.base CX k f fd ps sp) (hr:Room (k + 1) X.A) (hb:Binds X.K fd ps ds) (hd:Vals dvs ds)
  (hx:kF CX X E) (I:Inv X pins σ H s) (r:Vals vs us)
  (h:∀ x dx,H x = none→H dx = none→dx≠x→sp (.ref x :: (vs ++ dvs)) (upd (upd H dx (.own x)) x (.ins C dx [])) (fun v H2 => v = .non∧Q (.ref x) H2) E) :
  wpAny (model X.prog X.w) X.A (call (.ref C) us) (EP X pins σ Q) X.xe s:=by
 have hq:=h (s.heap.objs.size + 1) s.heap.objs.size (I.hok.fresh (Nat.le_succ _)) (I.hok.fresh (Nat.le_refl _)) (Nat.ne_of_lt (Nat.lt_succ_self _))
 have I2:=Inv.made (C:=C) I
 have r2:Vals (V.ref (s.heap.objs.size + 1) :: (vs ++ dvs)) (Value.ref (s.heap.objs.size + 1) :: (us ++ ds)):=.cons rfl (r.append hd)
 have hl:(Value.ref (s.heap.objs.size + 1) :: us ++ ds).length = ps.length:=by
  have e:=r2.length
  rw [F.len _ _ _ _ hq] at e
  exact e.symm
 refine wpAny_call (make_map (f:=f) I.kIn M.makes M.init (beq_iff_eq.mp M.fn) (codeAny_mono (F.run _ X.stack _ _ ⟨Value.ref (s.heap.objs.size + 1) :: us, []⟩ (Value.ref (s.heap.objs.size + 1) :: (us ++ ds)) _ _ E (hr.make C us [])
  (I2.env0.make C us []) (hb _ (Value.ref (s.heap.objs.size + 1) :: us) I2.kIn hl) r2 hq) fun r s' hq' => ?_))
 cases r with
 | error e => exact hx pins σ _ _ e s' I2 hq'
 | ok fl =>
  cases fl with
  | ret u =>
   obtain ⟨v,H',I3,rv,ev,q3⟩:=I2.after hq'
   subst ev
   exact ⟨rv,⟨V.ref (s.heap.objs.size + 1),H',I3,rfl,q3⟩⟩
  | next => exact False.elim hq'
  | brk => exact False.elim hq'
  | cont => exact False.elim hq'
theorem pe_make (M:Mk X.K C f) (F:FnOk X.prog X.w X.K X.mg X.base CX k f fd ps sp) (hr:Room (k + 1) X.A) (hg:Gl X x) (hm:X.mg x = some (.ref C)) (hb:Binds X.K fd ps ds) (hd:Vals dvs ds) (hx:kF CX X E)
  (ha:PA X (e :: es) t) (hdb:(x == ("__debug__" : Str)) = false:=by decide) (he:starEach (e :: es) X.env = (false,eval e X.env) :: starEach es X.env:=by rfl) (hpl:(backTo pos (starEach es X.env)).any (·.1) = false:=by rfl) :
  PE X (.Call (.Name x p) (e :: es) [] pos) (Xb C sp dvs E t):=by
 intro pins s σ H Q I h
 refine wpAny_Call_Name_kw (zB I hg hm ?_ hdb)
 refine PySem.W.callWith_K (h₀:=X.base) I.ok.mod.kin M.kp (thn (ha pos pins s σ H _ I h) fun us s1 ⟨vs,H1,I1,r,q⟩ => ⟨I1.kIn, ?_⟩) he hpl
 exact Zm M F hr hb hd hx I1 r q
theorem pe_make0 (M:Mk X.K C f) (F:FnOk X.prog X.w X.K X.mg X.base CX k f fd ps sp) (hr:Room (k + 1) X.A) (hg:Gl X x) (hm:X.mg x = some (.ref C)) (hb:Binds X.K fd ps ds) (hd:Vals dvs ds) (hx:kF CX X E)
  (hdb:(x == ("__debug__" : Str)) = false:=by decide):PE X (.Call (.Name x p) [] [] pos) (Xb C sp dvs E tNil):=by
 intro pins s σ H Q I h
 refine wpAny_Call_Name_kw (zB I hg hm ?_ hdb)
 exact PySem.W.callWith_K0 I.kIn M.kp (Zm (us:=[]) M F hr hb hd hx I .nil h)
end
structure FnScope (N P:List Str) (sc:Scope):Prop where
 kind:sc.kind = .function
 co:sc.isCoroutine = false
 gen:sc.isGenerator = false
 nd:N.Nodup
 pre:N.take P.length = P
 par:∀ x ∈ P,sc.names.lookup x = some .local∨sc.names.lookup x = some .cell
 nofree:∀ y ∈ sc.names,y.2 ≠ .free
theorem Vu {kindOf:Str→Option NameKind} {x:Str}:∀ {binds:List (Str × Value)} {m:Str→Option Value},(∀ v,(x,v) ∉ binds)→bindL kindOf binds m x = m x
 | [],_,_ => rfl
 | (n,v) :: r,m,h => by
  unfold bindL
  rw [Vu fun w hw => h w (List.mem_cons_of_mem _ hw)]
  split
  ·have:x≠n:=by rintro rfl; exact h v List.mem_cons_self
   simp [this]
  ·rfl
theorem Vw {kindOf:Str→Option NameKind} {x:Str}:∀ {binds:List (Str × Value)} {m:Str→Option Value},(∀ v,(x,v) ∉ binds)→bindC kindOf binds m x = m x
 | [],_,_ => rfl
 | (n,v) :: r,m,h => by
  unfold bindC
  rw [Vw fun w hw => h w (List.mem_cons_of_mem _ hw)]
  split
  ·rfl
  ·have:x≠n:=by rintro rfl; exact h v List.mem_cons_self
   simp [this]
theorem Vv {kindOf:Str→Option NameKind} {x:Str} {v:Value}:∀ {P:List Str} {vs:List Value} {i:Nat} {m:Str→Option Value},P.Nodup→P[i]? = some x→vs[i]? = some v→kindOf x = some .local →
  bindL kindOf (P.zip vs) m x = some v
 | [],_,_,_,_,h,_,_ => by simp at h
 | _ :: _, [],_,_,_,_,h,_ => by simp at h
 | p :: P,w :: vs,0,m,nd,h1,h2,hk => by
  simp at h1 h2; subst h1; subst h2
  show bindL kindOf ((p,w) :: P.zip vs) m p = _
  unfold bindL
  rw [Vu fun v hv => (List.nodup_cons.mp nd).1 (List.of_mem_zip hv).1,if_pos hk]
  simp
 | p :: P,w :: vs,i + 1,m,nd,h1,h2,hk => by
  show bindL kindOf ((p,w) :: P.zip vs) m x = _
  unfold bindL
  exact Vv (i:=i) (List.nodup_cons.mp nd).2 (by simpa using h1) (by simpa using h2) hk
theorem Vx {kindOf:Str→Option NameKind} {x:Str} {v:Value}:∀ {P:List Str} {vs:List Value} {i:Nat} {m:Str→Option Value},P.Nodup→P[i]? = some x→vs[i]? = some v→kindOf x≠some .local →
  bindC kindOf (P.zip vs) m x = some v
 | [],_,_,_,_,h,_,_ => by simp at h
 | _ :: _, [],_,_,_,_,h,_ => by simp at h
 | p :: P,w :: vs,0,m,nd,h1,h2,hk => by
  simp at h1 h2; subst h1; subst h2
  show bindC kindOf ((p,w) :: P.zip vs) m p = _
  unfold bindC
  rw [Vw fun v hv => (List.nodup_cons.mp nd).1 (List.of_mem_zip hv).1,if_neg hk]
  simp
 | p :: P,w :: vs,i + 1,m,nd,h1,h2,hk => by
  show bindC kindOf ((p,w) :: P.zip vs) m x = _
  unfold bindC
  exact Vx (i:=i) (List.nodup_cons.mp nd).2 (by simpa using h1) (by simpa using h2) hk
def start (N:List Str) (vs:List V):St:=vs.map some ++ List.replicate (N.length - vs.length) none
def cxOf (CX:CXT) (P:Program) (w:World) (K:PySem.W.Frag) (mg:Str→Option Value) (base:Heap) (N:List Str) (qual:Str) (scope:Scope) (f:Addr) (cd:Value) (A:Around) (outer:List Env) (s:Shared) (H:Hp) (E:XK):Cx where
 prog:=P
 w:=w
 K:=K
 mg:=mg
 base:=base
 A:=A.deeper (envOfC qual scope s.heap.objs.size f cd)
 N:=N
 s₀:=s
 H₀:=H
 env:=envOfC qual scope s.heap.objs.size f cd
 outer:=outer
 stack:=envOfC qual scope s.heap.objs.size f cd :: outer
 ex:=[]
 calm:=true
 fn:=fun _ => true
 pn:=[]
 xe:=fun e s' => wpAny (model P w) (A.deeper (envOfC qual scope s.heap.objs.size f cd)) (leaving (envOfC qual scope s.heap.objs.size f cd) e) (fun _ s'' => CX outer H s E e s'') (fun e' s'' => CX outer H s E e' s'') s'
theorem Z4 {sc:Scope} {n:Nat} {x:Str} (h:sc.names.lookup x = some .cell):∃ c,(cellsFrom n sc.names []).lookup x = some c:=by
 have q:=PySem.W.cellsFrom_some sc.names n [] (.inl h)
 exact Option.isSome_iff_exists.mp q
theorem J8 {CX:CXT} {P:Program} {w:World} {K:PySem.W.Frag} {mg:Str→Option Value} {base:Heap} {N ps:List Str} {qual:Str} {scope:Scope} {f:Addr} {cd:Value} {A:Around} {outer:List Env} {s s1:Shared} {H:Hp} {E:XK} {us:List Value} {vs:List V}
  (S:FnScope N ps scope) (hd:A.handled = none) (e0:Env0 P w K mg base A outer s H) (hl:vs.length = ps.length) (r:Vals vs us)
  (x:InCallC s s.heap.objs.size (bindL (envOfC qual scope s.heap.objs.size f cd).kindOf (ps.zip us) fun _ => none) (cellsFrom (s.heap.objs.size + 1) scope.names []) (bindC (envOfC qual scope s.heap.objs.size f cd).kindOf (ps.zip us) fun _ => none) s1) :
  Inv (cxOf CX P w K mg base N qual scope f cd A outer s H E) [] (start N vs) H s1:=by
 have hpl:ps.length≤N.length:=by have:=congrArg List.length S.pre; rw [List.length_take] at this; omega
 obtain ⟨h1,tk,rfl,hk⟩:=x.done
 have noA:∀ b:Addr,b ∉ (cxOf CX P w K mg base N qual scope f cd A outer s H E).ex:=fun b z => absurd (show b ∈ ([]:List Addr) from z) (by simp)
 refine ⟨⟨e0.mod,S.kind,rfl,rfl,Nat.le_refl _,fun y z c h1 h2 => ?_,fun y hy => ?_,fun y c _ h => ?_,fun _ => hd,Around.frames_deeper e0.frames, .inr ⟨rfl,rfl⟩,fun b z => absurd z (noA b),e0.bs,e0.bsz,fun b _ _ => noA b,fun b z => absurd z (noA b),e0.funs,e0.frf⟩,
  rfl,e0.bare,Un.kept hk,⟨_,x.toInCall.ns,fun i y v h1 h2 h3 => ?_⟩,fun y c h => ⟨_,x.cell y c h⟩,e0.hok.fresh (Nat.le_refl _),fun y c h => ?_,fun p hp => absurd (show p ∈ ([]:List (Addr × Obj)) from hp) (by simp),e0.hok.kept hk, ?_⟩
 ·exact name_of_addr x.apart (PySem.mem_of_lookup h1) (PySem.mem_of_lookup h2)
 ·have hy:scope.names.lookup y = some .cell∨scope.names.lookup y = some .free:=hy
  rcases hy with hy | hy
  ·exact Z4 hy
  ·exact absurd rfl (S.nofree _ (PySem.mem_of_lookup hy))
 ·exact Nat.le_of_lt (x.above y c (PySem.mem_of_lookup h))
 ·have hi:i < vs.length:=by
   unfold start at h2
   by_cases hi:i < vs.length
   ·exact hi
   ·rw [List.getElem?_append_right (by simpa using hi)] at h2
    rw [List.getElem?_replicate] at h2
    split at h2 <;> cases h2
  have ha:vs[i]? = some v:=by
   unfold start at h2
   rw [List.getElem?_append_left (by simpa using hi),List.getElem?_map] at h2
   cases e:vs[i]? with
   | none => rw [e] at h2; cases h2
   | some a => rw [e] at h2; cases h2; rfl
  obtain ⟨u,hu,rv⟩:=r.get ha
  have hp:ps[i]? = some y:=by
   rw [← S.pre,List.getElem?_take_of_lt (by omega)]; exact h1
  have ndP:ps.Nodup:=by rw [← S.pre]; exact S.nd.sublist (List.take_sublist _ _)
  refine ⟨u,rv, ?_⟩
  rcases S.par y (List.mem_of_getElem? hp) with k | k
  ·exact .inl ⟨k,Vv ndP hp hu k⟩
  ·obtain ⟨c,e⟩:=Z4 (n:=s.heap.objs.size + 1) k
   refine .inr ⟨.inl k,c,e, ?_⟩
   have q:=x.cell y c e
   rw [Vx ndP hp hu (by show scope.names.lookup y≠_; rw [k]; decide)] at q
   exact q
 ·exact e0.hok.fresh (Nat.le_of_lt (x.above y c (PySem.mem_of_lookup h)))
 ·unfold start
  show _ = N.length
  rw [List.length_append,List.length_map,List.length_replicate]
  omega
theorem fn_of {CX:CXT} {P:Program} {w:World} {K:PySem.W.Frag} {mg:Str→Option Value} {base:Heap} {k:Nat} {f:Addr} {name qual:Str} {params:Arguments} {body:List Stmt} {scope:Scope} {dV kV doc pm cdv ct oc:Value} {an od:Option Addr}
  {osl:Array (Option Value)} {N ps:List Str} {sp:Sp} (lk:K.lookup f = some ⟨oc,od, .func (PySem.W.fnOf name qual params body scope dV kV doc pm an cdv ct),osl⟩) (hcd:PySem.W.codeIn K cdv qual = true) (S:FnScope N ps scope)
  (len:∀ vs H Q E,sp vs H Q E→vs.length = ps.length)
  (hbody:∀ (A:Around) (outer:List Env) (s:Shared) (H:Hp) (vs:List V) (Q:VK) (E:XK),Room k (A.deeper (envOfC qual scope s.heap.objs.size f cdv))→sp vs H Q E →
   ∃ t,PSs (cxOf CX P w K mg base N qual scope f cdv A outer s H E) body t∧t { nx:=fun _ H' => Q .non H',rt:=Q } (start N vs) H) :
  FnOk P w K mg base CX (k + 1) f (PySem.W.fnOf name qual params body scope dV kV doc pm an cdv ct) ps sp:=by
 refine ⟨len,fun A outer s H args us vs Q E hr e0 hb r hsp => ?_⟩
 have hl:=len _ _ _ _ hsp
 have KX:K.In s.heap:=e0.mod.kin.keeps fun b o e => (e0.bs b o e).1
 have lim:s.heap.NoLimit:=e0.mod.nolimit.keeps fun b o e => (e0.bs b o e).1
 have hkind:∀ y ∈ ps.zip us,scope.names.lookup y.1 = some .local∨(scope.names.lookup y.1 = some .cell∧((cellsFrom (s.heap.objs.size + 1) scope.names []).lookup y.1).isSome = true):=fun ⟨n,v⟩ hy => by
  rcases S.par n (List.of_mem_zip hy).1 with q | q
  ·exact .inl q
  ·exact .inr ⟨q,PySem.W.cellsFrom_some _ _ _ (.inl q)⟩
 refine codeAny_call_function hr.depth (KX _ _ lk) rfl S.co S.gen rfl (PySem.W.codeRec_of KX hcd) (hb _ _ _ _ ?_)
 refine wpAny_newFunctionEnv_cells S.kind hkind fun env he s1 x => ?_
 subst he
 refine ⟨lim.keeps x.toInCall.keep,codeAny_func ?_⟩
 obtain ⟨t,ht,hq⟩:=hbody A outer s H vs Q E (hr.deeper _) hsp
 have I:Inv (cxOf CX P w K mg base N qual scope f cdv A outer s H E) [] (start N vs) H s1:=J8 S hr.hd e0 hl r x
 refine wpAny_mono (ht [] s1 (start N vs) H _ I hq) (fun fl s' hs => ?_) fun e s' hs => hs
 have fin:∀ {σ':St} {H':Hp} {v:V} {u:Value},Inv (cxOf CX P w K mg base N qual scope f cdv A outer s H E) [] σ' H' s'→RelV v u→Q v H'→CE outer P w H s Q u s' :=
  fun {σ' H' v u} J rv q => ⟨v,H',J.os,J.bare,J.base,J.hok,rv,q⟩
 cases fl with
 | ret u =>
  obtain ⟨v,σ',H',J,rv,q⟩:=hs
  exact fin J rv q
 | next =>
  obtain ⟨σ',H',J,q⟩:=hs
  exact fin (v:=V.non) (u:=Value.none) J rfl q
 | brk =>
  obtain ⟨_,_,_,q⟩:=hs
  exact False.elim q
 | cont =>
  obtain ⟨_,_,_,q⟩:=hs
  exact False.elim q
section
variable {X:Cx} {x:Str} {p pos:Pos} {e:Expr} {es:List Expr} {t:TA} {id T:String} {r:List V→Hp→VK→Prop}
def tCB (r:List V→Hp→VK→Prop) (t:TA):TE:=fun σ H Q => t σ H fun vs H1 => r vs H1 Q
theorem pe_callB (hc:xz X (.builtin id) r) (hg:Gl X x) (hm:X.mg x = none) (hv:bootBuiltins x = some (.builtin id)) (ha:PA X (e :: es) t) (hn:x ≠ "__name__" := by decide) (hdb:(x == ("__debug__" : Str)) = false:=by decide)
  (he:starEach (e :: es) X.env = (false,eval e X.env) :: starEach es X.env:=by rfl) (hpl:(backTo pos (starEach es X.env)).any (·.1) = false:=by rfl):PE X (.Call (.Name x p) (e :: es) [] pos) (tCB r t):=by
 intro pins s σ H Q I h
 refine wpAny_Call_Name_kw (ZC I hg hm hv ?_ hn hdb)
 exact PyProof.Rows.callWith_builtin1 (thn (ha pos pins s σ H _ I h) fun us s1 ⟨vs,H1,I1,r1,q1⟩ => hc pins s1 σ H1 vs us Q I1 r1 q1) he hpl
theorem Jt (hc:xz X (.type T) r) (hg:Gl X x) (hm:X.mg x = none) (hv:bootBuiltins x = some (.type T)) (ha:PA X (e :: es) t) (hn:x ≠ "__name__" := by decide) (hdb:(x == ("__debug__" : Str)) = false:=by decide)
  (he:starEach (e :: es) X.env = (false,eval e X.env) :: starEach es X.env:=by rfl) (hpl:(backTo pos (starEach es X.env)).any (·.1) = false:=by rfl):PE X (.Call (.Name x p) (e :: es) [] pos) (tCB r t):=by
 intro pins s σ H Q I h
 refine wpAny_Call_Name_kw (ZC I hg hm hv ?_ hn hdb)
 exact PyProof.Rows.callWith_type1 (thn (ha pos pins s σ H _ I h) fun us s1 ⟨vs,H1,I1,r1,q1⟩ => hc pins s1 σ H1 vs us Q I1 r1 q1) he hpl
end
end L2
namespace HT
open PySem PyProof.Rows
section
def sIx (n d:Nat):Option Int→Nat
 | none => d
 | some v => if v < 0 then (v + (n:Int)).toNat else min v.toNat n
theorem sIx_nat (n d k:Nat):sIx n d (some (k:Int)) = min k n:=by
 show (if (k:Int) < 0 then ((k:Int) + (n:Int)).toNat else min (k:Int).toNat n) = min k n
 rw [if_neg (by omega),Int.toNat_natCast]
end
end HT
namespace L2
open PySem PySem.Spec PyProof.Rows
abbrev TO:=St→Hp→(Option Int→Hp→Prop)→Prop
def PO (X:Cx) (e:Option Expr) (t:TO):Prop :=
 ∀ (pins:List (Addr × Obj)) (s:Shared) (σ:St) (H:Hp) (Q:Option Int→Hp→Prop),Inv X pins σ H s→t σ H Q →
  wpAny (model X.prog X.w) X.A (evalPart e X.env) (fun u s' => ∃ o H',Inv X pins σ H' s'∧IsPart u o∧Q o H') X.xe s
def qW:TO:=fun _ H Q => Q none H
def vY (t:TE):TO:=fun σ H Q => t σ H fun x H1 => ∃ i,x = .int i∧Q (some i) H1
section
variable {X:Cx} {e:Expr} {te:TE} {lo hi:Option Expr} {tl th:TO} {pos p2:Pos}
theorem po_none:PO X none qW:=by
 intro pins s σ H Q I h
 rw [evalPart_none]
 exact wpAny_pure ⟨none,H,I, .none,h⟩
theorem po_some (h:PE X e te):PO X (some e) (vY te):=by
 intro pins s σ H Q I hw
 rw [evalPart_some]
 refine thn (h pins s σ H _ I hw) fun u s1 ⟨x,H1,I1,r1,q1⟩ => ?_
 obtain ⟨i,rfl,q⟩:=q1
 obtain ⟨t,rfl⟩:=r1
 exact ⟨some i,H1,I1, .int i t,q⟩
def SlR (X:Cx) (r:V→Option Int→Option Int→Hp→VK→Prop):Prop :=
 ∀ (pins:List (Addr × Obj)) (s:Shared) (σ:St) (H:Hp) (x:V) (v vl vu:Value) (lo hi:Option Int) (sl:Addr) (Q:VK),Inv X pins σ H s→RelV x v→s.heap.IsSliceOf sl vl vu .none→IsPart vl lo→IsPart vu hi→r x lo hi H Q →
  ∃ T id,typeLookup (.type T) "__getitem__" = pure (some (.builtin id))∧s.TypeIs v T∧wpAny (model X.prog X.w) X.A (getItem v (.ref sl)) (EP X pins σ Q) X.xe s
def tSl (r:V→Option Int→Option Int→Hp→VK→Prop) (te:TE) (tl th:TO):TE:=fun σ H Q => te σ H fun x H1 => tl σ H1 fun l H2 => th σ H2 fun u H3 => r x l u H3 Q
theorem pe_slice {r:V→Option Int→Option Int→Hp→VK→Prop} (hr:SlR X r) (he:PE X e te) (hl:PO X lo tl) (hu:PO X hi th):PE X (.Subscript e (.Slice lo hi none p2) pos) (tSl r te tl th):=by
 intro pins s σ H Q I h
 refine Subscript_ (thn (he pins s σ H _ I h) fun v s1 ⟨x,H1,I1,r1,q1⟩ => ?_)
 refine wpAny_Slice (thn (hl pins s1 σ H1 _ I1 q1) fun vl s2 ⟨l,H2,I2,pl,q2⟩ => thn (hu pins s2 σ H2 _ I2 q2) fun vu s3 ⟨u,H3,I3,pu,q3⟩ => ?_)
 rw [evalPart_none]
 refine wpAny_pure ?_
 have I4:Inv X pins σ H3 { s3 with heap:=s3.heap.push { cls:=.type "slice", data:=.fields #[vl,vu, .none] } }:=I3.kept (t':=s3.toks) fun b ob q => Heap.get?_push_of_some _ q
 obtain ⟨T,id,hT,ht,hg⟩:=hr pins { s3 with heap:=s3.heap.push { cls:=.type "slice", data:=.fields #[vl,vu, .none] } } σ H3 x v vl vu l u s3.heap.objs.size Q I4 r1 (Heap.IsSliceOf.new ..) pl pu q3
 show wpAny (model X.prog X.w) X.A (subscriptTail e (.Slice lo hi none p2) v (.ref s3.heap.objs.size)) (EP X pins σ Q) X.xe { s3 with heap:=s3.heap.push { cls:=.type "slice", data:=.fields #[vl,vu, .none] } }
 exact tail_any (ops:=[.ref s3.heap.objs.size,v]) ht hT hg (by with_unfolding_all rfl)
def cutV (xs:List V) (lo hi:Option Int):List V:=(xs.drop (HT.sIx xs.length 0 lo)).take (HT.sIx xs.length xs.length hi - HT.sIx xs.length 0 lo)
theorem V7 (xs:List V) (lo hi:Option Int):(cutV xs lo hi).length≤xs.length:=by
 unfold cutV
 rw [List.length_take,List.length_drop]
 omega
end
def ixN (n:Nat) (i:Int):Option Nat:=if 0≤i then (if i < n then some i.toNat else none) else if -(n:Int)≤i then some (i + n).toNat else none
def atI {α:Type} (xs:List α) (i:Int):Option α:=(ixN xs.length i).bind fun j => xs[j]?
theorem J5 {n:Nat} {i:Int} {j:Nat} (h:ixN n i = some j):seqIndex? i n = some j∧j < n ∧ -(n:Int)≤i∧i < n:=by
 unfold ixN at h
 by_cases h0:0≤i
 ·rw [if_pos h0] at h
  by_cases h1:i < n
  ·rw [if_pos h1] at h
   have e:i.toNat = j:=Option.some.inj h
   exact ⟨by rw [seqIndex_of h0 h1,e],by omega,by omega,h1⟩
  ·rw [if_neg h1] at h; cases h
 ·rw [if_neg h0] at h
  by_cases h1 : -(n:Int)≤i
  ·rw [if_pos h1] at h
   have e:(i + n).toNat = j:=Option.some.inj h
   exact ⟨by rw [seqIndex_neg (by omega) h1,e],by omega,h1,by omega⟩
  ·rw [if_neg h1] at h; cases h
theorem KJ {α:Type} {xs:List α} {i:Int} {v:α} (h:atI xs i = some v):∃ j,seqIndex? i xs.length = some j∧xs[j]? = some v∧j < xs.length ∧ -(xs.length:Int)≤i∧i < xs.length:=by
 unfold atI at h
 cases e:ixN xs.length i with
 | none => rw [e] at h; cases h
 | some j =>
  rw [e] at h
  obtain ⟨h1,h2,h3,h4⟩:=J5 e
  exact ⟨j,h1,h,h2,h3,h4⟩
theorem xy {α:Type} {xs:List α} {j:Nat} {v:α} (h:xs[j]? = some v):atI xs (j:Int) = some v:=by
 have hj:j < xs.length:=(List.getElem?_eq_some_iff.mp h).1
 have e:ixN xs.length (j:Int) = some j:=by
  unfold ixN
  rw [if_pos (by omega),if_pos (by omega)]; simp
 unfold atI; rw [e]; exact h
def KM (b:Expr):Prop:=∀ o i,subscripted b false o i = operate [o,i] (getItem o i)
def IxR (X:Cx) (r:R2):Prop :=
 ∀ (value slice:Expr) (pins:List (Addr × Obj)) (s:Shared) (σ:St) (H:Hp) (x y:V) (v u:Value) (Q:VK),Inv X pins σ H s→RelV x v→RelV y u→r x y H Q →
  subscripted slice false v u = operate [v,u] (getItem v u)→wpAny (model X.prog X.w) X.A (subscriptTail value slice v u) (EP X pins σ Q) X.xe s
def MtR (X:Cx) (id:String) (r:V→List V→Hp→VK→Prop):Prop :=
 ∀ (pins:List (Addr × Obj)) (s:Shared) (σ:St) (H:Hp) (x:V) (xs:List V) (v:Value) (us:List Value) (Q:VK),Inv X pins σ H s→RelV x v→Vals xs us→r x xs H Q →
  wpAny (model X.prog X.w) X.A (call (.builtin id) (v :: us)) (EP X pins σ Q) X.xe s
section
variable {X:Cx} {a b:Expr} {ta tb:TE} {pos:Pos}
theorem IxR.or {r r':R2} (h:IxR X r) (h':IxR X r'):IxR X (fun x y H Q => r x y H Q∨r' x y H Q):=by
 intro value slice pins s σ H x y v u Q I rx ry q hs
 rcases q with q | q
 ·exact h value slice pins s σ H x y v u Q I rx ry q hs
 ·exact h' value slice pins s σ H x y v u Q I rx ry q hs
theorem pe_ix {r:R2} (hr:IxR X r) (ha:PE X a ta) (hb:PE X b tb) (hs:KM b):PE X (.Subscript a b pos) (tOp r ta tb):=by
 intro pins s σ H Q I h
 exact Subscript_ (binT ha hb I h fun v u s2 x y H2 I2 rx ry q => hr a b pins s2 σ H2 x y v u Q I2 rx ry q (hs _ _))
def rIxL (K:PySem.W.Frag):R2:=fun x y H Q => ∃ p xs i v,x = .ref p∧y = .int i∧SqL K H p xs∧atI xs i = some v∧Q v H
def rIxT (K:PySem.W.Frag):R2:=fun x y H Q => ∃ p xs i v,x = .ref p∧y = .int i∧SqT K H p xs∧atI xs i = some v∧Q v H
theorem ix_list:IxR X (rIxL X.K):=by
 intro value slice pins s σ H x y v u Q I rx ry h hs
 obtain ⟨p,xs,i,z,rfl,rfl,hq,he,q⟩:=h
 cases rx
 obtain ⟨t,rfl⟩:=ry
 obtain ⟨its,r,pl,hz⟩:=I.list hq
 obtain ⟨j,h1,h2,h3,h4,h5⟩:=KJ he
 obtain ⟨w,ew,rw'⟩:=r.get h2
 have hl:=r.length
 have hn:=ZB
 have fin:EP X pins σ Q w s:=⟨z,H,I,rw',q⟩
 by_cases h0:0≤i
 ·have hj:i.toNat = j:=by
   rw [seqIndex_of h0 h5] at h1
   exact Option.some.inj h1
  exact item_listR pl.isList h0 (by omega) (by rw [hj]; simpa using ew) fin hs
 ·have hj:(i + (its.toArray.size:Int)).toNat = j:=by
   rw [seqIndex_neg (by omega) h4] at h1
   rw [List.size_toArray, ← hl]
   exact Option.some.inj h1
  exact subscriptTail_builtinR (x:=w) pl.isList.typeIs slot_list_getitem.lookup
   (wpAny_getItem_list_neg (Q:=fun r s' => r = w∧EP X pins σ Q r s') pl.isList (by omega) (by rw [List.size_toArray] <;> omega) (by omega) (by rw [hj]; simpa using ew) ⟨rfl,fin⟩) hs
theorem ix_tup:IxR X (rIxT X.K):=by
 intro value slice pins s σ H x y v u Q I rx ry h hs
 obtain ⟨p,xs,i,z,rfl,rfl,hq,he,q⟩:=h
 cases rx
 obtain ⟨t,rfl⟩:=ry
 obtain ⟨its,r,pl,hz⟩:=I.tuple hq
 obtain ⟨j,h1,h2,h3,h4,h5⟩:=KJ he
 obtain ⟨w,ew,rw'⟩:=r.get h2
 have hl:=r.length
 have hn:=ZB
 have fin:EP X pins σ Q w s:=⟨z,H,I,rw',q⟩
 exact subscriptTail_builtinR (x:=w) pl.typeIs slot_tuple_getitem.lookup
  (getItem_tuple (j:=j) (Q:=fun r s' => r = w∧EP X pins σ Q r s') pl (by omega) (by omega) (by rw [List.size_toArray, ← hl]; exact h1) (by simpa using ew) ⟨rfl,fin⟩) hs
theorem Xz (its:List Value) (n j:Nat) (u:Value):Obj.mapSeq (·.setIfInBounds j u) { cls:=.type "list", data:=.seq its.toArray n } = { cls:=.type "list", data:=.seq (its.set j u).toArray n }:=by
 simp [Obj.mapSeq]
theorem Inv.lst {pins:List (Addr × Obj)} {σ:St} {H:Hp} {s:Shared} {p:Addr} {xs:List V} (I:Inv X pins σ H s) (h:H p = some (.lst xs)) :
  ∃ (its:List Value) (n:Nat),Vals xs its∧s.heap.get? p = some { cls:=.type "list", data:=.seq its.toArray n }∧xs.length≤sizeLine:=by
 obtain ⟨z,its,n,r,e⟩:=I.hok p _ h
 exact ⟨its,n,r,e,z⟩
theorem Inv.lstUpd {pins:List (Addr × Obj)} {σ:St} {H:Hp} {s:Shared} {p:Addr} {xs ys:List V} {its its':List Value} {n n':Nat} {f:Obj→Obj} (I:Inv X pins σ H s) (h:H p = some (.lst xs))
  (ho:s.heap.get? p = some { cls:=.type "list", data:=.seq its.toArray n }) (hf:f { cls:=.type "list", data:=.seq its.toArray n } = { cls:=.type "list", data:=.seq its'.toArray n' }) (r:Vals ys its') (hz:ys.length≤sizeLine) (t:Nat) :
  Inv X pins σ (upd H p (.lst ys)) { s with heap:=s.heap.update p f,toks:=t }:=by
 have e:(s.heap.update p f).get? p = some { cls:=.type "list", data:=.seq its'.toArray n' }:=by
  rw [Heap.get?_update_self f ho (by rw [hf] <;> rfl),hf]
 refine I.write (x:=p) (e:=p) (by rw [h]; trivial) (.inl rfl) (fun b u hb q => (Heap.get?_update_other _ _ (Ne.symm hb)).trans q) ⟨_,e⟩ ?_
 exact ⟨hz,its',n',r,e⟩
def rSetL:V→V→V→Hp→(Hp→Prop)→Prop:=fun o i v H Q => ∃ p xs k j,o = .ref p∧i = .int k∧H p = some (.lst xs)∧ixN xs.length k = some j∧Q (upd H p (.lst (xs.set j v)))
theorem va:PSet X rSetL:=by
 intro pins s σ H o i v ov iv u Q I ro ri rv h
 obtain ⟨p,xs,k,j,rfl,rfl,hp,hj,q⟩:=h
 cases ro
 obtain ⟨t,rfl⟩:=ri
 obtain ⟨its,n,r,ho,hz⟩:=I.lst hp
 obtain ⟨h1,h2,h3,h4⟩:=J5 hj
 have hl:=r.length
 have hn:=ZB
 have I':Inv X pins σ (upd H p (.lst (xs.set j v))) { s with heap:=s.heap.update p (Obj.mapSeq (·.setIfInBounds j u)) } :=
  I.lstUpd hp ho (Xz its n j u) (r.set rv j) (by rw [List.length_set]; exact hz) s.toks
 by_cases h0:0≤k
 ·have hk:k.toNat = j:=by
   rw [seqIndex_of h0 h4] at h1
   exact Option.some.inj h1
  exact PySem.W.ki_setAt ho h0 (by omega) (by rw [List.size_toArray, ← hl]; exact h4) (by rw [hk]; exact ⟨_,I',q⟩)
 ·have hk:(k + (its.toArray.size:Int)).toNat = j:=by
   rw [seqIndex_neg (by omega) h3] at h1
   rw [List.size_toArray, ← hl]
   exact Option.some.inj h1
  exact PySem.W.ki_setBack ho (by omega) (by rw [List.size_toArray, ← hl]; exact h3) (by omega) (by rw [hk]; exact ⟨_,I',q⟩)
theorem Q3 (lo hi:Option Int) (n:Nat):(sliceBounds lo hi none n).1 = ((HT.sIx n 0 lo:Nat):Int)∧(sliceBounds lo hi none n).2.1 = ((HT.sIx n n hi:Nat):Int)∧(sliceBounds lo hi none n).2.2 = 1:=by
 refine ⟨?_, ?_,rfl⟩
 ·cases lo with
  | none => simp [sliceBounds,HT.sIx]
  | some i =>
   simp only [sliceBounds,HT.sIx,Option.getD_none,show (1:Int) > 0 by decide,if_true]
   by_cases h:i < 0
   ·simp only [h,if_true] <;> omega
   ·simp only [h,if_false] <;> omega
 ·cases hi with
  | none => simp [sliceBounds,HT.sIx]
  | some i =>
   simp only [sliceBounds,HT.sIx,Option.getD_none,show (1:Int) > 0 by decide,if_true]
   by_cases h:i < 0
   ·simp only [h,if_true] <;> omega
   ·simp only [h,if_false] <;> omega
theorem Qh (its:List Value) (lo hi:Option Int):slicePick its.toArray lo hi none = ((its.drop (HT.sIx its.length 0 lo)).take (HT.sIx its.length its.length hi - HT.sIx its.length 0 lo)).toArray:=by
 obtain ⟨h1,h2,h3⟩:=Q3 lo hi its.toArray.size
 unfold slicePick
 rw [h1,h2,h3]
 simp only [sliceRange_one,pick_run,List.size_toArray] <;> rfl
def rSlL (K:PySem.W.Frag):V→Option Int→Option Int→Hp→VK→Prop:=fun x lo hi H Q => ∃ a xs,x = .ref a∧SqL K H a xs∧∀ p,H p = none→Q (.ref p) (upd H p (.lst (cutV xs lo hi)))
theorem sl_list:SlR X (rSlL X.K):=by
 intro pins s σ H x v vl vu lo hi sl Q I rx hs pl pu h
 obtain ⟨a,xs,rfl,hx,q⟩:=h
 cases rx
 obtain ⟨its,r,ht,hz⟩:=I.list hx
 have hlen:=r.length
 refine ⟨"list", _,slot_list_getitem.lookup,ht.isList.typeIs, ?_⟩
 refine wpAny_getItem_list_slice ht.isList hs pl pu .none (by simp) ?_ (by rw [List.size_toArray] <;> omega)
 rw [Qh, ← hlen]
 refine ⟨.ref s.heap.objs.size,_,I.laid (t':=s.toks) (o:=.lst (cutV xs lo hi)) (fun b ob q => Heap.get?_push_of_some _ q) (Nat.le_refl _) ?_,rfl,q _ (I.hok.fresh (Nat.le_refl _))⟩
 exact ⟨Nat.le_trans (V7 xs lo hi) hz,_,0,(r.drop (HT.sIx xs.length 0 lo)).take (HT.sIx xs.length xs.length hi - HT.sIx xs.length 0 lo),Heap.get?_push_size _ rfl⟩
def j4:V→Bool
 | .non => true
 | .bl _ => true
 | .int _ => true
 | .str _ => true
 | _ => false
def eqV:V→V→Bool
 | .non, .non => true
 | .bl a, .bl b => a == b
 | .bl a, .int b => (if a then 1 else 0) == b
 | .int a, .bl b => a == (if b then 1 else 0)
 | .int a, .int b => a == b
 | .str a, .str b => a == b
 | _,_ => false
theorem eqAt_V {A:Around} {s:Shared} {y x:V} {u v:Value} (ry:RelV y u) (rx:RelV x v) (fy:j4 y = true) (fx:j4 x = true):SeqAt.EqAt A s u v (eqV y x):=by
 cases y with
 | non =>
  cases ry
  cases x with
  | non => cases rx; exact SeqAt.EqAt.same _
  | bl b => cases rx; exact SeqAt.EqAt.none_bool b
  | int b => obtain ⟨t,rfl⟩:=rx; exact SeqAt.EqAt.none_int b t
  | str b => obtain ⟨t,rfl⟩:=rx; exact SeqAt.EqAt.none_str b t
  | _ => exact absurd (show false = true from fx) Bool.false_ne_true
 | bl a =>
  cases ry
  cases x with
  | non => cases rx; exact SeqAt.EqAt.bool_none a
  | bl b => cases rx; exact SeqAt.EqAt.bool_bool a b
  | int b => obtain ⟨t,rfl⟩:=rx; exact SeqAt.EqAt.bool_int a b t
  | str b => obtain ⟨t,rfl⟩:=rx; exact SeqAt.EqAt.bool_str a b t
  | _ => exact absurd (show false = true from fx) Bool.false_ne_true
 | int a =>
  obtain ⟨t',rfl⟩:=ry
  cases x with
  | non => cases rx; exact SeqAt.EqAt.int_none a t'
  | bl b => cases rx; exact SeqAt.EqAt.int_bool a t' b
  | int b => obtain ⟨t,rfl⟩:=rx; exact SeqAt.EqAt.int_int a t' b t
  | str b => obtain ⟨t,rfl⟩:=rx; exact SeqAt.EqAt.int_str a t' b t
  | _ => exact absurd (show false = true from fx) Bool.false_ne_true
 | str a =>
  obtain ⟨t',rfl⟩:=ry
  cases x with
  | non => cases rx; exact SeqAt.EqAt.str_none a t'
  | bl b => cases rx; exact SeqAt.EqAt.str_bool a t' b
  | int b => obtain ⟨t,rfl⟩:=rx; exact SeqAt.EqAt.str_int a t' b t
  | str b => obtain ⟨t,rfl⟩:=rx; exact SeqAt.EqAt.str_str a t' b t
  | _ => exact absurd (show false = true from fx) Bool.false_ne_true
 | _ => exact absurd (show false = true from fy) Bool.false_ne_true
def eqU (x:V) (u:Value):Bool:=match u with
 | .none => eqV .non x
 | .bool b => eqV (.bl b) x
 | .int i _ => eqV (.int i) x
 | .str z _ => eqV (.str z) x
 | _ => false
theorem eqU_of {x y:V} {u:Value} (r:RelV y u) (f:j4 y = true):eqU x u = eqV y x:=by
 cases y with
 | non => cases r; rfl
 | bl b => cases r; rfl
 | int i => obtain ⟨t,rfl⟩:=r; rfl
 | str z => obtain ⟨t,rfl⟩:=r; rfl
 | _ => exact absurd (show false = true from f) Bool.false_ne_true
theorem Ze {x:V}:∀ {xs:List V} {us:List Value},Vals xs us→xs.all j4 = true→us.any (eqU x) = xs.any fun y => eqV y x
 | _,_, .nil,_ => rfl
 | y :: xs,u :: us, .cons r t,f => by
  rw [List.all_cons,Bool.and_eq_true] at f
  rw [List.any_cons,List.any_cons,eqU_of r f.1,Ze t f.2]
theorem Qr {A:Around} {s:Shared} {x:V} {v:Value} (rx:RelV x v) (fx:j4 x = true):∀ {xs:List V} {us:List Value},Vals xs us→xs.all j4 = true→∀ u ∈ us,SeqAt.EqAt A s u v (eqU x u)
 | _,_, .nil,_ => fun u hu => by cases hu
 | y :: xs,u :: us, .cons r t,f => fun u' hu => by
  rw [List.all_cons,Bool.and_eq_true] at f
  rcases List.mem_cons.mp hu with rfl | hu
  ·rw [eqU_of r f.1]; exact eqAt_V r rx f.1 fx
  ·exact Qr rx fx t f.2 u' hu
def inV (x:V) (xs:List V):Bool:=xs.any fun y => eqV y x
def rIn (K:PySem.W.Frag) (neg:Bool):R2:=fun x y H Q => ∃ p xs,y = .ref p∧(SqL K H p xs∨SqT K H p xs)∧j4 x = true∧xs.all j4 = true∧Q (.bl (if neg then !inV x xs else inV x xs)) H
theorem Jz:OpR X (compareOp .In) (rIn X.K false):=by
 intro pins s σ H x y v u Q I rx ry h
 obtain ⟨p,xs,rfl,hq,fx,fs,q⟩:=h
 cases ry
 rcases hq with hq | hq
 ·obtain ⟨its,r,pl,hz⟩:=I.list hq
  refine SeqAt.in_listAt (eqU x) pl.isList (fun w hw => Qr rx fx r fs w (by simpa using hw)) ⟨.bl _,H,I,rfl, ?_⟩
  rw [show its.toArray.any (eqU x) = its.any (eqU x) by simp,Ze r fs]
  exact q
 ·obtain ⟨its,r,pl,hz⟩:=I.tuple hq
  refine SeqAt.in_tupleAt (eqU x) pl (fun w hw => Qr rx fx r fs w (by simpa using hw)) ⟨.bl _,H,I,rfl, ?_⟩
  rw [show its.toArray.any (eqU x) = its.any (eqU x) by simp,Ze r fs]
  exact q
theorem jZ:xz X (.builtin "len") (fun xs H Q => ∃ p ys,xs = [.ref p]∧(SqL X.K H p ys∨SqT X.K H p ys)∧Q (.int ys.length) H):=by
 intro pins s σ H xs us Q I r h
 obtain ⟨p,ys,rfl,hq,q⟩:=h
 obtain ⟨u,rfl,rx⟩:=Z9 r
 cases rx
 have hn:=ZB
 rcases hq with hq | hq
 ·obtain ⟨its,r',pl,hz⟩:=I.list hq
  have hlen:=r'.length
  exact Calls.call_len_list pl.isList (by simp only [List.size_toArray] <;> omega) ⟨.int ys.length,H,I.tok _,⟨s.toks + 1,by rw [List.size_toArray,hlen]⟩,q⟩
 ·obtain ⟨its,r',pl,hz⟩:=I.tuple hq
  have hlen:=r'.length
  exact len_tuple pl (by simp only [List.size_toArray] <;> omega) ⟨.int ys.length,H,I.tok _,⟨s.toks + 1,by rw [List.size_toArray,hlen]⟩,q⟩
theorem jY:xz X (.type "list") (fun xs H Q => ∃ p ys,xs = [.ref p]∧(SqL X.K H p ys∨SqT X.K H p ys)∧∀ l,H l = none→Q (.ref l) (upd H l (.lst ys))):=by
 intro pins s σ H xs us Q I r h
 obtain ⟨p,ys,rfl,hq,q⟩:=h
 obtain ⟨u,rfl,rx⟩:=Z9 r
 cases rx
 have fin:∀ (its:List Value),Vals ys its→ys.length≤sizeLine→∀ (h':Heap) (c':Nat),(∀ b o',s.heap.get? b = some o'→h'.get? b = some o') →
   h'.get? s.heap.objs.size = some { cls:=.type "list", dict:=none,data:=.seq its.toArray c',slots:=#[] }→EP X pins σ Q (.ref s.heap.objs.size) { s with heap:=h' }:=fun its r' hz h' c' kp e =>
  ⟨.ref s.heap.objs.size,_,I.laid (t':=s.toks) kp (Nat.le_refl _) (show ObjOk X.prog X.w _ h' _ (.lst ys) from ⟨hz,its,c',r',e⟩),rfl,q _ (I.hok.fresh (Nat.le_refl _))⟩
 rcases hq with hq | hq
 ·obtain ⟨its,r',pl,hz⟩:=I.list hq
  have hlen:=r'.length
  obtain ⟨o,ho,hc,n,hd⟩:=pl.isList
  exact call_list_seq p (.inl rfl) ho hc hd (fun h' c' kp e => fin its r' hz h' c' kp e) (by simp only [List.size_toArray] <;> omega)
 ·obtain ⟨its,r',pl,hz⟩:=I.tuple hq
  have hlen:=r'.length
  obtain ⟨o,ho,hc,n,hd⟩:=pl
  exact call_list_seq p (.inr rfl) ho hc hd (fun h' c' kp e => fin its r' hz h' c' kp e) (by simp only [List.size_toArray] <;> omega)
def tyV (K:PySem.W.Frag) (T:String) (x:V) (H:Hp):Prop:=match x with
 | .str _ => T = "str"
 | .int _ => T = "int"
 | .ref p => (T = "list" ∧ ∃ xs,SqL K H p xs)∨(T = "tuple" ∧ ∃ o,K.lookup p = some o∧o.cls = .type "tuple" ∧ o.dict = none) ∨
   (T = "dict" ∧ ((∃ kvs,H p = some (.dK kvs))∨∃ kvs,H p = some (.dT kvs)))∨(T = "set" ∧ ∃ S n,H p = some (.set S n))
 | _ => False
theorem tyV_is {pins:List (Addr × Obj)} {σ:St} {H:Hp} {s:Shared} {T:String} {x:V} {v:Value} (I:Inv X pins σ H s) (r:RelV x v) (ty:tyV X.K T x H) :
  s.TypeIs v T∧∀ a,v = .ref a→∃ ob,s.heap.get? a = some ob∧ob.dict = none:=by
 cases x with
 | str z =>
  obtain ⟨t,rfl⟩:=r
  cases (show T = "str" from ty)
  exact ⟨typeIs_str s z t,fun _ e => nomatch e⟩
 | int i =>
  obtain ⟨t,rfl⟩:=r
  cases (show T = "int" from ty)
  exact ⟨typeIs_int s i t,fun _ e => nomatch e⟩
 | ref p =>
  cases r
  rcases ty with ⟨rfl,xs,hq⟩ | ⟨rfl,o,hk,hc,hd⟩ | ⟨rfl,hk⟩ | ⟨rfl,S,n,hk⟩
  ·obtain ⟨its,_,pl,_⟩:=I.list hq
   refine ⟨pl.isList.typeIs,fun a e => ?_⟩
   cases e
   obtain ⟨o,n,e,c,hd,_⟩:=pl
   exact ⟨o,e,hd⟩
  ·refine ⟨⟨o,I.kIn p o hk,hc⟩,fun a e => ?_⟩
   cases e
   exact ⟨o,I.kIn _ o hk,hd⟩
  ·have z:∃ o,s.heap.get? p = some o∧o.ExactDict:=by
    rcases hk with ⟨kvs,hk⟩ | ⟨kvs,hk⟩
    ·obtain ⟨_,_,_,_,o,_,_,e,ex,_⟩:=I.hok p _ hk
     exact ⟨o,e,ex⟩
    ·obtain ⟨_,_,_,_,o,_,_,e,ex,_⟩:=I.hok p _ hk
     exact ⟨o,e,ex⟩
   obtain ⟨o,e,ex⟩:=z
   refine ⟨⟨o,e,ex.1⟩,fun a e2 => ?_⟩
   cases e2
   exact ⟨o,e,ex.2.1⟩
  ·obtain ⟨o,_,_,_,e,ex,_⟩:=I.hok p _ hk
   refine ⟨⟨o,e,ex.1⟩,fun a e2 => ?_⟩
   cases e2
   exact ⟨o,e,ex.2.1⟩
 | _ => exact False.elim ty
def tBM0 (K:PySem.W.Frag) (T:String) (r:V→List V→Hp→VK→Prop) (to:TE):TE:=fun σ H Q => to σ H fun x H1 => tyV K T x H1∧r x [] H1 Q
def tBM (K:PySem.W.Frag) (T:String) (r:V→List V→Hp→VK→Prop) (to:TE) (t:TA):TE:=fun σ H Q => to σ H fun x H1 => tyV K T x H1∧t σ H1 fun xs H2 => r x xs H2 Q
end
def MtM (X:Cx) (id:String) (r:V→List V→Hp→VK→Prop):Prop :=
 ∀ (pins:List (Addr × Obj)) (s:Shared) (σ:St) (H:Hp) (x:V) (xs:List V) (v:Value) (us:List Value) (Q:VK),Inv X pins σ H s→RelV x v→Vals xs us→r x xs H Q →
  wpAny (model X.prog X.w) X.A (call (.builtin id) (v :: us)) (EP X pins σ Q) X.xe s
theorem Vals.one:∀ {x:V} {us:List Value},Vals [x] us→∃ u,us = [u]∧RelV x u
 | _,_, .cons r .nil => ⟨_,rfl,r⟩
theorem Vals.rep {xs:List V} {us:List Value} (h:Vals xs us):∀ k:Nat,Vals (List.replicate k xs).flatten (List.replicate k us).flatten
 | 0 => .nil
 | k + 1 => by
  rw [List.replicate_succ,List.replicate_succ,List.flatten_cons,List.flatten_cons]
  exact Vals.append h (Vals.rep h k)
theorem Vi (its:List Value):∀ (k:Nat) (acc:List Value),
  List.foldl (fun x1 x2 => x1 ++ x2) acc.toArray (List.replicate k its.toArray) = (acc ++ (List.replicate k its).flatten).toArray
 | 0,acc => by simp
 | k + 1,acc => by
  have e:acc.toArray ++ its.toArray = (acc ++ its).toArray:=by simp
  have e2:(acc ++ its) ++ (List.replicate k its).flatten = acc ++ (List.replicate (k + 1) its).flatten:=by
   rw [List.replicate_succ,List.flatten_cons,List.append_assoc]
  rw [← e2, ← Vi its k (acc ++ its), ← e,List.replicate_succ,List.foldl_cons]
section
variable {X:Cx} {pins:List (Addr × Obj)} {σ:St} {H:Hp} {s:Shared} {l:Addr} {xs ys:List V}
theorem Inv.lset {its its':List Value} {n:Nat} {f:Array Value→Array Value} {t':Nat} (I:Inv X pins σ H s) (hH:H l = some (.lst xs))
  (e:s.heap.get? l = some { cls:=.type "list", data:=.seq its.toArray n }) (hf:f its.toArray = its'.toArray) (hv:Vals ys its') (hz:ys.length≤sizeLine) :
  Inv X pins σ (upd H l (.lst ys)) { s with heap:=s.heap.update l (Obj.mapSeq f),toks:=t' }:=by
 have q:=PySem.IsL.update e f
 rw [hf] at q
 refine I.write (x:=l) (e:=l) (by rw [hH]; exact trivial) (.inl rfl) (fun b' u hb hu => (Heap.get?_update_other s.heap (Obj.mapSeq f) (Ne.symm hb)).trans hu) ⟨_,q⟩ ?_
 exact ⟨hz,its',_,hv,q⟩
theorem Inv.lnew {its:List Value} {t':Nat} (I:Inv X pins σ H s) (hv:Vals ys its) (hz:ys.length≤sizeLine) :
  Inv X pins σ (upd H s.heap.objs.size (.lst ys)) { s with heap:=s.heap.push { cls:=.type "list", data:=.seq its.toArray },toks:=t' } :=
 I.laid (fun _ _ q => Heap.get?_push_of_some _ q) (Nat.le_refl _) ⟨hz,its,0,hv,Heap.get?_push_size _ rfl⟩
theorem Inv.fresh (I:Inv X pins σ H s):H s.heap.objs.size = none:=I.hok.fresh (Nat.le_refl _)
theorem Inv.lstM (I:Inv X pins σ H s) (hH:H l = some (.lst xs)):xs.length≤sizeLine∧∃ (its:List Value) (n:Nat),Vals xs its∧xs.length = its.length∧s.heap.get? l = some { cls:=.type "list", data:=.seq its.toArray n }:=by
 obtain ⟨z,its,n,r,e⟩:=I.hok l _ hH
 exact ⟨z,its,n,r,r.length,e⟩
theorem Zw {n:Nat} (h:n≤sizeLine):Builtin.List.listTooLong n = false:=by
 unfold Builtin.List.listTooLong
 exact decide_eq_false (by omega)
end
section
variable {X:Cx}
def VG:V→List V→Hp→VK→Prop:=fun x vs H Q => ∃ l xs y,x = .ref l∧vs = [y]∧H l = some (.lst xs)∧xs.length < sizeLine∧Q .non (upd H l (.lst (xs ++ [y])))
theorem jn:MtM X "list.append" VG:=by
 intro pins s σ H x vs v us Q I rx rv h
 obtain ⟨l,xs,y,rfl,rfl,hH,hz,q⟩:=h
 cases rx
 obtain ⟨u,rfl,ru⟩:=rv.one
 obtain ⟨z,its,n,r,hl,e⟩:=I.lstM hH
 refine call_meets F.slot_list_append ⟨_,e,rfl⟩ F.entry_list_append (F.args_list_append_2 _ _) (PySem.list_append l its.toArray n u (by rw [List.size_toArray]; omega)) ⟨e, ?_⟩
 refine ⟨.non,_,I.lset (its':=its ++ [u]) hH e (by simp) (r.append (.cons ru .nil)) ?_,rfl,q⟩
 rw [List.length_append,List.length_singleton]
 omega
def rExtend:V→List V→Hp→VK→Prop:=fun x vs H Q => ∃ l b xs zs,x = .ref l∧vs = [.ref b]∧H l = some (.lst xs)∧H b = some (.lst zs)∧xs.length + zs.length≤sizeLine∧Q .non (upd H l (.lst (xs ++ zs)))
theorem mt_extend:MtM X "list.extend" rExtend:=by
 intro pins s σ H x vs v us Q I rx rv h
 obtain ⟨l,b,xs,zs,rfl,rfl,hH,hB,hz,q⟩:=h
 cases rx
 obtain ⟨u,rfl,ru⟩:=rv.one
 cases ru
 obtain ⟨z,its,n,r,hl,e⟩:=I.lstM hH
 obtain ⟨z2,its2,n2,r2,hl2,e2⟩:=I.lstM hB
 have hsz:its.toArray.size + its2.toArray.size≤sizeLine:=by rw [List.size_toArray,List.size_toArray]; omega
 have hlong:¬ (!its.toArray.isEmpty && Builtin.List.listTooLong (its.toArray.size + its2.toArray.size)) = true:=by
  rw [Zw hsz,Bool.and_false]
  exact Bool.false_ne_true
 refine call_meets F.slot_list_extend ⟨_,e,rfl⟩ F.entry_list_extend (F.args_list_extend_2 _ _)
  (AutoSeq1.list_extend_list_list_0 l its.toArray n b its2.toArray n2 hlong (by rw [List.size_toArray]; omega) (by omega)) ⟨e,e2, ?_⟩
 refine ⟨.non,_,I.lset (its':=its ++ its2) hH e (by simp) (r.append r2) ?_,rfl,q⟩
 rw [List.length_append]
 omega
def rCat:R2:=fun x y H Q => ∃ l b xs zs,x = .ref l∧y = .ref b∧H l = some (.lst xs)∧H b = some (.lst zs)∧xs.length + zs.length≤sizeLine∧∀ p,H p = none→Q (.ref p) (upd H p (.lst (xs ++ zs)))
theorem JA:OpR X (binaryOp .Add) rCat:=by
 intro pins s σ H x y v u Q I rx ry h
 obtain ⟨l,b,xs,zs,rfl,rfl,hH,hB,hz,q⟩:=h
 cases rx
 cases ry
 obtain ⟨z,its,n,r,hl,e⟩:=I.lstM hH
 obtain ⟨z2,its2,n2,r2,hl2,e2⟩:=I.lstM hB
 refine PySem.P.add_list e e2 ?_ (by rw [List.size_toArray,List.size_toArray]; omega)
 have ea:its.toArray ++ its2.toArray = (its ++ its2).toArray:=by simp
 rw [ea]
 exact ⟨.ref _,_,I.lnew (t':=s.toks) (r.append r2) (by rw [List.length_append]; omega),rfl,q _ I.fresh⟩
def rRep:R2:=fun x y H Q => ∃ l k xs,x = .ref l∧y = .int k∧H l = some (.lst xs) ∧ -(2 ^ 63)≤k∧k < 2 ^ 63∧xs.length * k.toNat≤sizeLine ∧
 ∀ p,H p = none→Q (.ref p) (upd H p (.lst (List.replicate k.toNat xs).flatten))
theorem len_rep {α:Type} (xs:List α) (k:Nat):(List.replicate k xs).flatten.length = k * xs.length:=by
 induction k with
 | zero => simp
 | succ k ih => rw [List.replicate_succ,List.flatten_cons,List.length_append,ih,Nat.succ_mul,Nat.add_comm]
theorem op_rep:OpR X (binaryOp .Mult) rRep:=by
 intro pins s σ H x y v u Q I rx ry h
 obtain ⟨l,k,xs,rfl,rfl,hH,h1,h2,hz,q⟩:=h
 cases rx
 obtain ⟨t,rfl⟩:=ry
 obtain ⟨z,its,n,r,hl,e⟩:=I.lstM hH
 have hlen:its.toArray.size * k.toNat≤sizeLine:=by rw [List.size_toArray, ← hl]; exact hz
 have hcap:¬ its.toArray.size * k.toNat > (2 ^ 63 - 1) / 8:=by
  have:(sizeLine:Nat)≤(2 ^ 63 - 1) / 8:=by decide
  omega
 have hfit:¬ (!Builtin.List.listFitsIndex k) = true:=by
  rw [fitsIndex_both h1 h2]
  exact Bool.false_ne_true
 have hlong:¬ Builtin.List.listTooLong (its.toArray.size * k.toNat) = true:=by
  rw [Zw hlen]
  exact Bool.false_ne_true
 have hnew:List.foldl (fun x1 x2 => x1 ++ x2) #[] (List.replicate (if its.toArray.isEmpty = true then 0 else k.toNat) its.toArray) = (List.replicate k.toNat its).flatten.toArray:=by
  have f0:∀ m:Nat,List.foldl (fun x1 x2 => x1 ++ x2) #[] (List.replicate m its.toArray) = (List.replicate m its).flatten.toArray:=fun m => by
   have:=Vi its m []
   rw [List.nil_append] at this
   exact this
  rw [f0]
  cases its with
  | nil => simp
  | cons a r' => rw [if_neg (by simp)]
 refine wpAny_binaryOp_repeat_ref (T := "list") (U := "int") (by decide) ⟨_,e,rfl⟩ (fun s' => typeIs_int s' k t) noFill_list_mul F.fills_int_mul F.slot_int_rmul repeat_list F.slot_int_index.lookup
  (call_meets F.slot_int_rmul (typeIs_int s k t) F.entry_int_rmul (F.args_int_rmul_2 _ _) (int___rmul___int_list k t l its.toArray n)
   ⟨e,rfl,⟨_,e,rfl⟩,call_meets F.slot_list_mul ⟨_,e,rfl⟩ F.entry_list_mul (F.args_list_mul_2 _ _) (AutoListH.list___mul___list_int_3 l its.toArray n k t hfit hcap hlong) ⟨e, ?_⟩⟩)
 rw [hnew]
 exact ⟨.ref _,_,I.lnew (t':=s.toks) (r.rep k.toNat) (by rw [len_rep,Nat.mul_comm]; exact hz),rfl,q _ I.fresh⟩
end
end L2
namespace Att
open PySem PySem.W PySem.Calls PyProof.Rows
theorem ky {P:Params} {h:Heap}:∀ (ns:List Int) (vs:List Value),WellAll P h vs (ns.map WData.int)→IntsAre vs ns:=by
 intro ns
 induction ns with
 | nil =>
  intro vs w
  rw [List.map_nil] at w
  cases w
  exact .nil
 | cons n ns ih =>
  intro vs w
  rw [List.map_cons] at w
  cases w with
  | cons a b =>
   cases a
   exact .cons _ _ (ih _ b)
theorem X7 {l:OpenLaw} {n:Nat} (hn:l.most = some n) {P:Params} {h:Heap} {args:List WData} {vals:List Value}
  (hpre:l.row.toRowW.claim.pre args = true) (hwl:WellAll P h vals args) :
  ∃ a vs ns,vals = [Value.ref a]∧args = [WData.list (ns.map WData.int)]∧h.get? a = some { cls:=.type "list", data:=.seq vs.toArray }∧IntsAre vs ns∧ns.length≤n:=by
 have hsh:WShape.hasAll [] args [.list .int] = true:=(pre_splitW hpre).1
 have hc:l.pre.holds [] { args:=args } = true:=(pre_splitW hpre).2
 obtain ⟨d,r,rfl,h1,h2⟩:=hasAllW_cons hsh
 obtain rfl:=hasAllW_nil h2
 obtain ⟨xs,rfl,h3⟩:=hasW_list h1
 obtain ⟨ns,rfl⟩:=items_int h3
 have hlen:ns.length≤n:=by
  unfold OpenLaw.pre at hc
  have h4:(WTm.not (.lt (.lit (.int (n:Int))) (.len (.arg 0)))).holds [] { args:=[.list (ns.map .int)] } = true:=by
   have h4:=(holds_andW hc).1
   rw [hn] at h4
   exact h4
  have h5:=condW_of h4 (w_not (w_lt w_lit (w_len_list (w_arg rfl))))
  rw [List.length_map] at h5
  refine Nat.le_of_not_lt fun q => ?_
  have q':(n:Int) < ((ns.length:Nat):Int):=by omega
  first
   | (rw [decide_eq_true q'] at h5; exact absurd h5 (by decide))
   | (simp at h5; omega)
 cases hwl with
 | cons w1 w2 =>
  cases w2
  cases w1 with
  | list ho hall => exact ⟨_,_,ns,rfl,rfl,ho,ky ns _ hall,hlen⟩
theorem Jp (l:OpenLaw) (args:List WData):l.row.toRowW.claim.post args (.bool true) args = true :=
 postW_of (r:=l.row.toRowW) (X:=(true == true))
  (show WShape.has [] (.bool true) .bool = true by first | rfl | decide | simp [WShape.has,WShape.arms,WShape.armsAll])
  (show (WTm.eq .res (.lit (.bool true))).value [] { args:=args,res:=some (.bool true),after:=args } = some (.bool (true == true)) from w_eq_bool (w_res rfl) w_lit) rfl
theorem attach_call {l:OpenLaw} {n:Nat} {q:Program} {loose:List Str} {XP:(Str→Option Value)→Heap→Prop} {YP:World→Heap→Prop} {d:DefRec}
  (hn:l.most = some n) (hdf:d.params.defaults = [])
  (call:∀ (w:World) (s₀ s₁:Shared) (mg mb:Str→Option Value) (fa:Addr) (o:Obj) (pm cd doc:Value) (a:Addr) (vs:List Value) (ns:List Int),
   Ground q loose [] XP w s₀ mg mb s₁.heap→YP w s₁.heap →
   s₁.heap.get? fa = some o→o.data = .func (docDef d.name d.params d.body d.scope pm cd doc)→s₁.heap.CodeRec cd d.name→mg d.name = some (.ref fa) →
   s₁.heap.get? a = some { cls:=.type "list", data:=.seq vs.toArray }→IntsAre vs ns→ns.length≤n→s₁.gens = #[] →
   codeAny (model l.prog w) callerA (.call (.ref fa) ⟨[.ref a], []⟩) (fun r s' => r = .ok (.ret (.bool true))∧OldK s₁.heap s'.heap∧s'.os = s₁.os∧AllBare s'.gens) s₁) :
  WalkO q loose XP YP l.row.toRowW d [] (fun f vs => PySem.call f vs):=by
 intro w s₀ s₁ mg mb G Y fa o pm cd doc dV kV ho hd hcd hD hmg hg args vals as hpre hlay hrd hwl hlo
 obtain rfl:dV = .none:=Dflts.none hD hdf
 obtain rfl:kV = .none:=Dflts.noKw hD
 obtain ⟨a,vs,ns,rfl,rfl,hobj,hints,hlen⟩:=X7 hn hpre hwl
 refine enter_call (codeAny_mono (call w s₀ s₁ mg mb fa o pm cd doc a vs ns G Y ho (fd_plain hd) hcd hmg hobj hints hlen hg) fun r s' hq => ?_)
 obtain ⟨rfl,h2,h3,h4⟩:=hq
 exact ⟨.inl ⟨.bool true, .bool true, [],rfl,fun _ => rfl, .bool true,Jp l _,fun _ => ⟨List.Pairwise.nil,fun _ hm => (nomatch hm)⟩⟩,h2,h3,h4⟩
end Att
namespace L2
open PySem PySem.Spec PyProof.Rows
theorem QM:∀ {vs:List Value} {ns:List Int},IntsAre vs ns→Vals (ns.map V.int) vs
 | _,_, .nil => .nil
 | _,_, .cons n t h => .cons ⟨t,rfl⟩ (QM h)
def Only (H:Hp):Prop:=∀ b,H b = none∨∃ o xs,H b = some (.frz o (.lst xs))
theorem law_call {P:Program} {w:World} {K:PySem.W.Frag} {mg mb:Str→Option Value} {CX:CXT} {k:Nat} {fa a:Addr} {fd:FuncData} {x:Str} {sp:Sp} {s₁:Shared} {vs:List Value} {ns:List Int}
  (KX:K.In s₁.heap) (hns:s₁.heap.Ns mainGlobals mg) (hb:s₁.heap.Ns builtinsNs mb) (hbb:∀ x:Str,x ≠ "__name__" → mb x = bootBuiltins x) (hlim:s₁.heap.NoLimit) (hg:s₁.gens = #[])
  (ha:s₁.heap.get? a = some { cls:=.type "list", data:=.seq vs.toArray }) (hi:IntsAre vs ns) (hl:ns.length≤sizeLine) (hr:Room k callerA)
  (F:∀ base:Heap,K.In base→base.Ns mainGlobals mg→FnOk P w K mg base CX k fa fd [x] sp) (hbind:∀ (s:Shared) (u:Value),BindsTo s fd ⟨[u], []⟩ [(x,u)])
  (hsp:∀ H:Hp,Only H→SqL K H a (ns.map V.int)→sp [.ref a] H (fun v _ => v = .bl true) fun _ _ _ => False)
  (hCX:∀ H e s',CX [] H s₁ (fun _ _ _ => False) e s'→False) :
  codeAny (model P w) callerA (.call (.ref fa) ⟨[.ref a], []⟩) (fun r s' => r = .ok (.ret (.bool true))∧OldK s₁.heap s'.heap∧s'.os = s₁.os∧AllBare s'.gens) s₁:=by
 have rv:=QM hi
 have lenV:=hi.length
 -- from an abstract heap in which nothing but the script may be tracked
 have core:∀ H:Hp,Only H→SqL K H a (ns.map V.int)→HOk P w H s₁.heap→(∀ b,H b≠none→b = a)→(H a≠none→K.lookup a = none) →
   codeAny (model P w) callerA (.call (.ref fa) ⟨[.ref a], []⟩) (fun r s' => r = .ok (.ret (.bool true))∧OldK s₁.heap s'.heap∧s'.os = s₁.os∧AllBare s'.gens) s₁:=by
  intro H hO hS hok hA hK
  have base_of:∀ {b:Addr} {o:Obj},s₁.heap.get? b = some o→H b = none→(hidT s₁.heap H).get? b = some o:=fun e n => hidT_get e n
  have noA:∀ {b:Addr} {o:Obj} {es:Array DictEntry} {ep:Nat},s₁.heap.get? b = some o→o.data = .dict es ep→H b = none:=fun {b o es ep} e d => by
   cases q:H b with
   | none => rfl
   | some u =>
    have e':b = a:=hA b (by rw [q]; simp)
    subst e'
    rw [ha] at e; cases e
    have d':Data.seq vs.toArray _ = Data.dict es ep:=d
    cases d'
  have nsK:∀ {b:Addr} {m:Str→Option Value},s₁.heap.Ns b m→(hidT s₁.heap H).Ns b m:=fun {b m} ⟨o,es,ep,e,d,r⟩ => ⟨o,es,ep,base_of e (noA e d),d,r⟩
  have hKb:K.In (hidT s₁.heap H):=fun b o e => base_of (KX b o e) (by
   cases q:H b with
   | none => rfl
   | some u =>
    have e':b = a:=hA b (by rw [q]; simp)
    subst e'
    rw [hK (by rw [q]; simp)] at e; cases e)
  have hM:Mod K mg (hidT s₁.heap H):=⟨hKb,nsK hns,⟨mb,nsK hb,hbb⟩,let ⟨mc,h1,h2⟩:=hlim; ⟨mc,nsK h1,h2⟩⟩
  have e0:Env0 P w K mg (hidT s₁.heap H) callerA [] s₁ H:=⟨rfl,hM,fun b o e => of_hidT e,Nat.le_of_eq (Kb _ _),trivial,fun b hb => absurd (show b ∈ ([]:List Addr) from hb) (by simp),hok, .of_eq hg⟩
  refine codeAny_mono ((F _ hKb (nsK hns)).run callerA [] s₁ H ⟨[.ref a], []⟩ [.ref a] [.ref a] _ _ hr e0 (hbind s₁ (.ref a)) (.cons rfl .nil) (hsp H hO hS)) fun r s' h => ?_
  cases r with
  | error e => exact (hCX H e s' h).elim
  | ok fl =>
   cases fl with
   | next => exact False.elim h
   | brk => exact False.elim h
   | cont => exact False.elim h
   | ret u =>
    obtain ⟨v,H',os,bare,un,hok',r',q⟩:=h
    have q':v = .bl true:=q
    subst q'
    obtain rfl:u = Value.bool true:=r'
    refine ⟨rfl,OldK.of_keep fun b o e => ?_,os,bare⟩
    cases q:H b with
    | none => exact un.keep b o e q (by intro z; exact absurd (show b ∈ ([]:List Addr) from z) (by simp)) (by simp)
    | some u =>
     rcases hO b with z | ⟨ob,xs,z⟩
     ·rw [q] at z; cases z
     ·have z2:=un.frzs b ob _ z
      obtain ⟨e1,_⟩:=hok b _ z
      obtain ⟨e2,_⟩:=hok' b _ z2
      rw [e] at e1; cases e1
      exact e2
 cases hk:K.lookup a with
 | some o =>
  -- the script is one of the module's own objects
  have e:=KX a o hk
  rw [ha] at e
  cases e
  refine core (fun _ => none) (fun _ => .inl rfl) (.inr ⟨_,vs.toArray,_,hk,rfl,rfl,rfl,by rw [List.size_toArray,lenV]; exact hl,by simpa using rv⟩) (fun b u z => by have z':(none:Option HO) = some u:=z; cases z') (fun b z => absurd rfl z) fun z => absurd rfl z
 | none =>
  refine core (fun b => if b = a then some (.frz { cls:=.type "list", data:=.seq vs.toArray } (.lst (ns.map V.int))) else none) (fun b => ?_) (.inl (.inr ⟨{ cls:=.type "list", data:=.seq vs.toArray },if_pos rfl⟩)) (fun b u z => ?_) (fun b z => ?_) fun _ => hk
  ·by_cases hb:b = a
   ·exact .inr ⟨_,_,if_pos hb⟩
   ·exact .inl (if_neg hb)
  ·by_cases hb:b = a
   ·have z':=(if_pos hb).symm.trans z
    cases z'
    subst hb
    exact ⟨ha,by rw [List.length_map]; exact hl,vs,_,rv,ha⟩
   ·have z':=(if_neg hb).symm.trans z
    cases z'
  ·by_cases hb:b = a
   ·exact hb
   ·exact absurd (if_neg hb) z
theorem walk_of {l:PySem.W.OpenLaw} {n k:Nat} {q:Program} {loose:List Str} {XP:(Str→Option Value)→Heap→Prop} {YP:World→Heap→Prop} {d:DefRec} {K:Params→PySem.W.Frag} {CX:World→CXT} {sp:World→Sp} {x:Str}
  (hn:l.most = some n) (hn2:n≤sizeLine) (hdf:d.params.defaults = []) (hr:Room k callerA)
  (hY:∀ (w:World) (h:Heap),YP w h→(K w.params).In h)
  (F:∀ (w:World) (mg:Str→Option Value) (fa:Addr) (h:Heap),(K w.params).In h→h.Ns mainGlobals mg→mg d.name = some (.ref fa) →
   ∃ fd:FuncData,(∀ (s:Shared) (u:Value),BindsTo s fd ⟨[u], []⟩ [(x,u)]) ∧
    ∀ base:Heap,(K w.params).In base→base.Ns mainGlobals mg→FnOk l.prog w (K w.params) mg base (CX w) k fa fd [x] (sp w))
  (hsp:∀ (w:World) (H:Hp) (a:Addr) (ns:List Int),ns.length≤n→Only H→SqL (K w.params) H a (ns.map V.int)→sp w [.ref a] H (fun v _ => v = .bl true) fun _ _ _ => False)
  (hCX:∀ (w:World) (H:Hp) (s:Shared) (e:Value) (s':Shared),CX w [] H s (fun _ _ _ => False) e s'→False) :
  PySem.W.WalkO q loose XP YP l.row.toRowW d [] (fun f vs => PySem.call f vs):=by
 refine Att.attach_call hn hdf fun w s₀ s₁ mg mb fa o pm cd doc a vs ns G Y ho hd hcd hmg hobj hints hlen hg => ?_
 have KX:=hY w _ Y
 obtain ⟨fd,hb,hF⟩:=F w mg fa _ KX G.T.g hmg
 exact law_call KX G.T.g G.T.b G.T.builtins G.T.nolimit hg hobj hints (Nat.le_trans hlen hn2) hr hF hb (fun H hO hS => hsp w H a ns hlen hO hS) fun H e s' => hCX w H s₁ e s'
def qi (s:Stmt) (j:Nat):Stmt:=match s with
 | .ClassDef _ _ _ body _ _ _ _ _ _ _ => body.getD j (.Pass ⟨0,0,0,0⟩)
 | _ => .Pass ⟨0,0,0,0⟩
def qj (s:Stmt):Arguments:=match s with
 | .FunctionDef _ a _ _ _ _ _ _ _ _ => a
 | _ => { posonlyargs:=[],args:=[],vararg:=none,kwonlyargs:=[],kw_defaults:=[],kwarg:=none,defaults:=[] }
def qg (s:Stmt):List Stmt:=match s with
 | .FunctionDef _ _ b _ _ _ _ _ _ _ => b
 | _ => []
def qc (s:Stmt):Scope:=match s with
 | .FunctionDef _ _ _ _ _ _ sc _ _ _ => sc
 | _ => { kind:=.function,names:=[],isGenerator:=false,isCoroutine:=false }
abbrev CX0:CXT:=fun _ _ _ _ _ _ => False
abbrev E0:XK:=fun _ _ _ => False
theorem pass0 {X:Cx}:kF CX0 X E0:=fun _ _ _ _ _ _ _ h => h.elim
structure Fun (K:PySem.W.Frag) (x qual:Str) (st:Stmt) (f:Addr) (fd:FuncData):Prop where
 ex:∃ (oc:Value) (od:Option Addr) (kV doc pm:Value) (an:Option Addr) (cdv ct:Value) (osl:Array (Option Value)),
  fd = PySem.W.fnOf x qual (qj st) (qg st) (qc st) .none kV doc pm an cdv ct∧K.lookup f = some ⟨oc,od, .func fd,osl⟩∧PySem.W.codeIn K cdv qual = true
 kp:PySem.W.keepIn K (.ref f) = true
section
variable {P:Program} {w:World} {K:PySem.W.Frag} {mg:Str→Option Value} {base:Heap}
theorem Fun.ok {x qual:Str} {st:Stmt} {f:Addr} {fd:FuncData} {N ps:List Str} {k:Nat} {sp:Sp} (F:Fun K x qual st f fd) (S:FnScope N ps (qc st)) (len:∀ vs H Q E,sp vs H Q E→vs.length = ps.length)
  (hbody:∀ (cdv:Value) (A:Around) (outer:List Env) (s:Shared) (H:Hp) (vs:List V) (Q:VK) (E:XK),Room k (A.deeper (envOfC qual (qc st) s.heap.objs.size f cdv))→sp vs H Q E →
   ∃ t,PSs (cxOf CX0 P w K mg base N qual (qc st) f cdv A outer s H E).nox (qg st) t∧t { nx:=fun _ H' => Q .non H',rt:=Q } (start N vs) H):FnOk P w K mg base CX0 (k + 1) f fd ps sp:=by
 obtain ⟨oc,od,kV,doc,pm,an,cdv,ct,osl,rfl,lk,hcd⟩:=F.ex
 refine fn_of lk hcd S len fun A outer s H vs Q E hr hsp => ?_
 obtain ⟨t,h,q⟩:=hbody cdv A outer s H vs Q E hr hsp
 exact ⟨t,h.nox,q⟩
theorem Fun.binds {x qual:Str} {st:Stmt} {f:Addr} {fd:FuncData} {ps:List Str} (F:Fun K x qual st f fd)
  (h:∀ (kV doc pm:Value) (an:Option Addr) (cdv ct:Value) (us:List Value),us.length = ps.length→bindArgs (PySem.W.fnOf x qual (qj st) (qg st) (qc st) .none kV doc pm an cdv ct) ⟨us, []⟩ = pure (ps.zip us)):Binds K fd ps []:=by
 obtain ⟨oc,od,kV,doc,pm,an,cdv,ct,osl,rfl,lk,hcd⟩:=F.ex
 exact .all (h kV doc pm an cdv ct)
theorem qY {x qual:Str} {st:Stmt} {f:Addr} {oc:Value} {od an:Option Addr} {osl:Array (Option Value)} {kV doc pm cdv ct:Value} (l:K.lookup f = some ⟨oc,od, .func (PySem.W.fnOf x qual (qj st) (qg st) (qc st) .none kV doc pm an cdv ct),osl⟩)
  (c:PySem.W.codeIn K cdv qual = true) (k:PySem.W.keepIn K (.ref f) = true):Fun K x qual st f (PySem.W.fnOf x qual (qj st) (qg st) (qc st) .none kV doc pm an cdv ct):=⟨⟨oc,od,kV,doc,pm,an,cdv,ct,osl,rfl,l,c⟩,k⟩
end
theorem jd {n:Nat} (h:n≤1000):n < sizeLine:=Nat.lt_of_le_of_lt h (by decide)
section
variable {X:Cx}
theorem pv (i:Nat) {x:Str} {pos:Pos} (hN:X.N[i]? = some x:=by rfl) (hv:Vis X.env.scope x:=by first | exact Or.inl rfl | exact Or.inr (Or.inl rfl) | exact Or.inr (Or.inr rfl)) (hd:(x == ("__debug__" : Str)) = false:=by decide)
  (hcd:(x == ("__classdict__" : Str)) = false:=by decide):PE X (.Name x pos) (tVar i):=pe_var hN hv hd hcd
end
theorem ite2 {c A B:Prop} [Decidable c] (h1:c→A) (h2:¬ c→B):if c then A else B:=by
 by_cases h:c
 ·rw [if_pos h]
  exact h1 h
 ·rw [if_neg h]
  exact h2 h
def Same (H H':Hp):Prop:=∀ b o,H b = some o→H' b = some o
theorem Same.refl (H:Hp):Same H H:=fun _ _ h => h
theorem Same.trans {H H1 H2:Hp} (a:Same H H1) (b:Same H1 H2):Same H H2:=fun c o h => b c o (a c o h)
theorem Same.free {H H':Hp} (e:Same H H') {l:Addr} (h:H' l = Option.none):H l = Option.none:=by
 cases q:H l with
 | none => rfl
 | some o =>
  rw [e l o q] at h
  cases h
theorem Same.seq {K:PySem.W.Frag} {H H':Hp} {a:Addr} {xs:List V} (e:Same H H') (h:SqL K H a xs):SqL K H' a xs:=by
 rcases h with (h | ⟨o,h⟩) | h
 ·exact .inl (.inl (e _ _ h))
 ·exact .inl (.inr ⟨o,e _ _ h⟩)
 ·exact .inr h
section
variable {κ:Type} [DecidableEq κ]
def valV (kvs:List (κ × V)) (k:κ):Option V:=(kvs.find? fun kv => decide (kv.1 = k)).map (·.2)
def putK (kvs:List (κ × V)) (k:κ) (v:V):List (κ × V) :=
 if (kvs.any fun kv => decide (kv.1 = k)) = true then kvs.map (fun kv => if kv.1 = k then (kv.1,v) else kv) else kvs ++ [(k,v)]
theorem Zg {p:κ × V} {r:List (κ × V)} {k:κ} (e:p.1 = k):valV (p :: r) k = some p.2:=by simp [valV,List.find?_cons,e]
theorem Zh {p:κ × V} {r:List (κ × V)} {k:κ} (e:¬ p.1 = k):valV (p :: r) k = valV r k:=by simp [valV,List.find?_cons,e]
theorem KV.val {kvs:List (κ × V)} {vs:List (κ × Value)} (r:KV kvs vs) (k:κ):RelO (valV kvs k) (valueAt vs k):=by
 unfold KV at r
 induction r with
 | nil => exact True.intro
 | @cons p q ps qs h t ih =>
  obtain ⟨h1,h2⟩:=h
  by_cases e:p.1 = k
  ·have e':q.1 = k:=h1.symm.trans e
   have b:valueAt (q :: qs) k = some q.2:=by simp [valueAt,List.find?_cons,e']
   rw [Zg e,b]; exact h2
  ·have e':¬ q.1 = k:=fun z => e (h1.trans z)
   have b:valueAt (q :: qs) k = valueAt qs k:=by simp [valueAt,List.find?_cons,e']
   rw [Zh e,b]; exact ih
theorem KV.any {kvs:List (κ × V)} {vs:List (κ × Value)} (r:KV kvs vs) (k:κ):(kvs.any fun kv => decide (kv.1 = k)) = vs.any fun kv => decide (kv.1 = k):=by
 unfold KV at r
 induction r with
 | nil => rfl
 | cons h t ih => rw [List.any_cons,List.any_cons,ih,h.1]
theorem KV.length {kvs:List (κ × V)} {vs:List (κ × Value)} (r:KV kvs vs):kvs.length = vs.length:=Paired.length r
end
abbrev KT (H:Hp):List (List Key × V)→List (List Key × Addr × Value)→Prop:=Paired fun p q => p.1 = q.1∧H q.2.1 = some (.tup (p.1.map kV))∧RelV p.2 q.2.2
theorem KT.val {H:Hp} {kvs:List (List Key × V)} {xs:List (List Key × Addr × Value)} (r:KT H kvs xs) (k:List Key):RelO (valV kvs k) ((atKey xs k).map (·.2)):=by
 induction r with
 | nil => exact True.intro
 | @cons p q ps qs h t ih =>
  obtain ⟨h1,_,h2⟩:=h
  by_cases e:p.1 = k
  ·have e':q.1 = k:=h1.symm.trans e
   have b:atKey (q :: qs) k = some q.2:=by simp [atKey,List.find?_cons,e']
   rw [Zg e,b]; exact h2
  ·have e':¬ q.1 = k:=fun z => e (h1.trans z)
   have b:atKey (q :: qs) k = atKey qs k:=by simp [atKey,List.find?_cons,e']
   rw [Zh e,b]; exact ih
def DGet (H:Hp) (a:Addr) (y:V) (r:Option V):Prop :=
 (∃ kvs k,Rd H a (.dK kvs)∧y = kV k∧r = valV kvs k)∨∃ kvs k b,Rd H a (.dT kvs)∧y = .ref b∧H b = some (.tup (k.map kV))∧r = valV kvs k
def DPut (H:Hp) (a:Addr) (y v:V) (H':Hp):Prop :=
 (∃ kvs k,H a = some (.dK kvs)∧y = kV k∧kvs.length < sizeLine∧H' = upd H a (.dK (putK kvs k v))) ∨
 ∃ kvs k b,H a = some (.dT kvs)∧y = .ref b∧H b = some (.tup (k.map kV))∧kvs.length < sizeLine∧H' = upd H a (.dT (putK kvs k v))
theorem DGet.k {H:Hp} {a:Addr} {kvs:List (Key × V)} {k:Key} (e:H a = some (.dK kvs)):DGet H a (kV k) (valV kvs k):=.inl ⟨kvs,k, .inl e,rfl,rfl⟩
theorem DGet.t {H:Hp} {a b:Addr} {kvs:List (List Key × V)} {k:List Key} (e:H a = some (.dT kvs)) (eb:H b = some (.tup (k.map kV))):DGet H a (.ref b) (valV kvs k):=.inr ⟨kvs,k,b, .inl e,rfl,eb,rfl⟩
theorem DPut.k {H:Hp} {a:Addr} {kvs:List (Key × V)} {k:Key} {v:V} (e:H a = some (.dK kvs)) (hl:kvs.length < sizeLine):DPut H a (kV k) v (upd H a (.dK (putK kvs k v))):=.inl ⟨kvs,k,e,rfl,hl,rfl⟩
theorem DPut.t {H:Hp} {a b:Addr} {kvs:List (List Key × V)} {k:List Key} {v:V} (e:H a = some (.dT kvs)) (eb:H b = some (.tup (k.map kV))) (hl:kvs.length < sizeLine) :
  DPut H a (.ref b) v (upd H a (.dT (putK kvs k v))):=.inr ⟨kvs,k,b,e,rfl,eb,hl,rfl⟩
structure M2 (X:Cx) (o:Expr) (m:Str) (apos:Pos) (e f:Expr) (cpos:Pos):Prop where
 base:attributeBase o m X.env (eval o X.env) = eval o X.env
 few:((backTo cpos (starEach [e,f] X.env)).all (fun x => !x.1) && (backToKw cpos (keywordEach [] X.env)).all (fun x => x.1.isSome)
  && decide (([e,f]:List Expr).length + ([]:List Keyword).length + (if ([]:List Keyword).isEmpty then 0 else 1) < 30)) = true
 line:(apos.endLine == cpos.line) = true
 trees:backTo cpos (starEach [e,f] X.env) = [(false,eval e X.env),(false,eval f X.env)]
def cxC (X:Cx) (scope:Scope) (cl:List (Str × Addr)) (M:List Str) (fp:List Addr) (s:Shared) (H:Hp):Cx :=
 { X with N:=M,s₀:=s,H₀:=H,env:=compEnvC scope cl s.heap.objs.size X.env,outer:=X.stack,stack:=X.stack,ex:=fp,fn:=fun _ => false,pn:=[],xe:=fun _ _ => False }
def vA (bs:List Bool) (n:Nat) (σ:St):St:=(bs.zip σ).map (fun p => if p.1 then p.2 else none) ++ List.replicate n none
def ExtS (σ τ:St):Prop:=∀ (i:Nat) v,σ[i]? = some (some v)→τ[i]? = some (some v)
theorem ExtS.refl (σ:St):ExtS σ σ:=fun _ _ h => h
theorem ExtS.trans {a b c:St} (h:ExtS a b) (k:ExtS b c):ExtS a c:=fun i v e => k i v (h i v e)
theorem ExtS.put {σ τ:St} {i:Nat} {v:V} (h:ExtS σ τ) (e:σ[i]? = some none):ExtS σ (τ.set i (some v)):=fun j w q => by
 by_cases hj:i = j
 ·subst hj; rw [e] at q; cases q
 ·rw [List.getElem?_set_ne hj]; exact h j w q
def CompW (J:It) (acc:Addr) (g:TG) (tt:TT) (te:TE) (σ0:St) (H1:Hp) (Q:VK):Prop:=∃ W:Nat→Nat→Hp→Prop,(∃ m,W 0 m (upd H1 acc (.lst []))) ∧
 ∀ i m H2,W i m H2→(J.stop i H2∧Q (.ref acc) H2)∨(J.go i H2∧∃ N:Hp→Prop,(∀ H',N H'→∃ m',m' < m∧W (i + 1) m' H')∧∀ x H3,J.yld i H2 x H3→g x σ0 H3 fun σ4 H4 => (ExtS σ0 σ4∧σ4.length = σ0.length)∧tt σ4 H4 fun b H5 =>
  if b = true then te σ4 H5 fun v H6 => ∃ ys,H6 acc = some (.lst ys)∧ys.length < sizeLine∧N (upd H6 acc (.lst (ys ++ [v]))) else N H5)
def vK (wi:TI) (bs:List Bool) (n:Nat) (g:TG) (tt:TT) (te:TE):TE:=fun σ H Q => wi σ H fun J H1 => ∀ acc,H1 acc = none→CompW J acc g tt te (vA bs n σ) H1 Q
def PTs (X:Cx) (ifs:List Expr) (t:TT):Prop :=
 ∀ (pins:List (Addr × Obj)) (s:Shared) (σ:St) (H:Hp) (Q:Bool→Hp→Prop),Inv X pins σ H s→t σ H Q →
  wpAny (model X.prog X.w) X.A (forIn ifs true fun c r => if r = true then do let ok ← isTrue c X.env (eval c X.env); pure (ForInStep.yield ok) else pure (ForInStep.yield r)) (TP X pins σ Q) X.xe s
def tYes:TT:=fun _ H Q => Q true H
theorem pts_nil {X:Cx}:PTs X [] tYes:=fun _ _ _ H _ I h => wpAny_tests_nil ⟨H,I,h⟩
structure CompS (X:Cx) (scope:Scope) (cl:List (Str × Addr)) (bs:List Bool) (ext:List Str):Prop where
 clos:closureFor scope X.env = pure cl
 cell:∀ y ∈ scope.names,y.2 ≠ .cell
 kind:scope.kind = .function
 names:∀ y ∈ scope.names,y.2 = .local→scope.names.lookup y.1 = some .local
 sub:∀ x c,cl.lookup x = some c→X.env.cells.lookup x = some c
 has:∀ x,((relabel scope X.env).names.lookup x = some .cell∨(relabel scope X.env).names.lookup x = some .free)→∃ c,cl.lookup x = some c
 len:bs.length = X.N.length
 vis:∀ (i:Nat) x,X.N[i]? = some x→bs[i]? = some true→Vis (relabel scope X.env) x→(relabel scope X.env).names.lookup x≠some .local∧(X.env.kindOf x = some .cell∨X.env.kindOf x = some .free)∧Vis X.env.scope x
theorem JZ {bs:List Bool} {n:Nat} {σ:St} (h:bs.length = σ.length):(vA bs n σ).length = σ.length + n:=by
 unfold vA; simp [h]
theorem J0 {bs:List Bool} {n:Nat} {σ:St} (h:bs.length = σ.length) {i:Nat} {v:V} (e:(vA bs n σ)[i]? = some (some v)):i < σ.length∧bs[i]? = some true∧σ[i]? = some (some v):=by
 unfold vA at e
 by_cases hi:i < σ.length
 ·rw [List.getElem?_append_left (by simp [h]; exact hi),List.getElem?_map] at e
  have hb:i < bs.length:=by omega
  rw [List.getElem?_eq_getElem (by simp [h]; exact hi)] at e
  simp only [List.getElem_zip,Option.map_some] at e
  split at e
  ·rename_i hb2
   refine ⟨hi, ?_, ?_⟩
   ·rw [List.getElem?_eq_getElem hb]; rw [hb2]
   ·rw [List.getElem?_eq_getElem hi]; exact e
  ·cases e
 ·rw [List.getElem?_append_right (by simp [h]; omega),List.getElem?_replicate] at e
  split at e <;> cases e
section
variable {X:Cx} {pins:List (Addr × Obj)} {σ:St} {H:Hp} {s:Shared}
theorem cxC_ok {scope:Scope} {cl:List (Str × Addr)} {bs:List Bool} {ext:List Str} {fp:List Addr} (S:CompS X scope cl bs ext) (I:Inv X pins σ H s) (hf:∀ b ∈ fp,FpOk X pins H b) (hfs:∀ b ∈ fp,b < s.heap.objs.size) :
  (cxC X scope cl (X.N ++ ext) fp s H).Ok where
 mod:=I.ok.mod
 kind:=S.kind
 glob:=I.ok.glob
 blt:=I.ok.blt
 above:=Nat.le_refl _
 inj:=fun x y c a b => I.ok.inj x y c (S.sub x c a) (S.sub y c b)
 has:=S.has
 cab:=fun x c h => nomatch h
 hd:=I.ok.hd
 frames:=I.ok.frames
 stk:=.inl rfl
 exf:=fun b hb => ⟨Nat.ne_of_lt (hfs b hb),fun x c e => (hf b hb).2.2.2.2.1 x c (S.sub x c e)⟩
 bs:=I.bs
 bsz:=Nat.le_trans I.ok.bsz I.sz
 noex:=fun b o e hb => by
  rcases (hf b hb).2.2.2.1 with z | z
  ·exact I.ok.noex b o e z
  ·exact absurd (Nat.lt_of_lt_of_le (Nat.lt_of_lt_of_le (Heap.lt_size e) I.ok.bsz) z) (Nat.lt_irrefl _)
 exfs:=fun b hb z => by
  rcases List.mem_cons.mp (I.stkSub b z) with q | q
  ·exact (hf b hb).2.1 q
  ·exact (hf b hb).2.2.1 q
 funs:=I.stack
 frf:=I.stkFree
theorem Kq {scope:Scope} {cl:List (Str × Addr)} {bs:List Bool} {ext:List Str} {fp:List Addr} {h1:Heap} {t':Nat} (S:CompS X scope cl bs ext) (I:Inv X pins σ H s) (hf:∀ b ∈ fp,FpOk X pins H b) (hfs:∀ b ∈ fp,b < s.heap.objs.size)
  (hn:h1.Ns s.heap.objs.size (fun _ => none)) (k:∀ b o,s.heap.get? b = some o→h1.get? b = some o) :
  Inv (cxC X scope cl (X.N ++ ext) fp s H) [] (vA bs ext.length σ) H { s with heap:=h1,toks:=t' }:=by
 have hl:bs.length = σ.length:=S.len.trans I.len.symm
 have cellk:∀ c v,s.heap.IsCell c v→h1.IsCell c v:=fun c v ⟨o,ho,hd⟩ => ⟨o,k c o ho,hd⟩
 refine ⟨cxC_ok S I hf hfs,rfl,I.bare,Un.kept k,⟨_,hn,fun i x v e1 e2 e3 => ?_⟩,fun x c e => ?_,I.hok.fresh (Nat.le_refl _),fun x c e => I.freeC x c (S.sub x c e),fun p hp => absurd hp (by simp [cxC]),I.hok.kept k, ?_⟩
 ·obtain ⟨hi,hb,hs⟩:=J0 hl e2
  have e1':X.N[i]? = some x:=by
   have e1'':(X.N ++ ext)[i]? = some x:=e1
   rwa [List.getElem?_append_left (by have:=I.len; omega)] at e1''
  obtain ⟨nl,kk,vv⟩:=S.vis i x e1' hb e3
  obtain ⟨m,_,hloc⟩:=I.loc
  obtain ⟨u,r,l⟩:=hloc i x v e1' hs vv
  refine ⟨u,r, .inr ⟨?_, ?_⟩⟩
  ·rcases e3 with z | z | z
   ·exact absurd z nl
   ·exact .inl z
   ·exact .inr z
  ·have hc:=S.has x (by
    rcases e3 with z | z | z
    ·exact absurd z nl
    ·exact .inl z
    ·exact .inr z)
   obtain ⟨c,hc⟩:=hc
   rcases l with ⟨kl,_⟩ | ⟨_,c',hc',hcell⟩
   ·rcases kk with z | z <;> (rw [kl] at z; cases z)
   ·rw [S.sub x c hc] at hc'
    cases hc'
    exact ⟨c,hc,cellk c _ hcell⟩
 ·obtain ⟨v,z⟩:=I.cell x c (S.sub x c e)
  exact ⟨v,cellk c v z⟩
 ·rw [JZ hl,I.len]; show _ = (X.N ++ ext).length; simp
theorem Kr {scope:Scope} {cl:List (Str × Addr)} {ext:List Str} {fp:List Addr} {σ':St} {H':Hp} {s':Shared} {h':Heap} {pins':List (Addr × Obj)} (I:Inv X pins σ H s) (hf:∀ b ∈ fp,FpOk X pins H b)
  (J:Inv (cxC X scope cl (X.N ++ ext) fp s H) pins' σ' H' s') (sb:Heap.SameBut s.heap.objs.size s'.heap h'):Inv X pins σ H' { s' with heap:=h' }:=by
 have B:Un (frs X.stack) fp H H' s.heap s'.heap:=J.base
 have nC:∀ b o,s.heap.get? b = some o→b≠s.heap.objs.size:=fun b o e => Nat.ne_of_lt (Heap.lt_size e)
 refine I.call' (ch:=fp) (s':={ s' with heap:=h' }) J.os ⟨fun b o e n hb hx => ?_,fun b o e n hb hx => ?_,fun b o e n hx => B.free b o e n hx,fun b o e hx => ?_,B.tups,B.frzs,B.tbls⟩ ?_ J.bare fun b hb => ⟨(hf b hb).2.2.2.1,(hf b hb).2.1,(hf b hb).2.2.2.2.1,(hf b hb).2.2.2.2.2⟩
 ·exact sb.extBut b o (nC b o e) (B.keep b o e n hb hx)
 ·obtain ⟨sl,q⟩:=B.slot b o e n hb hx
  exact ⟨sl,sb.extBut b _ (nC b o e) q⟩
 ·obtain ⟨o',q⟩:=B.there b o e hx
  exact ⟨o',sb.extBut b o' (nC b o e) q⟩
 ·intro a o e
  have fr:H' s.heap.objs.size = none:=J.free
  refine (J.hok a o e).stay (fun b u hb q => sb.extBut b u ?_ q) (fun _ q => q) fun _ _ q => q
  rcases hb with z | z
  ·subst z; intro z; rw [z,fr] at e; cases e
  ·intro z2; rw [z2,fr] at z; cases z
end
section
variable {X:Cx} {elt tg iter:Expr} {ifs:List Expr} {scope:Scope} {cl:List (Str × Addr)} {bs:List Bool} {ext:List Str} {pos:Pos} {wi:TI} {g:TG} {tt:TT} {te:TE}
theorem ZV {use:Option (Value→Sem Unit)} {pins:List (Addr × Obj)} {s:Shared} {σ:St} {H:Hp} {Q:VK} {RR:Value→Shared→Prop} (S:CompS X scope cl bs ext) (hc:X.calm = true) (hi:PI X tg iter wi)
  (hg:∀ fp s H,PG (cxC X scope cl (X.N ++ ext) fp s H) tg g) (ht:∀ fp s H,PTs (cxC X scope cl (X.N ++ ext) fp s H) ifs tt) (he:∀ fp s H,PE (cxC X scope cl (X.N ++ ext) fp s H) elt te)
  (hs:∀ x,foldedSetIterable iter X.env x = pure x) (I:Inv X pins σ H s) (h:vK wi bs ext.length g tt te σ H Q) (ep:Pos)
  (hend:∀ (acc:Addr) (s2:Shared) (H2:Hp) (fp:List Addr) (σ':St) (H':Hp) (s':Shared),Inv X pins σ H2 s2→(∀ b ∈ fp,FpOk X pins H2 b)→Inv (cxC X scope cl (X.N ++ ext) fp s2 H2) [] σ' H' s'→Q (.ref acc) H' →
   compPost (model X.prog X.w) X.A X.xe use RR (.ref acc) s2.heap.objs.size (.ok .next) s') :
  wpAny (model X.prog X.w) X.A (comprehension (.ListComp elt [⟨tg,iter,ifs,0⟩] scope pos) scope X.env ep (newList []) false (eval iter X.env) use) RR X.xe s:=by
 refine wpAny_comprehension_free (use:=use) rfl hs S.clos S.kind S.names (thn (hi pins s σ H _ I h) fun v s1 h1 => thn h1 fun itv s2 h2 => ?_)
 obtain ⟨it,fp,tn,J,H2,e,I2,T,st2,f2,hW⟩:=h2
 subst e
 refine wpAny_newList ?_ (by decide)
 have hn2:H2 s2.heap.objs.size = none:=I2.hok.fresh (Nat.le_refl _)
 obtain ⟨W,⟨m0,w0⟩,turn⟩:=hW s2.heap.objs.size hn2
 have I3:=I2.lnew (its:=[]) (ys:=[]) (t':=s2.toks) .nil (Nat.zero_le _)
 generalize hs3:({ s2 with heap:=s2.heap.push { cls:=.type "list", data:=.seq ([]:List Value).toArray },toks:=s2.toks }:Shared) = s3 at I3
 have hsz3:s3.heap.objs.size = s2.heap.objs.size + 1:=by rw [← hs3]; exact Heap.size_push ..
 have k3:∀ b o,s2.heap.get? b = some o→s3.heap.get? b = some o:=fun b o e => by rw [← hs3]; exact Heap.get?_push_of_some _ e
 have fpo:∀ b ∈ fp,b < s2.heap.objs.size:=fun b hb => by obtain ⟨o,e,_⟩:=T.obj _ _ st2 b hb; exact Heap.lt_size e
 have f3:∀ b ∈ fp,FpOk X pins (upd H2 s2.heap.objs.size (.lst [])) b:=fun b hb => ⟨by rw [upd_ne (Nat.ne_of_lt (fpo b hb))]; exact (f2 b hb).1,(f2 b hb).2⟩
 have fps:∀ b ∈ fp,b < s3.heap.objs.size:=fun b hb => by rw [hsz3]; exact Nat.lt_succ_of_lt (fpo b hb)
 have st3:tn 0 s3.heap:=T.keep _ _ _ st2 fun b hb o e => k3 b o e
 refine wpAny_newFunctionEnv S.cell (by intro y hy; simp at hy) (fun h4 hns4 hsb4 => ?_) S.kind
 have k4:∀ b o,s3.heap.get? b = some o→h4.get? b = some o:=fun b o e => hsb4.extBut b o (Nat.ne_of_lt (Heap.lt_size e)) (Heap.get?_push_of_some _ e)
 have I4:=Kq (ext:=ext) (t':=s3.toks + ([]:List (Str × Value)).length) S I3 f3 fps (h1:=h4) hns4 k4
 have st4:tn 0 h4:=T.keep _ _ _ st3 fun b hb o e => k4 b o e
 generalize hs4:({ s3 with heap:=h4,toks:=s3.toks + ([]:List (Str × Value)).length }:Shared) = s4 at I4 ⊢
 have st4':tn 0 s4.heap:=by rw [← hs4]; exact st4
 -- the block
 generalize hY:cxC X scope cl (X.N ++ ext) fp s3 (upd H2 s2.heap.objs.size (.lst [])) = Y at I4
 have hYs:∀ {H':Hp},(∀ b ∈ fp,H' b = none)→∀ b ∈ fp,FpOk Y [] H' b:=fun hn b hb => by
  subst hY
  refine ⟨hn b hb,Nat.ne_of_lt (fps b hb),fun z => ?_, .inl hb,fun x c e => (f3 b hb).2.2.2.2.1 x c (S.sub x c e),fun p hp => absurd hp (by simp [cxC])⟩
  rcases List.mem_cons.mp (I3.stkSub b z) with q | q
  ·exact (f3 b hb).2.1 q
  ·exact (f3 b hb).2.2.1 q
 have hgY:PG Y tg g:=by subst hY; exact hg _ _ _
 have htY:PTs Y ifs tt:=by subst hY; exact ht _ _ _
 have heY:PE Y elt te:=by subst hY; exact he _ _ _
 have hYc:Y.calm = true:=by subst hY; exact hc
 have hYm:Y.prog = X.prog∧Y.w = X.w∧Y.K = X.K∧Y.A = X.A∧Y.env = compEnvC scope cl s3.heap.objs.size X.env∧Y.xe = fun _ _ => False:=by subst hY; exact ⟨rfl,rfl,rfl,rfl,rfl,rfl⟩
 obtain ⟨e1,e2,e3,e4,e5,e6⟩:=hYm
 have never:∀ {α:Type} {t:Sem α} {Q:α→Shared→Prop} {s:Shared} {E:Value→Shared→Prop},wpAny (model Y.prog Y.w) Y.A t Q Y.xe s→wpAny (model X.prog X.w) X.A t Q E s:=fun {α t Q s E} q => by
  rw [e1,e2,e4,e6] at q
  exact wpAny_mono q (fun _ _ z => z) fun _ _ z => z.elim
 have loop:codeAny (model X.prog X.w) X.A (.compLoop (.ListComp elt [⟨tg,iter,ifs,0⟩] scope pos) 0 (.ref it) (.ref s2.heap.objs.size) (compEnvC scope cl s3.heap.objs.size X.env))
   (compPost (model X.prog X.w) X.A X.xe use RR (.ref s2.heap.objs.size) s3.heap.objs.size) s4:=by
  refine codeAny_loop rfl (fun n s' => ∃ i H',Inv Y [] (vA bs ext.length σ) H' s'∧tn i s'.heap∧(∀ b ∈ fp,H' b = none)∧W i n H') (fun n s5 hI => ?_) m0 ⟨0,_,I4,st4',fun b hb => (f3 b hb).1,w0⟩
  obtain ⟨i,H5,I5,st5,fr5,w5⟩:=hI
  show wpAny _ X.A ((compTurn (.ListComp elt [⟨tg,iter,ifs,0⟩] scope pos) 0 (.ref it) (.ref s2.heap.objs.size) (compEnvC scope cl s3.heap.objs.size X.env)).onRaise (fun x => do noteFrame x (compEnvC scope cl s3.heap.objs.size X.env); theTreesLotGoes x)) _ _ s5
  refine wpAny_noted ?_
  rw [compTurn_list]
  rcases turn i n H5 w5 with ⟨stop,qn⟩ | ⟨go,N,hN,step⟩
  ·refine wpAny_bind (wpAny_standAt (wpAny_bind ?_))
   have hd:=T.done Y e1 e2 e3 hYc i [] s5 _ H5 (fun _ _ => False) I5 (hYs fr5) st5 stop
   rw [e4] at hd
   refine wpAny_mono hd (fun r s6 ⟨hr,I6⟩ => ?_) fun _ _ z => z.elim
   subst hr
   subst hY
   exact wpAny_pure (hend s2.heap.objs.size s3 _ fp _ H5 s6 I3 f3 I6 qn)
  ·refine wpAny_bind (wpAny_standAt (wpAny_bind ?_))
   have hd:=T.item Y e1 e2 e3 hYc i [] s5 _ H5 (fun _ _ => False) I5 (hYs fr5) st5 go
   rw [e4] at hd
   refine wpAny_mono hd (fun r s6 ⟨u,hr,h6⟩ => ?_) fun _ _ z => z.elim
   subst hr
   refine wpAny_bind (wpAny_mono h6 (fun _ s7 ⟨x,H7,I7,r7,y7,st7,fr7⟩ => ?_) fun _ _ z => z.elim)
   have I7':=I7.pinned (hYs fr7) (T.obj _ _ st7)
   rw [← e5]
   refine wpAny_bind (never (thn (hgY _ s7 _ H7 x u _ I7' r7 (step x H7 y7)) fun _ s8 ⟨σ8,H8,I8,⟨hx8,hl8⟩,q8⟩ => ?_))
   refine wpAny_bind (never (thn (htY _ s8 σ8 H8 _ I8 q8) fun b s9 ⟨H9,I9,q9⟩ => ?_))
   have again:∀ {H10:Hp} {s10:Shared} {m':Nat},Inv Y ([] ++ Q7 fp s7.heap) σ8 H10 s10→m' < n→W (i + 1) m' H10→∃ m,m < n∧∃ i H',Inv Y [] (vA bs ext.length σ) H' s10∧tn i s10.heap∧(∀ b ∈ fp,H' b = none)∧W i m H':=fun {H10 s10 m'} I10 hm w10 => by
    refine ⟨m',hm,i + 1,H10,(I10.unpinned).weak hl8.symm hx8,T.keep _ _ _ st7 fun b hb o e => (I10.pin (b,o) (List.mem_append_right _ (List.mem_append_right _ (xI hb e)))).1,fun b hb => ?_,w10⟩
    obtain ⟨o,e,d⟩:=T.obj _ _ st7 b hb
    exact (I10.pin (b,o) (List.mem_append_right _ (List.mem_append_right _ (xI hb e)))).2.1
   cases b with
   | false =>
    rw [if_neg Bool.false_ne_true] at q9
    obtain ⟨m',hm,w9⟩:=hN _ q9
    exact wpAny_pure ⟨by rw [e5],again I9 hm w9⟩
   | true =>
    rw [if_pos rfl] at q9
    refine wpAny_bind (wpAny_bind (never (thn (heY _ s9 σ8 H9 _ I9 q9) fun xv s10 ⟨y,H10,I10,r10,ys,hys,hz,n10⟩ => ?_)))
    obtain ⟨m',hm,w10⟩:=hN _ n10
    refine wpAny_bind (never (thn (jn (X:=Y) _ s10 σ8 H10 (.ref s2.heap.objs.size) [y] (.ref s2.heap.objs.size) [xv] (fun _ H => ∃ m',m' < n∧W (i + 1) m' H) I10 rfl (.cons r10 .nil) ⟨_,ys,y,rfl,rfl,hys,hz,m',hm,w10⟩) fun _ s11 ⟨_,H11,I11,_,m2,hm2,w11⟩ => ?_))
    exact wpAny_pure (wpAny_pure ⟨by rw [e5],again I11 hm2 w11⟩)
 exact codeAny_compStart_list loop (T.self X.A 0 s4 _ _ st4' loop)
theorem pe_comp (S:CompS X scope cl bs ext) (hc:X.calm = true) (hi:PI X tg iter wi)
  (hg:∀ fp s H,PG (cxC X scope cl (X.N ++ ext) fp s H) tg g) (ht:∀ fp s H,PTs (cxC X scope cl (X.N ++ ext) fp s H) ifs tt) (he:∀ fp s H,PE (cxC X scope cl (X.N ++ ext) fp s H) elt te)
  (hs:∀ x,foldedSetIterable iter X.env x = pure x:=by intro _; rfl):PE X (.ListComp elt [⟨tg,iter,ifs,0⟩] scope pos) (vK wi bs ext.length g tt te):=by
 intro pins s σ H Q I h
 rw [eval_ListComp]
 refine ZV (use:=none) S hc hi hg ht he hs I h _ fun acc s2 H2 fp σ' H' s' I2 f2 J q => ?_
 obtain ⟨m,hn,_⟩:=J.loc
 exact ⟨m,hn,fun h' sb => ⟨.ref acc,H',Kr I2 f2 J sb,rfl,q⟩⟩
theorem ps_comp {i:Nat} {x:Str} {pos' spos:Pos} (S:CompS X scope cl bs ext) (hc:X.calm = true) (hN:X.N.Nodup) (hix:X.N[i]? = some x) (hx:X.env.scope.names.lookup x = some .local) (hi:PI X tg iter wi)
  (hg:∀ fp s H,PG (cxC X scope cl (X.N ++ ext) fp s H) tg g) (ht:∀ fp s H,PTs (cxC X scope cl (X.N ++ ext) fp s H) ifs tt) (he:∀ fp s H,PE (cxC X scope cl (X.N ++ ext) fp s H) elt te)
  (hsw:swapsWith (.ListComp elt [⟨tg,iter,ifs,0⟩] scope pos) (some (.Name x pos')) spos.line X.env = pure true)
  (hs:∀ x,foldedSetIterable iter X.env x = pure x:=by intro _; rfl):PS X (.Assign [.Name x pos'] (.ListComp elt [⟨tg,iter,ifs,0⟩] scope pos) spos) (tAsg (vK wi bs ext.length g tt te) (qI i)):=by
 intro pins s σ H D I h
 rw [exec_Assign_Name_used _ _ _ _ hsw]
 refine wpAny_bind (wpAny_standAt (wpAny_bind ?_))
 show wpAny _ X.A (do let _ ← comprehension (.ListComp elt [⟨tg,iter,ifs,0⟩] scope pos) scope X.env _ (newList []) false (eval iter X.env) (some (assign (.Name x pos') X.env))) _ _ s
 refine wpAny_bind (wpAny_mono (ZV (use:=some (assign (.Name x pos') X.env)) (RR:=fun _ s' => SP X pins D .next s') S hc hi hg ht he hs I h _ fun acc s2 H2 fp σ' H' s' I2 f2 J q => ?_) (fun _ s' hq => wpAny_pure (wpAny_pure hq)) fun _ _ e => e)
 have I5:Inv X pins σ H' s':=by
  have:=Kr (h':=s'.heap) I2 f2 J (.refl ..)
  exact this
 show wpAny _ X.A (assign (.Name x pos') X.env (.ref acc)) _ _ s'
 obtain ⟨m,hn,_⟩:=J.loc
 have hCL:s2.heap.objs.size≠X.env.locals:=Nat.ne_of_gt I2.lt
 have nC:∀ b o,s2.heap.get? b = some o→b≠s2.heap.objs.size:=fun b o e => Nat.ne_of_lt (Heap.lt_size e)
 have cC:∀ y c,X.env.cells.lookup y = some c→c≠s2.heap.objs.size:=fun y c e => by
  obtain ⟨v,o,ho,_⟩:=I2.cell y c e
  exact nC c o ho
 refine wpAny_assign_Name (Q2 I5 hN hix (.inl hx) (v:=.ref acc) rfl (fun s6 I6 k6 => ?_) (.inr hx))
 obtain ⟨a,sb6,ha⟩:=k6
 have haC:a≠s2.heap.objs.size:=by
  rcases ha with z | z
  ·rw [z]; exact hCL.symm
  ·exact cC x a z
 refine ⟨m,hn.sameBut sb6 haC.symm,fun h' sb => ?_⟩
 refine ⟨_,H',I6.turned (t':=s6.toks) (it:=s2.heap.objs.size) (fun b o hb e => sb.extBut b o hb e) ?_ hCL (.inr (Nat.le_trans I2.ok.above (Nat.le_of_lt I2.lt))) cC fun p hp => ?_,q⟩
 ·have fr:H' s2.heap.objs.size = none:=J.free
  exact fr
 ·exact nC p.1 p.2 (I2.pin p hp).1
end
theorem Kv {K:PySem.W.Frag} {a acc:Addr} {xs:List V} {g:TG} {tt:TT} {te:TE} {σ0:St} {H1:Hp} {Q:VK} (Pv:Nat→Hp→Prop) (h0:Pv 0 (upd H1 acc (.lst []))) (hl:∀ i H,i≤xs.length→Pv i H→SqL K H a xs)
  (hs:∀ i x H,xs[i]? = some x→Pv i H→g x σ0 H fun σ4 H4 => (ExtS σ0 σ4∧σ4.length = σ0.length)∧tt σ4 H4 fun b H5 =>
   if b = true then te σ4 H5 fun v H6 => ∃ ys,H6 acc = some (.lst ys)∧ys.length < sizeLine∧Pv (i + 1) (upd H6 acc (.lst (ys ++ [v]))) else Pv (i + 1) H5)
  (hd:∀ H,Pv xs.length H→Q (.ref acc) H):CompW (Itl K a) acc g tt te σ0 H1 Q:=by
 refine ⟨fun i m H => m = xs.length - i∧i≤xs.length∧Pv i H,⟨xs.length,by simp,Nat.zero_le _,h0⟩, ?_⟩
 rintro i m H ⟨rfl,hi,p⟩
 have q:=hl i H hi p
 by_cases hlt:i < xs.length
 ·refine .inr ⟨⟨xs,xs[i],q,by simp [hlt]⟩,Pv (i + 1),fun H' p' => ⟨xs.length - (i + 1),by omega,rfl,hlt,p'⟩,fun x H' y => ?_⟩
  obtain ⟨e,y⟩:=y
  subst e
  exact hs i x _ (y xs q) p
 ·have e:i = xs.length:=by omega
  subst e
  exact .inl ⟨⟨xs,q,Nat.le_refl _⟩,hd H p⟩
theorem XF {acc:Addr} {lo:Int} {n:Nat} {g:TG} {tt:TT} {te:TE} {σ0:St} {H1:Hp} {Q:VK} (Pv:Nat→Hp→Prop) (h0:Pv 0 (upd H1 acc (.lst [])))
  (hs:∀ (i:Nat) H,i < n→Pv i H→g (.int (lo + i)) σ0 H fun σ4 H4 => (ExtS σ0 σ4∧σ4.length = σ0.length)∧tt σ4 H4 fun b H5 =>
   if b = true then te σ4 H5 fun v H6 => ∃ ys,H6 acc = some (.lst ys)∧ys.length < sizeLine∧Pv (i + 1) (upd H6 acc (.lst (ys ++ [v]))) else Pv (i + 1) H5)
  (hd:∀ H,Pv n H→Q (.ref acc) H):CompW (Itr lo n) acc g tt te σ0 H1 Q:=by
 refine ⟨fun i m H => m = n - i∧i≤n∧Pv i H,⟨n,by simp,Nat.zero_le _,h0⟩, ?_⟩
 rintro i m H ⟨rfl,hi,p⟩
 by_cases hlt:i < n
 ·refine .inr ⟨hlt,Pv (i + 1),fun H' p' => ⟨n - (i + 1),by omega,rfl,hlt,p'⟩,fun x H' y => ?_⟩
  obtain ⟨e,y⟩:=y
  subst e y
  exact hs i _ hlt p
 ·have e:i = n:=by omega
  subst e
  exact .inl ⟨Nat.le_refl _,hd H p⟩
def clOf (env:Env):List (Str × NameKind)→List (Str × Addr)→List (Str × Addr)
 | [],cs => cs
 | (n,k) :: r,cs => clOf env r (if (k == NameKind.free) = true then (n,(env.cells.lookup n).getD 0) :: cs else cs)
theorem clos_eq {env:Env} (scope:Scope) (h:∀ p ∈ scope.names,p.2 = .free→∃ c,env.cells.lookup p.1 = some c):closureFor scope env = pure (clOf env scope.names []):=by
 unfold closureFor
 generalize ([]:List (Str × Addr)) = cs0
 generalize scope.names = ns at h
 have key:∀ (ns:List (Str × NameKind)) (cs:List (Str × Addr)),(∀ p ∈ ns,p.2 = .free→∃ c,env.cells.lookup p.1 = some c) →
   (forIn ns cs fun (x:Str × NameKind) (r:List (Str × Addr)) => (match x with | (name,kind) => if (kind == NameKind.free) = true then do let c ← cellOf env name; pure (ForInStep.yield ((name,c) :: r)) else pure (ForInStep.yield r):Sem (ForInStep (List (Str × Addr))))) = pure (clOf env ns cs):=by
  intro ns
  induction ns with
  | nil => intro cs _; rfl
  | cons p r ih =>
   intro cs hp
   obtain ⟨n,k⟩:=p
   rw [List.forIn_cons]
   by_cases hk:(k == NameKind.free) = true
   ·obtain ⟨c,hc⟩:=hp (n,k) List.mem_cons_self (by simpa using hk)
    have hcell:cellOf env n = pure c:=by unfold cellOf; rw [hc]
    simp only [hk,if_true,hcell,pure_bind]
    rw [ih _ fun q hq => hp q (List.mem_cons_of_mem _ hq)]
    have hc':List.lookup n env.cells = some c:=hc
    simp [clOf,hk,hc']
   ·simp only [hk,Bool.false_eq_true,if_false,pure_bind]
    rw [ih _ fun q hq => hp q (List.mem_cons_of_mem _ hq)]
    simp [clOf,hk]
 have:=key ns cs0 h
 rw [show (do
   let mut cs:=cs0
   for (name,kind) in ns do
    if kind == .free then cs:=(name, ← cellOf env name) :: cs
   return cs:Sem (List (Str × Addr))) = (forIn ns cs0 fun (x:Str × NameKind) (r:List (Str × Addr)) => (match x with | (name,kind) => if (kind == NameKind.free) = true then do let c ← cellOf env name; pure (ForInStep.yield ((name,c) :: r)) else pure (ForInStep.yield r):Sem (ForInStep (List (Str × Addr))))) >>= pure from rfl]
 rw [this,pure_bind]
theorem ZY {env:Env}:∀ (ns:List (Str × NameKind)) (cs:List (Str × Addr)),(∀ p ∈ ns,p.2 = .free→∃ c,env.cells.lookup p.1 = some c)→(∀ x c,cs.lookup x = some c→env.cells.lookup x = some c)→∀ x c,(clOf env ns cs).lookup x = some c→env.cells.lookup x = some c
 | [],cs,_,h,x,c,e => h x c e
 | (n,k) :: r,cs,hp,h,x,c,e => by
  refine ZY r _ (fun q hq => hp q (List.mem_cons_of_mem _ hq)) (fun y d e' => ?_) x c e
  split at e'
  ·rename_i hk
   obtain ⟨c',hc⟩:=hp (n,k) List.mem_cons_self (by simpa using hk)
   rw [List.lookup_cons] at e'
   have hc':List.lookup n env.cells = some c':=hc
   rw [hc'] at e'
   split at e'
   ·rename_i hy
    have hy':y = n:=by simpa using hy
    subst hy'
    rw [← e']; exact hc'
   ·exact h y d e'
  ·exact h y d e'
theorem ZZ {env:Env}:∀ (ns:List (Str × NameKind)) (cs:List (Str × Addr)) (x:Str),((x,NameKind.free) ∈ ns∨∃ c,cs.lookup x = some c)→∃ c,(clOf env ns cs).lookup x = some c
 | [],cs,x,h => by
  rcases h with h | h
  ·cases h
  ·exact h
 | (n,k) :: r,cs,x,h => by
  refine ZZ r _ x ?_
  rcases h with h | ⟨c,h⟩
  ·rcases List.mem_cons.mp h with h | h
   ·injection h with h1 h2
    subst h1 h2
    right
    exact ⟨_,by simp [List.lookup_cons]; rfl⟩
   ·exact .inl h
  ·right
   split
   ·rw [List.lookup_cons]
    split
    ·exact ⟨_,rfl⟩
    ·exact ⟨c,h⟩
   ·exact ⟨c,h⟩
def jT (scope:Scope) (env:Env) (N:List Str) (bs:List Bool):Bool :=
 scope.names.all (fun p => p.2 != .cell) && (scope.kind == .function) && scope.names.all (fun p => p.2 != .local || scope.names.lookup p.1 == some .local) && (bs.length == N.length)
  && scope.names.all (fun p => p.2 != .free || (env.kindOf p.1 == some .cell || env.kindOf p.1 == some .free)) && (N.zip bs).all (fun p => !p.2 || scope.names.lookup p.1 == some .free)
theorem mem_of_lookup {β:Type} {x:Str} {b:β}:∀ {l:List (Str × β)},l.lookup x = some b→(x,b) ∈ l
 | [],h => by simp at h
 | (y,c) :: r,h => by
  rw [List.lookup_cons] at h
  split at h
  ·rename_i hy
   have:x = y:=by simpa using hy
   subst this; cases h; exact List.mem_cons_self
  ·exact List.mem_cons_of_mem _ (mem_of_lookup h)
theorem zm {env:Env}:∀ {names:List (Str × NameKind)} {x:Str} {k:NameKind},
  (names.map fun (n,k) => if (k == NameKind.free && env.scope.kind == .function && env.kindOf n == some .cell) then (n,NameKind.cell) else (n,k)).lookup x = some k→names.lookup x = some k∨(k = .cell∧names.lookup x = some .free)
 | [],_,_,h => by simp at h
 | (n,k') :: r,x,k,h => by
  have ih:=@zm env r x k
  have h':List.lookup x ((if (k' == NameKind.free && env.scope.kind == .function && env.kindOf n == some .cell) = true then (n,NameKind.cell) else (n,k')) :: (r.map fun (n,k) => if (k == NameKind.free && env.scope.kind == .function && env.kindOf n == some .cell) then (n,NameKind.cell) else (n,k))) = some k:=h
  by_cases hc:(k' == NameKind.free && env.scope.kind == .function && env.kindOf n == some .cell) = true
  ·rw [if_pos hc,List.lookup_cons] at h'
   rw [List.lookup_cons]
   have hf:k' = .free:=by
    cases k' <;> first | rfl | (exfalso; revert hc; simp)
   split at h'
   ·right
    injection h' with h'
    rw [hf]
    exact ⟨h'.symm,rfl⟩
   ·exact ih h'
  ·rw [if_neg hc,List.lookup_cons] at h'
   rw [List.lookup_cons]
   split at h'
   ·exact .inl h'
   ·exact ih h'
theorem CompS.of {X:Cx} {scope:Scope} {bs:List Bool} {ext:List Str} {pins:List (Addr × Obj)} {σ:St} {H:Hp} {s:Shared} (I:Inv X pins σ H s) (h:jT scope X.env X.N bs = true):CompS X scope (clOf X.env scope.names []) bs ext:=by
 unfold jT at h
 simp only [Bool.and_eq_true,List.all_eq_true] at h
 obtain ⟨⟨⟨⟨⟨h1,h2⟩,h3⟩,h4⟩,h5⟩,h6⟩:=h
 have hc:∀ p ∈ scope.names,p.2 = .free→∃ c,X.env.cells.lookup p.1 = some c:=fun p hp hf => by
  have:=h5 p hp
  rw [hf] at this
  refine I.ok.has p.1 ?_
  simpa using this
 have nocell:∀ {x:Str},scope.names.lookup x≠some .cell:=fun {x} e => by
  have:=h1 _ (mem_of_lookup e)
  simp at this
 refine ⟨clos_eq scope hc,fun y hy => by simpa using h1 y hy,by simpa using h2,fun y hy hl => ?_,fun x c e => ZY scope.names [] hc (fun _ _ z => by simp at z) x c e,fun x hx => ?_,by simpa using h4,fun i x hN hb hv => ?_⟩
 ·have:=h3 y hy
  rw [hl] at this
  simpa using this
 ·refine ZZ scope.names [] x (.inl ?_)
  rcases hx with hx | hx
  ·rcases zm hx with z | ⟨_,z⟩
   ·exact absurd z nocell
   ·exact mem_of_lookup z
  ·rcases zm hx with z | ⟨z,_⟩
   ·exact mem_of_lookup z
   ·cases z
 ·have hz:(x,true) ∈ X.N.zip bs:=by
   have:(X.N.zip bs)[i]? = some (x,true):=by
    rw [List.getElem?_zip_eq_some]; exact ⟨hN,hb⟩
   exact List.mem_of_getElem? this
  have hf:=h6 _ hz
  have hf:scope.names.lookup x = some .free:=by simpa using hf
  have hk:=h5 _ (mem_of_lookup hf)
  have hk:X.env.kindOf x = some .cell∨X.env.kindOf x = some .free:=by simpa using hk
  refine ⟨fun z => ?_,hk, ?_⟩
  ·rcases zm z with q | ⟨q,_⟩
   ·rw [hf] at q; cases q
   ·cases q
  ·rcases hk with q | q
   ·exact .inr (.inl q)
   ·exact .inr (.inr q)
section
variable {X:Cx} {elt tg iter:Expr} {ifs:List Expr} {scope:Scope} {bs:List Bool} {ext:List Str} {pos:Pos} {wi:TI} {g:TG} {tt:TT} {te:TE}
abbrev cxB (X:Cx) (scope:Scope) (ext:List Str) (fp:List Addr) (s:Shared) (H:Hp):Cx:=cxC X scope (clOf X.env scope.names []) (X.N ++ ext) fp s H
theorem pe_lc (bs:List Bool) (ext:List Str) (hi:PI X tg iter wi) (hg:∀ fp s H,PG (cxB X scope ext fp s H) tg g) (ht:∀ fp s H,PTs (cxB X scope ext fp s H) ifs tt) (he:∀ fp s H,PE (cxB X scope ext fp s H) elt te)
  (hk:jT scope X.env X.N bs = true:=by rfl) (hc:X.calm = true:=by rfl) (hs:∀ x,foldedSetIterable iter X.env x = pure x:=by intro _; rfl) :
  PE X (.ListComp elt [⟨tg,iter,ifs,0⟩] scope pos) (vK wi bs ext.length g tt te):=fun pins s σ H Q I h => pe_comp (CompS.of I hk) hc hi hg ht he hs pins s σ H Q I h
theorem ps_lc {i:Nat} {x:Str} {pos' spos:Pos} (bs:List Bool) (ext:List Str) (hN:X.N.Nodup) (hix:X.N[i]? = some x) (hx:X.env.scope.names.lookup x = some .local) (hi:PI X tg iter wi) (hg:∀ fp s H,PG (cxB X scope ext fp s H) tg g) (ht:∀ fp s H,PTs (cxB X scope ext fp s H) ifs tt) (he:∀ fp s H,PE (cxB X scope ext fp s H) elt te)
  (hk:jT scope X.env X.N bs = true:=by rfl) (hc:X.calm = true:=by rfl)
  (hsw:swapsWith (.ListComp elt [⟨tg,iter,ifs,0⟩] scope pos) (some (.Name x pos')) spos.line X.env = pure true:=by rfl) (hs:∀ x,foldedSetIterable iter X.env x = pure x:=by intro _; rfl) :
  PS X (.Assign [.Name x pos'] (.ListComp elt [⟨tg,iter,ifs,0⟩] scope pos) spos) (tAsg (vK wi bs ext.length g tt te) (qI i)):=fun pins s σ H D I h => ps_comp (CompS.of I hk) hc hN hix hx hi hg ht he hsw hs pins s σ H D I h
end
def CDivB (i j:Int):Prop:=0 < j∧j.natAbs.log2 < 9000
theorem noPyl {i j:Int} (h:CDivB i j):Builtin.divisionGoesByPylong i j = false:=PyProof.noPylong_of_log2 h.2
theorem Zt {X:Cx}:OpR X (binaryOp .FloorDiv) (rI CDivB fun i j => .int (i / j)):=opI fun i j _ _ _ _ _ hc q => by
 refine floordiv_int (by have:=hc.1; omega) ?_ (.inl (noPyl hc))
 rw [Int.fdiv_eq_ediv_of_nonneg _ (by have:=hc.1; omega)]
 exact q
section
variable {σ:St} {H:Hp} {Q:VK}
theorem rd_I {C:Int→Int→Prop} {g:Int→Int→V} {i j:Int}:rI C g (.int i) (.int j) H Q = (C i j∧Q (g i j) H) :=
 propext ⟨fun ⟨_,_,e1,e2,h⟩ => by cases e1; cases e2; exact h,fun h => ⟨i,j,rfl,rfl,h⟩⟩
theorem zh {g:Int→Int→V} {i j:Int}:rI0 g (.int i) (.int j) H Q = Q (g i j) H :=
 propext ⟨fun ⟨_,_,e1,e2,h⟩ => by cases e1; cases e2; exact h,fun h => ⟨i,j,rfl,rfl,h⟩⟩
theorem rd_U {g:Int→V} {i:Int}:rU g (.int i) H Q = Q (g i) H :=
 propext ⟨fun ⟨_,e1,h⟩ => by cases e1; exact h,fun h => ⟨i,rfl,h⟩⟩
theorem vb {t:TE} {R:Bool→Hp→Prop}:vS t σ H R = t σ H fun x H' => ∃ k,x = .bl k∧R k H':=rfl
theorem zg {k:Bool} {R:Bool→Prop}:(∃ k',V.bl k = .bl k'∧R k') = R k:=propext ⟨fun ⟨_,e,h⟩ => by cases e; exact h,fun h => ⟨k,rfl,h⟩⟩
theorem zf {i:Int} {R:Int→Prop}:(∃ j,([V.int i]:List V) = [V.int j]∧R j) = R i:=propext ⟨fun ⟨_,e,h⟩ => by cases e; exact h,fun h => ⟨i,rfl,h⟩⟩
theorem ze {a b:Int} {R:Int→Int→Prop}:(∃ i j,([V.int a,V.int b]:List V) = [V.int i,V.int j]∧R i j) = R a b:=propext ⟨fun ⟨_,_,e,h⟩ => by cases e; exact h,fun h => ⟨a,b,rfl,h⟩⟩
theorem zd {a:Addr} {R:Addr→List V→Prop}:(∃ p ys,([V.ref a]:List V) = [V.ref p]∧R p ys) = ∃ ys,R a ys:=propext ⟨fun ⟨_,ys,e,h⟩ => by cases e; exact ⟨ys,h⟩,fun ⟨ys,h⟩ => ⟨a,ys,rfl,h⟩⟩
theorem xo {p x:Addr} {o o':HO} (hp:H p = none) (h:H x = some o):upd H p o' x = some o:=by rw [upd_ne (vk h hp)]; exact h
theorem j5 {p x:Addr} {o o':HO} (hn:x≠p) (h:H x = some o):upd H p o' x = some o:=by rw [upd_ne hn]; exact h
theorem QC {p x:Addr} {o':HO} (h:upd H p o' x = none):H x = none∧x≠p:=by
 have hx:x≠p:=fun e => by subst e; rw [upd_same] at h; cases h
 rw [upd_ne hx] at h
 exact ⟨h,hx⟩
theorem Same.upd {H1:Hp} {p:Addr} {o:HO} (s:Same H H1) (h:H p = none):Same H (upd H1 p o):=fun b o' e => by
 rw [upd_ne (vk e h)]; exact s b o' e
theorem ExtS.nl:ExtS [] []:=fun _ _ h => h
theorem ExtS.no {a b:St} {x:Option V} (h:ExtS a b):ExtS (none :: a) (x :: b):=fun i v e => by
 cases i with
 | zero => simp at e
 | succ i => simpa using h i v (by simpa using e)
theorem ExtS.sm {a b:St} {x:Option V} (h:ExtS a b):ExtS (x :: a) (x :: b):=fun i v e => by
 cases i with
 | zero => simpa using e
 | succ i => simpa using h i v (by simpa using e)
end
structure Def (P:Program) (w:World) (K:PySem.W.Frag) (mg:Str→Option Value) (base:Heap) (x:Str) (k:Nat) (ps:List Str) (sp:Sp):Prop where
 ex:∃ (f:Addr) (fd:FuncData),mg x = some (.ref f)∧PySem.W.keepIn K (.ref f) = true∧Binds K fd ps []∧FnOk P w K mg base CX0 k f fd ps sp
section
variable {X:Cx} {x:Str} {k:Nat} {ps:List Str} {sp:Sp} {p pos:Pos} {e:Expr} {es:List Expr} {t:TA}
theorem pe_def (D:Def X.prog X.w X.K X.mg X.base x k ps sp) (hr:Room k X.A) (ha:PA X (e :: es) t) (hg:Gl X x:=by rfl) (hdb:(x == ("__debug__" : Str)) = false:=by decide) (he:starEach (e :: es) X.env = (false,eval e X.env) :: starEach es X.env:=by rfl) (hpl:(backTo pos (starEach es X.env)).any (·.1) = false:=by rfl) :
  PE X (.Call (.Name x p) (e :: es) [] pos) (vL sp [] E0 t):=by
 obtain ⟨f,fd,h1,h2,h3,h4⟩:=D.ex
 exact pe_call h4 hr hg h1 h2 h3 .nil pass0 ha hdb he hpl
end
def rIsi (K:PySem.W.Frag):List V→Hp→VK→Prop:=fun xs H Q => ∃ x n t b,xs = [x, .ty n]∧TyOf K H x (.type t)∧PySem.W.kitOne K (.type t) (.type n) = some b∧Q (.bl b) H
theorem call_isi {X:Cx}:xz X (.builtin "isinstance") (rIsi X.K):=by
 intro pins s σ H xs us Q I r h
 obtain ⟨x,n,t,b,rfl,ty,e,q⟩:=h
 obtain ⟨u,v,rfl,ru,rv⟩:=XO r
 obtain rfl:v = Value.type n:=rv
 exact Vb I ru ty e fun tk => ⟨.bl b,H,I.tok tk,rfl,q⟩
inductive DE (K:PySem.W.Frag) (H:Hp):Nat→V→V→Bool→Prop
 | flat {n:Nat} {x y:V}:j4 x = true→j4 y = true→DE K H n x y (eqV x y)
 | same {n:Nat} {a:Addr}:DE K H n (.ref a) (.ref a) true
 | tup {n:Nat} {a b:Addr} {xs ys:List V} {e:Nat→Bool}:a≠b→SqT K H a xs→SqT K H b ys→(∀ (j:Nat) x y,xs[j]? = some x→ys[j]? = some y→DE K H n x y (e j))→DE K H (n + 1) (.ref a) (.ref b) ((List.range (min xs.length ys.length)).all e && xs.length == ys.length)
 | lst {n:Nat} {a b:Addr} {xs ys:List V} {e:Nat→Bool}:a≠b→SqL K H a xs→SqL K H b ys→xs.length = ys.length→(∀ (j:Nat) x y,xs[j]? = some x→ys[j]? = some y→DE K H n x y (e j))→DE K H (n + 1) (.ref a) (.ref b) ((List.range xs.length).all e)
 | lstN {n:Nat} {a b:Addr} {xs ys:List V}:a≠b→SqL K H a xs→SqL K H b ys→xs.length≠ys.length→DE K H (n + 1) (.ref a) (.ref b) false
theorem jq {A:Around}:A.in1.units = A.units + 1:=rfl
theorem DE.eqAt {X:Cx} {pins:List (Addr × Obj)} {σ:St} {H:Hp} {s:Shared} (I:Inv X pins σ H s) {n:Nat} {x y:V} {b:Bool} (d:DE X.K H n x y b):∀ {A:Around} {u v:Value},A.units + n < cLine→RelV x u→RelV y v→SeqAt.EqAt A s u v b:=by
 induction d with
 | flat f g => intro A u v _ rx ry; exact eqAt_V rx ry f g
 | same =>
  intro A u v _ rx ry
  obtain rfl:u = _:=rx
  obtain rfl:v = _:=ry
  exact SeqAt.EqAt.same _
 | @tup n a b xs ys e ne ha hb _ ih =>
  intro A u v hu rx ry
  obtain rfl:u = Value.ref a:=rx
  obtain rfl:v = Value.ref b:=ry
  obtain ⟨its,r1,p1,_⟩:=I.tuple ha
  obtain ⟨its2,r2,p2,_⟩:=I.tuple hb
  have:=SeqAt.RcAt.tuples (A:=A) (e:=e) p1 p2 (by omega) fun j h1 h2 => by
   have l1:j < xs.length:=by rw [r1.length]; simpa using h1
   have l2:j < ys.length:=by rw [r2.length]; simpa using h2
   obtain ⟨u1,q1,s1⟩:=r1.get (List.getElem?_eq_getElem l1)
   obtain ⟨u2,q2,s2⟩:=r2.get (List.getElem?_eq_getElem l2)
   have e1:its.toArray[j] = u1:=by
    have:=List.getElem?_eq_some_iff.mp q1
    obtain ⟨_,z⟩:=this
    simpa using z
   have e2:its2.toArray[j] = u2:=by
    have:=List.getElem?_eq_some_iff.mp q2
    obtain ⟨_,z⟩:=this
    simpa using z
   rw [e1,e2]
   exact ih j _ _ (List.getElem?_eq_getElem l1) (List.getElem?_eq_getElem l2) (by rw [jq]; omega) s1 s2
  rw [List.size_toArray,List.size_toArray, ← r1.length, ← r2.length] at this
  exact .of_refs ne this
 | @lst n a b xs ys e ne ha hb hl _ ih =>
  intro A u v hu rx ry
  obtain rfl:u = Value.ref a:=rx
  obtain rfl:v = Value.ref b:=ry
  obtain ⟨its,r1,p1,_⟩:=I.list ha
  obtain ⟨its2,r2,p2,_⟩:=I.list hb
  have:=SeqAt.RcAt.lists (A:=A) (e:=e) p1.isList p2.isList (by simp [← r1.length, ← r2.length,hl]) (by omega) fun j h1 h2 => by
   have l1:j < xs.length:=by rw [r1.length]; simpa using h1
   have l2:j < ys.length:=by rw [r2.length]; simpa using h2
   obtain ⟨u1,q1,s1⟩:=r1.get (List.getElem?_eq_getElem l1)
   obtain ⟨u2,q2,s2⟩:=r2.get (List.getElem?_eq_getElem l2)
   have e1:its.toArray[j] = u1:=by
    have:=List.getElem?_eq_some_iff.mp q1
    obtain ⟨_,z⟩:=this
    simpa using z
   have e2:its2.toArray[j] = u2:=by
    have:=List.getElem?_eq_some_iff.mp q2
    obtain ⟨_,z⟩:=this
    simpa using z
   rw [e1,e2]
   exact ih j _ _ (List.getElem?_eq_getElem l1) (List.getElem?_eq_getElem l2) (by rw [jq]; omega) s1 s2
  rw [List.size_toArray, ← r1.length] at this
  exact .of_refs ne this
 | @lstN n a b xs ys ne ha hb hl =>
  intro A u v hu rx ry
  obtain rfl:u = Value.ref a:=rx
  obtain rfl:v = Value.ref b:=ry
  obtain ⟨its,r1,p1,_⟩:=I.list ha
  obtain ⟨its2,r2,p2,_⟩:=I.list hb
  exact .of_refs ne (SeqAt.RcAt.lists_lengths p1.isList p2.isList (by simp [← r1.length, ← r2.length,hl]) (by omega))
structure Nms (mg:Str→Option Value):Prop where
 abs:mg "abs" = none
 len:mg "len" = none
 min:mg "min" = none
 max:mg "max" = none
 sum:mg "sum" = none
 sorted:mg "sorted" = none
 all:mg "all" = none
 any:mg "any" = none
 isinstance:mg "isinstance" = none
 range:mg "range" = none
 int:mg "int" = none
 list:mg "list" = none
 str:mg "str" = none
 bool:mg "bool" = none
 tuple:mg "tuple" = none
 zip:mg "zip" = none
 enumerate:mg "enumerate" = none
 dict:mg "dict" = none
theorem b_abs:bootBuiltins "abs" = some (.builtin "abs"):=by decide +kernel
theorem XH:bootBuiltins "len" = some (.builtin "len"):=by decide +kernel
theorem b_all:bootBuiltins "all" = some (.builtin "all"):=by decide +kernel
theorem qA:bootBuiltins "isinstance" = some (.builtin "isinstance"):=by decide +kernel
theorem XJ:bootBuiltins "int" = some (.type "int"):=by decide +kernel
theorem Qc:bootBuiltins "list" = some (.type "list"):=by decide +kernel
theorem b_str:bootBuiltins "str" = some (.type "str"):=by decide +kernel
theorem b_bool:bootBuiltins "bool" = some (.type "bool"):=by decide +kernel
theorem Zd:bootBuiltins "tuple" = some (.type "tuple"):=by decide +kernel
def SameB (b:Addr) (H H':Hp):Prop:=∀ x o,H x = some o→x≠b→H' x = some o
theorem SameB.trans {b:Addr} {H H1 H2:Hp} (h:SameB b H H1) (k:SameB b H1 H2):SameB b H H2:=fun x o e n => k x o (h x o e n) n
theorem SameB.upd {b p:Addr} {H H1:Hp} {o:HO} (s:SameB b H H1) (h:H p = none∨p = b):SameB b H (upd H1 p o):=fun x o' e n => by
 have:x≠p:=by
  rcases h with h | h
  ·exact vk e h
  ·rw [h]; exact n
 rw [upd_ne this]; exact s x o' e n
def rLenL:List V→Hp→VK→Prop:=fun vs H Q => ∃ p ys,vs = [.ref p]∧H p = some (.lst ys)∧Q (.int ys.length) H
theorem kC {X:Cx}:xz X (.builtin "len") rLenL:=by
 intro pins s σ H xs us Q I r h
 obtain ⟨p,ys,e,h,q⟩:=h
 exact jZ pins s σ H xs us Q I r ⟨p,ys,e, .inl (SqL.of h),q⟩
section
variable {K:PySem.W.Frag} {H:Hp} {Q:VK} {p:Addr} {xs:List V} {v:V} {i:Int}
theorem qH (h:H p = some (.lst xs)) (e:atI xs i = some v) (q:Q v H):rIxL K (.ref p) (.int i) H Q:=⟨p,xs,i,v,rfl,rfl,SqL.of h,e,q⟩
theorem vI (h:H p = some (.tup xs)) (e:atI xs i = some v) (q:Q v H):rIxT K (.ref p) (.int i) H Q:=⟨p,xs,i,v,rfl,rfl,SqT.of h,e,q⟩
theorem at0 {α:Type} {x:α} {l:List α}:atI (x :: l) 0 = some x:=xy (j:=0) rfl
theorem at1 {α:Type} {x y:α} {l:List α}:atI (x :: y :: l) 1 = some y:=xy (j:=1) rfl
theorem vh {j:Nat} {R:Hp→Prop} (h:H p = some (.lst xs)) (e:ixN xs.length i = some j) (q:R (upd H p (.lst (xs.set j v)))):rSetL (.ref p) (.int i) v H R:=⟨p,xs,i,j,rfl,rfl,h,e,q⟩
theorem v3 {x y:V} (h:scal x y = true) (q:Q (.bl (decide (x = y))) H):rEq x y H Q:=⟨h,q⟩
theorem zy {x y:V} (h:scal x y = true) (q:Q (.bl (!decide (x = y))) H):rNe x y H Q:=⟨h,q⟩
theorem vH (h:H p = some (.lst xs)) (q:Q (.int xs.length) H):rLenL [.ref p] H Q:=⟨p,xs,rfl,h,q⟩
theorem qT {σ:St} {x y:V} {i j:Nat} {R:St→Hp→Prop} (h:H p = some (.tup [x,y])) (q:R ((σ.set i (some x)).set j (some y)) H):gTup K 2 (vJ (qI i) (vJ (qI j) gNil)) (.ref p) σ H R :=
 ⟨p,_,rfl,SqT.of h,rfl,_,_,rfl,_,_,rfl,rfl,q⟩
theorem qS {σ:St} {x y z:V} {i j k:Nat} {R:St→Hp→Prop} (h:H p = some (.tup [x,y,z])) (q:R (((σ.set i (some x)).set j (some y)).set k (some z)) H):gTup K 3 (vJ (qI i) (vJ (qI j) (vJ (qI k) gNil))) (.ref p) σ H R :=
 ⟨p,_,rfl,SqT.of h,rfl,_,_,rfl,_,_,rfl,_,_,rfl,rfl,q⟩
theorem qy {i j:Int}:(V.int i = V.int j) = (i = j):=propext ⟨fun h => by cases h; rfl,fun h => by rw [h]⟩
theorem qx {i j:Str}:(V.str i = V.str j) = (i = j):=propext ⟨fun h => by cases h; rfl,fun h => by rw [h]⟩
end
section
variable {X:Cx} {i j k:Nat} {x y z:Str} {px py pz pos:Pos} {kk:Nat}
theorem pg_t2 (hN:X.N.Nodup) (hc:X.calm = true) (hi:X.N[i]? = some x) (hj:X.N[j]? = some y) (lx:Loc X.env.scope x) (ly:Loc X.env.scope y)
  (fx:X.fn x = true∨X.env.scope.names.lookup x = some .local) (fy:X.fn y = true∨X.env.scope.names.lookup y = some .local) :
  PG X (.Tuple [.Name x px, .Name y py] kk pos) (gTup X.K 2 (vJ (qI i) (vJ (qI j) gNil))):=Jr hc (xH (jO hN hi lx fx) (xH (jO hN hj ly fy) VI))
theorem pg_t3 (hN:X.N.Nodup) (hc:X.calm = true) (hi:X.N[i]? = some x) (hj:X.N[j]? = some y) (hk:X.N[k]? = some z) (lx:Loc X.env.scope x) (ly:Loc X.env.scope y) (lz:Loc X.env.scope z)
  (fx:X.fn x = true∨X.env.scope.names.lookup x = some .local) (fy:X.fn y = true∨X.env.scope.names.lookup y = some .local) (fz:X.fn z = true∨X.env.scope.names.lookup z = some .local) :
  PG X (.Tuple [.Name x px, .Name y py, .Name z pz] kk pos) (gTup X.K 3 (vJ (qI i) (vJ (qI j) (vJ (qI k) gNil)))):=Jr hc (xH (jO hN hi lx fx) (xH (jO hN hj ly fy) (xH (jO hN hk lz fz) VI)))
end
section
variable {X:Cx} {K:PySem.W.Frag}
theorem qm (h:X.K = K):IxR X (rIxL K):=h ▸ ix_list
theorem qt (h:X.K = K):IxR X (rIxT K):=h ▸ ix_tup
theorem pi_listK {tg l:Expr} {tl:TE} (h:X.K = K) (hl:PE X l tl):PI X tg l (XC K tl):=h ▸ pi_list hl
theorem Zl (h:X.K = K):SlR X (rSlL K):=h ▸ sl_list
theorem kj (h:X.K = K):OpR X (compareOp .In) (rIn K false):=h ▸ Jz
theorem vZ (h:X.K = K):xz X (.builtin "isinstance") (rIsi K):=h ▸ call_isi
def tTru (K:PySem.W.Frag) (ta:TE):TT:=fun σ H Q => ta σ H fun x H' => ∃ k,TruV K x H' k∧Q k H'
theorem pg_t2K {i j:Nat} {x y:Str} {px py pos:Pos} {kk:Nat} (h:X.K = K) (hN:X.N.Nodup) (hc:X.calm = true) (hi:X.N[i]? = some x) (hj:X.N[j]? = some y) (lx:Loc X.env.scope x) (ly:Loc X.env.scope y)
  (fx:X.fn x = true∨X.env.scope.names.lookup x = some .local) (fy:X.fn y = true∨X.env.scope.names.lookup y = some .local) :
  PG X (.Tuple [.Name x px, .Name y py] kk pos) (gTup K 2 (vJ (qI i) (vJ (qI j) gNil))):=h ▸ pg_t2 hN hc hi hj lx ly fx fy
theorem pg_t3K {i j k:Nat} {x y z:Str} {px py pz pos:Pos} {kk:Nat} (h:X.K = K) (hN:X.N.Nodup) (hc:X.calm = true) (hi:X.N[i]? = some x) (hj:X.N[j]? = some y) (hk:X.N[k]? = some z) (lx:Loc X.env.scope x) (ly:Loc X.env.scope y) (lz:Loc X.env.scope z)
  (fx:X.fn x = true∨X.env.scope.names.lookup x = some .local) (fy:X.fn y = true∨X.env.scope.names.lookup y = some .local) (fz:X.fn z = true∨X.env.scope.names.lookup z = some .local) :
  PG X (.Tuple [.Name x px, .Name y py, .Name z pz] kk pos) (gTup K 3 (vJ (qI i) (vJ (qI j) (vJ (qI k) gNil)))):=h ▸ pg_t3 hN hc hi hj hk lx ly lz fx fy fz
def LmStep (x:V) (H:Hp) (k:Prop):Prop:=∃ p xs,x = .ref p∧H p = some (.lst xs)∧k
theorem zA {p:Addr} {xs:List V} {H:Hp} {k:Prop} (h:H p = some (.lst xs)) (q:k):LmStep (.ref p) H k:=⟨p,xs,rfl,h,q⟩
theorem app_at {p:Addr} {xs:List V} {y:V} {H:Hp} {Q:VK} (h:H p = some (.lst xs)) (hz:xs.length < sizeLine) (q:Q .non (upd H p (.lst (xs ++ [y])))):VG (.ref p) [y] H Q:=⟨p,xs,y,rfl,rfl,h,hz,q⟩
def tLM (r:V→List V→Hp→VK→Prop) (to:TE) (t:TA):TE:=fun σ H Q => to σ H fun x H1 => LmStep x H1 (t σ H1 fun vs H2 => r x vs H2 Q)
theorem pe_lm {o e:Expr} {es:List Expr} {to:TE} {t:TA} {name:Str} {apos cpos:Pos} {id:String} {r:V→List V→Hp→VK→Prop} (slot:Slot "list" name id) (hty:typeOf (.builtin id) = pure (.type "method_descriptor")) (hm:MtR X id r) (ho:PE X o to) (ha:PA X (e :: es) t)
  (hbase:attributeBase o name X.env (eval o X.env) = eval o X.env:=by rfl)
  (hfew:((backTo cpos (starEach (e :: es) X.env)).all (fun x => !x.1) && (backToKw cpos (keywordEach [] X.env)).all (fun x => x.1.isSome)
   && decide ((e :: es).length + ([]:List Keyword).length + (if ([]:List Keyword).isEmpty then 0 else 1) < 30)) = true:=by rfl)
  (hline:(apos.endLine == cpos.line) = true:=by rfl) (hs:starEach (e :: es) X.env = (false,eval e X.env) :: starEach es X.env:=by rfl) (hplain:(backTo cpos (starEach es X.env)).any (·.1) = false:=by rfl) :
  PE X (.Call (.Attribute o name apos) (e :: es) [] cpos) (tLM r to t):=by
 intro pins s σ H Q I h
 refine wpAny_Call_method_late hbase hfew hline rfl (thn (ho pins s σ H _ I h) fun v s1 ⟨x,H1,I1,r1,p,xs,ex,hp,q1⟩ => ?_)
 subst ex
 obtain ⟨h1,h2⟩:=tyV_is (T := "list") I1 r1 (.inl ⟨rfl,xs,SqL.of hp⟩)
 refine ⟨"list", id,PySem.F.plainAttrs_list,slot,hty,h1,h2, ?_⟩
 have hA:=ha cpos pins s1 σ H1 _ I1 q1
 rw [hs] at hA ⊢
 refine Calls.callWith_builtin (by show (false || (backTo cpos (starEach es X.env)).any (·.1)) = false; rw [hplain] <;> rfl) (Calls.evalArgs_plain ?_)
 exact thn hA fun us s2 ⟨vs,H2,I2,r2,q2⟩ => hm pins s2 σ H2 (.ref p) vs v us Q I2 r1 r2 q2
end
def ForW (J:It) (g:TG) (tb:TS) (D:Ends) (σ:St) (H1:Hp):Prop:=∃ W:Nat→Nat→St→Hp→Prop,(∃ m,W 0 m σ H1)∧∀ i m σ H,W i m σ H →
 (J.stop i H∧D.nx σ H)∨(J.go i H∧∃ N:St→Hp→Prop,(∀ σ' H',N σ' H'→∃ m',m' < m∧W (i + 1) m' σ' H')∧∀ x H',J.yld i H x H'→g x σ H' fun σ2 H2 => tb { D with nx:=N,ct:=N,bk:=D.nx } σ2 H2)
theorem vC {wi:TI} {g:TG} {tb:TS} {D:Ends} {σ:St} {H:Hp}:tFor wi g tb D σ H = wi σ H fun J H1 => ForW J g tb D σ H1:=rfl
def ItStep (K:PySem.W.Frag) (x:V) (H:Hp) (R:It→Hp→Prop):Prop:=∃ a,x = .ref a∧(∃ xs,SqL K H a xs)∧R (Itl K a) H
theorem qO {K:PySem.W.Frag} {tl:TE} {σ:St} {H:Hp} {R:It→Hp→Prop}:XC K tl σ H R = tl σ H fun x H1 => ItStep K x H1 R:=rfl
theorem zC {K:PySem.W.Frag} {p:Addr} {xs:List V} {H:Hp} {R:It→Hp→Prop} (h:H p = some (.lst xs)) (q:R (Itl K p) H):ItStep K (.ref p) H R:=⟨p,rfl,⟨xs,SqL.of h⟩,q⟩
def RgStep (vs:List V) (H:Hp) (R:It→Hp→Prop):Prop:=∃ j:Int,vs = [.int j] ∧ -(2 ^ 62)≤j∧j < 2 ^ 62∧R (Itr 0 j.toNat) H
theorem qN {ta:TA} {σ:St} {H:Hp} {R:It→Hp→Prop}:Ka ta σ H R = ta σ H fun vs H1 => RgStep vs H1 R:=rfl
theorem rg_at {j:Int} {H:Hp} {R:It→Hp→Prop} (h1 : -(2 ^ 62)≤j) (h2:j < 2 ^ 62) (q:R (Itr 0 j.toNat) H):RgStep [.int j] H R:=⟨j,rfl,h1,h2,q⟩
theorem zc {k:Int} {R:Int→Prop}:(∃ i,V.int k = .int i∧R i) = R k:=propext ⟨fun ⟨_,e,h⟩ => by cases e; exact h,fun h => ⟨k,rfl,h⟩⟩
theorem jW {K:PySem.W.Frag} {H:Hp} {Q:VK} {x:V} {n t:String} {b:Bool} (ty:TyOf K H x (.type t)) (e:PySem.W.kitOne K (.type t) (.type n) = some b) (q:Q (.bl b) H):rIsi K [x, .ty n] H Q:=⟨x,n,t,b,rfl,ty,e,q⟩
def rEqT (K:PySem.W.Frag):R2:=fun x y H Q => ∃ a b xs ys e,x = .ref a∧y = .ref b∧SqT K H a xs∧SqT K H b ys∧(∀ (j:Nat) x y,xs[j]? = some x→ys[j]? = some y→DE K H 20 x y (e j))∧Q (.bl ((List.range (min xs.length ys.length)).all e && xs.length == ys.length)) H
theorem op_eqTK {X:Cx} {K:PySem.W.Frag} (hK:X.K = K) (hu:X.A.units + 64 < cLine):OpR X (compareOp .Eq) (rEqT K):=by
 subst hK
 intro pins s σ H x y v u Q I rx ry h
 obtain ⟨a,b,xs,ys,e,rfl,rfl,ha,hb,he,q⟩:=h
 obtain rfl:v = Value.ref a:=rx
 obtain rfl:u = Value.ref b:=ry
 obtain ⟨its,r1,p1,_⟩:=I.tuple ha
 obtain ⟨its2,r2,p2,_⟩:=I.tuple hb
 refine SeqAt.eq_tupleAt (A:=X.A) (e:=e) p1 p2 (by omega) (fun j h1 h2 => ?_) ⟨.bl _,H,I,rfl, ?_⟩
 ·have l1:j < xs.length:=by rw [r1.length]; simpa using h1
  have l2:j < ys.length:=by rw [r2.length]; simpa using h2
  obtain ⟨u1,q1,s1⟩:=r1.get (List.getElem?_eq_getElem l1)
  obtain ⟨u2,q2,s2⟩:=r2.get (List.getElem?_eq_getElem l2)
  have e1:its.toArray[j] = u1:=by
   obtain ⟨_,z⟩:=List.getElem?_eq_some_iff.mp q1
   simpa using z
  have e2:its2.toArray[j] = u2:=by
   obtain ⟨_,z⟩:=List.getElem?_eq_some_iff.mp q2
   simpa using z
  rw [e1,e2]
  exact (he j _ _ (List.getElem?_eq_getElem l1) (List.getElem?_eq_getElem l2)).eqAt I (by rw [jq]; omega) s1 s2
 ·rw [List.size_toArray,List.size_toArray, ← r1.length, ← r2.length]
  exact q
def kW:V→Bool
 | .int _ => true
 | .str _ => true
 | _ => false
def rEqFT (K:PySem.W.Frag):R2:=fun x y H Q => ∃ a xs,kW x = true∧y = .ref a∧SqT K H a xs∧Q (.bl false) H
def rEqTF (K:PySem.W.Frag):R2:=fun x y H Q => ∃ a xs,kW y = true∧x = .ref a∧SqT K H a xs∧Q (.bl false) H
theorem op_eqFTK {X:Cx} {K:PySem.W.Frag} (hK:X.K = K) (hu:X.A.units + 64 < cLine):OpR X (compareOp .Eq) (rEqFT K):=by
 subst hK
 intro pins s σ H x y v u Q I rx ry h
 obtain ⟨a,xs,hf,rfl,ha,q⟩:=h
 obtain rfl:u = Value.ref a:=ry
 obtain ⟨its,r1,p1,_⟩:=I.tuple ha
 cases x with
 | int i =>
  obtain ⟨t,rfl⟩:=rx
  exact SeqAt.RcAt.int_tuple i t p1 (by omega) _ _ _ _ ⟨.bl false,H,I,rfl,q⟩
 | str i =>
  obtain ⟨t,rfl⟩:=rx
  exact SeqAt.RcAt.str_tuple i t p1 (by omega) _ _ _ _ ⟨.bl false,H,I,rfl,q⟩
 | _ => exact absurd (show false = true from hf) Bool.false_ne_true
theorem op_eqTFK {X:Cx} {K:PySem.W.Frag} (hK:X.K = K) (hu:X.A.units + 64 < cLine):OpR X (compareOp .Eq) (rEqTF K):=by
 subst hK
 intro pins s σ H x y v u Q I rx ry h
 obtain ⟨a,xs,hf,rfl,ha,q⟩:=h
 obtain rfl:v = Value.ref a:=rx
 obtain ⟨its,r1,p1,_⟩:=I.tuple ha
 cases y with
 | int i =>
  obtain ⟨t,rfl⟩:=ry
  exact SeqAt.RcAt.tuple_int i t p1 (by omega) _ _ _ _ ⟨.bl false,H,I,rfl,q⟩
 | str i =>
  obtain ⟨t,rfl⟩:=ry
  exact SeqAt.RcAt.tuple_str i t p1 (by omega) _ _ _ _ ⟨.bl false,H,I,rfl,q⟩
 | _ => exact absurd (show false = true from hf) Bool.false_ne_true
theorem op_eqW {X:Cx} {K:PySem.W.Frag} (hK:X.K = K) (hu:X.A.units + 64 < cLine):OpR X (compareOp .Eq) (fun x y H Q => rEq x y H Q∨rEqT K x y H Q∨rEqFT K x y H Q∨rEqTF K x y H Q) :=
 op_eq.or ((op_eqTK hK hu).or ((op_eqFTK hK hu).or (op_eqTFK hK hu)))
def rIsiT (K:PySem.W.Frag):List V→Hp→VK→Prop:=fun xs H Q => ∃ (x:V) (p:Addr) (ns:List String) (t:String) (b:Bool),xs = [x, .ref p]∧H p = some (.tup (ns.map V.ty))∧TyOf K H x (.type t)∧PySem.W.kitAny K (.type t) (ns.map Value.type) = some b∧Q (.bl b) H
theorem XN:∀ {ns:List String} {us:List Value},Vals (ns.map V.ty) us→us = ns.map Value.type
 | [],_,h => by cases h; rfl
 | n :: ns,_,h => by
  cases h with
  | cons r t =>
   have:=XN t
   subst this
   obtain rfl:=(show _ = Value.type n from r)
   rfl
theorem Vr {X:Cx} {K:PySem.W.Frag} (hK:X.K = K):xz X (.builtin "isinstance") (rIsiT K):=by
 subst hK
 intro pins s σ H xs us Q I r h
 obtain ⟨x,p,ns,t,b,rfl,hp,ty,e,q⟩:=h
 obtain ⟨u,v,rfl,ru,rv⟩:=XO r
 obtain rfl:v = Value.ref p:=rv
 obtain ⟨_,its,r1,o,ho,hc,n,hd⟩:=(show ObjOk X.prog X.w H s.heap p (.tup (ns.map V.ty)) from I.hok p _ hp)
 obtain rfl:=XN r1
 obtain ⟨c,dd,dt,sl⟩:=o
 simp only at hc hd
 subst hc hd
 have fin:∀ tk,EP X pins σ Q (.bool b) { s with toks:=tk }:=fun tk => ⟨.bl b,H,I.tok tk,rfl,q⟩
 cases ty with
 | non => cases (show u = Value.none from ru); exact PySem.W.kia_tup PySem.W.kitx_none I.kIn True.intro ho e (fun z => nomatch z) fin
 | bl y => cases (show u = Value.bool y from ru); exact PySem.W.kia_tup PySem.W.kitx_bool I.kIn True.intro ho e (fun z => nomatch z) fin
 | int i => obtain ⟨t,q'⟩:=(show ∃ t,u = Value.int i t from ru); cases q'; exact PySem.W.kia_tup PySem.W.kitx_int I.kIn True.intro ho e (fun z => nomatch z) fin
 | str y => obtain ⟨t,q'⟩:=(show ∃ t,u = Value.str y t from ru); cases q'; exact PySem.W.kia_tup PySem.W.kitx_str I.kIn True.intro ho e (fun z => nomatch z) fin
 | flt y => obtain ⟨t,q'⟩:=(show ∃ t,u = Value.float y t from ru); cases q'; exact PySem.W.kia_tup PySem.W.kitx_float I.kIn True.intro ho e (fun z => nomatch z) fin
 | @lst a xs ea =>
  cases (show u = Value.ref a from ru)
  obtain ⟨_,_,n,_,h1⟩:=(show ObjOk X.prog X.w H s.heap a (.lst xs) from I.hok a _ ea)
  exact PySem.W.kia_tup PySem.W.kitx_list I.kIn ⟨_,h1,rfl⟩ ho e (fun z => nomatch z) fin
 | @frz a ob xs ea =>
  cases (show u = Value.ref a from ru)
  obtain ⟨_,_,_,n,_,h1⟩:=(show ObjOk X.prog X.w H s.heap a (.frz ob (.lst xs)) from I.hok a _ ea)
  exact PySem.W.kia_tup PySem.W.kitx_list I.kIn ⟨_,h1,rfl⟩ ho e (fun z => nomatch z) fin
 | @tup a xs ea =>
  cases (show u = Value.ref a from ru)
  obtain ⟨_,_,_,o2,h1,h2,_⟩:=(show ObjOk X.prog X.w H s.heap a (.tup xs) from I.hok a _ ea)
  exact PySem.W.kia_tup PySem.W.kitx_tuple I.kIn ⟨o2,h1,h2⟩ ho e (fun z => nomatch z) fin
 | @dK a kvs ea =>
  cases (show u = Value.ref a from ru)
  obtain ⟨_,_,vs,_,p2⟩:=(show ObjOk X.prog X.w H s.heap a (.dK kvs) from I.hok a _ ea)
  obtain ⟨o2,es,ep,h1,h2,_⟩:=p2
  exact PySem.W.kia_tup PySem.W.kitx_dict I.kIn ⟨o2,h1,h2.1⟩ ho e (fun z => nomatch z) fin
 | @dT a kvs ea =>
  cases (show u = Value.ref a from ru)
  obtain ⟨_,_,xs,_,o2,es,ep,h1,h2,_⟩:=(show ObjOk X.prog X.w H s.heap a (.dT kvs) from I.hok a _ ea)
  exact PySem.W.kia_tup PySem.W.kitx_dict I.kIn ⟨o2,h1,h2.1⟩ ho e (fun z => nomatch z) fin
structure MDef (P:Program) (w:World) (K:PySem.W.Frag) (mg:Str→Option Value) (base:Heap) (C:Addr) (m:Str) (k:Nat) (ps:List Str) (sp:Sp):Prop where
 ex:∃ (f:Addr) (fd:FuncData),Meth K C m f∧Binds K fd ps []∧FnOk P w K mg base CX0 k f fd ps sp
theorem pe_mdef {X:Cx} {pl:Sem Bool} {C:Addr} {m:Str} {k:Nat} {ps:List Str} {sp:Sp} {o e:Expr} {es:List Expr} {ta:TE} {t:TA} {apos pos:Pos} (D:MDef X.prog X.w X.K X.mg X.base C m k ps sp) (c:Cls X.K C) (he:PE X o ta) (hr:Room k X.A) (ha:PA X (e :: es) t)
  (hst:starEach (e :: es) X.env = (false,eval e X.env) :: starEach es X.env:=by rfl) (hpl:(backTo pos (starEach es X.env)).any (·.1) = false:=by rfl)
  (ht:eval (.Call (.Attribute o m apos) (e :: es) [] pos) X.env = (do
   let ov ← eval o X.env
   standAt apos.atName
   let (f,first) ← holding [ov] (getMethod ov m pl)
   callWith pos f first (backTo pos (starEach (e :: es) X.env)) (backToKw pos (keywordEach [] X.env))):=by rfl):PE X (.Call (.Attribute o m apos) (e :: es) [] pos) (X3 C m sp [] E0 ta t):=by
 obtain ⟨f,fd,h1,h2,h3⟩:=D.ex
 exact pe_meth he c h1 h3 hr h2 .nil pass0 ha hst hpl ht
structure Tup3 (K:PySem.W.Frag) (mg:Str→Option Value) (nm:Str) (p:Addr) (x y z:Str):Prop where
 mg:mg nm = some (.ref p)
 lk:∃ (a b c:Tok) (n:Nat) (sl:Array (Option Value)),K.lookup p = some ⟨.type "tuple", none, .seq #[.str x a, .str y b, .str z c] n,sl⟩
theorem Tup3.ty {K:PySem.W.Frag} {mg:Str→Option Value} {nm:Str} {p:Addr} {x y z:Str} (T:Tup3 K mg nm p x y z) (H:Hp):tyV K "tuple" (.ref p) H:=by
 obtain ⟨a,b,c,n,sl,e⟩:=T.lk
 exact .inr (.inl ⟨rfl,_,e,rfl,rfl⟩)
def h00:Heap:={}
def Zx (h:Heap) (L:Addr):List (Addr × Obj):=(List.range h.objs.size).filterMap fun a => if a = L then none else (h.get? a).map fun o => (a,o)
theorem ZH (a:Addr):h00.get? a = none:=Heap.get?_none_of_le (Nat.zero_le _)
theorem news_mem {h:Heap} {L b:Addr} {o:Obj} (e:h.get? b = some o) (n:b≠L):(b,o) ∈ Zx h L:=by
 refine List.mem_filterMap.mpr ⟨b,List.mem_range.mpr (Heap.lt_size e), ?_⟩
 rw [if_neg n,e]
 rfl
theorem news_of {h:Heap} {L:Addr}:News h00 L h (Zx h L):=fun p hp => by
 obtain ⟨a,_,e⟩:=List.mem_filterMap.mp hp
 by_cases n:a = L
 ·rw [if_pos n] at e; cases e
 ·rw [if_neg n] at e
  cases q:h.get? a with
  | none => rw [q] at e; cases e
  | some o => rw [q] at e; cases e; exact ⟨q,n,ZH _⟩
theorem Inv.ledger {X:Cx} {pins:List (Addr × Obj)} {σ:St} {H:Hp} {s:Shared} (I:Inv X pins σ H s):∃ m,Fr h00 X.env.locals s.heap m∧News h00 X.env.locals s.heap (Zx s.heap X.env.locals) ∧
  ∀ (h':Heap) (tk:Nat),Fr h00 X.env.locals h' m→News h00 X.env.locals h' (Zx s.heap X.env.locals)→Inv X pins σ H { s with heap:=h',toks:=tk }:=by
 obtain ⟨m,hn,_⟩:=I.loc
 refine ⟨m,⟨hn,fun b o e => (by rw [ZH] at e; cases e),Nat.zero_le _⟩,news_of,fun h' tk F W => ?_⟩
 have kp:∀ b o,b≠X.env.locals→s.heap.get? b = some o→h'.get? b = some o:=fun b o n e => (W _ (news_mem e n)).1
 refine I.step (ch:=[]) (H':=H) (fun b hb => nomatch hb) (fun b o n _ _ e _ => kp b o n e) (fun b o n _ _ e _ => ⟨o.slots,kp b o n e⟩) (fun b o _ _ z => z) (fun b o _ e => ?_) (fun _ _ z => z) (fun _ _ _ z => z) (fun b ps z => ⟨#[],by simpa using z⟩) (fun m' hm' => ?_) (fun a o e => ?_) I.bare
 ·by_cases n:b = X.env.locals
  ·subst n
   obtain ⟨o',_,_,e',_⟩:=F.ns
   exact ⟨o',e'⟩
  ·exact ⟨o,kp b o n e⟩
 ·have:m' = m:=funext fun x => by
   obtain ⟨o,es,ep,e1,e2,e3,e4⟩:=hm'
   obtain ⟨o',es',ep',f1,f2,f3,f4⟩:=hn
   rw [e1] at f1; cases f1
   rw [e2] at f2; cases f2
   rw [← e4, ← f4]
  rw [this]
  exact F.ns
 ·refine (I.hok a o e).stay (fun b u hb q => kp b u ?_ q) (fun _ q => q) fun _ _ q => q
  intro z
  subst z
  have:=I.free
  rcases hb with hb | hb
  ·subst hb; rw [e] at this; cases this
  ·rw [hb] at this; cases this
theorem Z6:∀ {bs:List Bool} {us:List Value},Vals (bs.map V.bl) us→LSm.BoolsAre us bs
 | [],_,h => by cases h; exact .nil
 | b :: bs,_,h => by
  cases h with
  | cons r t =>
   obtain rfl:=(show _ = Value.bool b from r)
   exact .cons b (Z6 t)
def rAll:List V→Hp→VK→Prop:=fun xs H Q => ∃ (l:Addr) (bs:List Bool),xs = [.ref l]∧H l = some (.lst (bs.map V.bl))∧Q (.bl (bs.all id)) H
theorem call_all {X:Cx} (hc:X.calm = true):xz X (.builtin "all") rAll:=by
 intro pins s σ H xs us Q I r h
 obtain ⟨l,bs,rfl,hl,q⟩:=h
 obtain ⟨u,rfl,rx⟩:=Z9 r
 cases rx
 obtain ⟨its,r',pl,hz⟩:=I.list (SqL.of hl)
 obtain ⟨m,F,W,fin⟩:=I.ledger
 exact LSm.all_bools F W (I.ok.hd hc) pl.isList (Z6 r') fun h' tk F' W' => ⟨.bl _,H,fin h' tk F' W',rfl,q⟩
def rIxA (K:PySem.W.Frag):R2:=fun x y H Q => rIxL K x y H Q∨rIxT K x y H Q
theorem J4 {X:Cx} {K:PySem.W.Frag} (h:X.K = K):IxR X (rIxA K):=(qm h).or (qt h)
def rLenA (K:PySem.W.Frag):List V→Hp→VK→Prop:=fun xs H Q => ∃ p ys,xs = [.ref p]∧(SqL K H p ys∨SqT K H p ys)∧Q (.int ys.length) H
theorem jU {X:Cx} {K:PySem.W.Frag} (h:X.K = K):xz X (.builtin "len") (rLenA K):=h ▸ jZ
structure GInt (mg:Str→Option Value) (nm:Str) (n:Int):Prop where
 ex:∃ t,mg nm = some (.int n t)
theorem pe_gint {X:Cx} {x:Str} {n:Int} {pos:Pos} (G:GInt X.mg x n) (hg:Gl X x) (hd:(x == ("__debug__" : Str)) = false:=by decide):PE X (.Name x pos) (tC (.int n)):=by
 obtain ⟨t,e⟩:=G.ex
 exact Js hg e ⟨t,rfl⟩ hd
def Bt (n:Nat) (i:Int):Prop:=i.natAbs < 2 ^ n
theorem Bt.bits {n:Nat} {i:Int} (h:Bt n i):Builtin.Int.intBits i≤n:=intBits_le_iff.mpr h
theorem Bt.mono {n m:Nat} {i:Int} (h:Bt n i) (hm:n≤m):Bt m i:=Nat.lt_of_lt_of_le h (Nat.pow_le_pow_right (by decide) hm)
theorem Bt.neg {n:Nat} {i:Int} (h:Bt n i):Bt n (-i):=by unfold Bt; rw [Int.natAbs_neg]; exact h
theorem Bt.add {n m:Nat} {i j:Int} (h:Bt n i) (h':Bt m j):Bt (max n m + 1) (i + j):=by
 have a:=h.mono (Nat.le_max_left n m)
 have b:=h'.mono (Nat.le_max_right n m)
 unfold Bt at *
 have:=Int.natAbs_add_le i j
 rw [Nat.pow_succ]
 omega
theorem Bt.sub {n m:Nat} {i j:Int} (h:Bt n i) (h':Bt m j):Bt (max n m + 1) (i - j):=by
 rw [Int.sub_eq_add_neg]
 exact h.add h'.neg
theorem Bt.shl {n k:Nat} {i:Int} (h:Bt n i):Bt (n + k) (i * 2 ^ k):=by
 unfold Bt at *
 rw [Int.natAbs_mul,Int.natAbs_pow,Nat.pow_add]
 exact Nat.mul_lt_mul_of_pos_right h (Nat.pow_pos (by decide))
theorem Bt.pow (k:Nat):Bt (1 + k) ((1:Int) * 2 ^ k):=Bt.shl (n:=1) (by unfold Bt; decide)
theorem Bt.small {n:Nat} {i:Int} (h0 : -(2 ^ 62) < i) (h1:i < 2 ^ 62) (hn:62≤n):Bt n i:=by
 refine Bt.mono (n:=62) ?_ hn
 unfold Bt
 omega
theorem Bt.nonneg_le {n:Nat} {i j:Int} (h:Bt n i) (h0:0≤j) (h1:j≤i):Bt n j:=by
 unfold Bt at *
 omega
theorem Bt.sign {n:Nat} {i s:Int} (h:Bt n i) (hs:s = 1∨s = -1):Bt n (s * i):=by
 rcases hs with rfl | rfl
 ·rw [Int.one_mul]; exact h
 ·rw [Int.neg_mul,Int.one_mul]; exact h.neg
def Itv (K:PySem.W.Frag) (a:Addr) (n:Nat):It :=
 ⟨fun i H => i < n∧∃ xs,SqL K H a xs∧xs.length = n,fun i H x H' => H' = H∧∀ xs,SqL K H a xs→xs[n - 1 - i]? = some x,fun i H => n = i⟩
def RvStep (K:PySem.W.Frag) (vs:List V) (H:Hp) (R:It→Hp→Prop):Prop:=∃ a xs,vs = [.ref a]∧SqL K H a xs∧R (Itv K a xs.length) H
def iRev (K:PySem.W.Frag) (ta:TA):TI:=fun σ H R => ta σ H fun vs H1 => RvStep K vs H1 R
theorem vc {K:PySem.W.Frag} {ta:TA} {σ:St} {H:Hp} {R:It→Hp→Prop}:iRev K ta σ H R = ta σ H fun vs H1 => RvStep K vs H1 R:=rfl
def Ite (K:PySem.W.Frag) (a:Addr):It :=
 ⟨fun i H => ∃ xs x,SqL K H a xs∧xs[i]? = some x,fun i H x H' => ∃ (p:Addr) (v:V),x = .ref p∧H p = none∧H' = upd H p (.tup [.int i,v])∧∀ xs,SqL K H a xs→xs[i]? = some v,fun i H => ∃ xs,SqL K H a xs∧xs.length≤i⟩
def EnStep (K:PySem.W.Frag) (vs:List V) (H:Hp) (R:It→Hp→Prop):Prop:=∃ a xs,vs = [.ref a]∧SqL K H a xs∧R (Ite K a) H
def iEnum (K:PySem.W.Frag) (ta:TA):TI:=fun σ H R => ta σ H fun vs H1 => EnStep K vs H1 R
theorem qP {K:PySem.W.Frag} {ta:TA} {σ:St} {H:Hp} {R:It→Hp→Prop}:iEnum K ta σ H R = ta σ H fun vs H1 => EnStep K vs H1 R:=rfl
def rNeL (K:PySem.W.Frag):R2:=fun x y H Q => ∃ a b xs ys,x = .ref a∧y = .ref b∧SqL K H a xs∧SqL K H b ys∧((xs.length≠ys.length∧Q (.bl true) H)∨(xs.length = ys.length∧∃ e:Nat→Bool,(∀ (j:Nat) x y,xs[j]? = some x→ys[j]? = some y→DE K H 20 x y (e j))∧Q (.bl (!(List.range xs.length).all e)) H))
theorem Jw {X:Cx} {K:PySem.W.Frag} (hK:X.K = K) (hu:X.A.units + 64 < cLine):OpR X (compareOp .NotEq) (rNeL K):=by
 subst hK
 intro pins s σ H x y v u Q I rx ry h
 obtain ⟨a,b,xs,ys,rfl,rfl,ha,hb,h⟩:=h
 obtain rfl:v = Value.ref a:=rx
 obtain rfl:u = Value.ref b:=ry
 obtain ⟨its,r1,p1,_⟩:=I.list ha
 obtain ⟨its2,r2,p2,_⟩:=I.list hb
 rcases h with ⟨hl,q⟩ | ⟨hl,e,he,q⟩
 ·exact EqBoolInt.of_rcne (SeqAt.RcNeAt.lists_lengths (A:=X.A) p1.isList p2.isList (by simp [← r1.length, ← r2.length,hl]) (by omega)) ⟨.bl _,H,I,rfl,q⟩
 ·refine EqBoolInt.of_rcne (SeqAt.RcNeAt.lists (A:=X.A) (e:=e) p1.isList p2.isList (by simp [← r1.length, ← r2.length,hl]) (by omega) fun j h1 h2 => ?_) ⟨.bl _,H,I,rfl, ?_⟩
  ·have l1:j < xs.length:=by rw [r1.length]; simpa using h1
   have l2:j < ys.length:=by rw [r2.length]; simpa using h2
   obtain ⟨u1,q1,s1⟩:=r1.get (List.getElem?_eq_getElem l1)
   obtain ⟨u2,q2,s2⟩:=r2.get (List.getElem?_eq_getElem l2)
   have e1:its.toArray[j] = u1:=by
    obtain ⟨_,z⟩:=List.getElem?_eq_some_iff.mp q1
    simpa using z
   have e2:its2.toArray[j] = u2:=by
    obtain ⟨_,z⟩:=List.getElem?_eq_some_iff.mp q2
    simpa using z
   rw [e1,e2]
   exact (he j _ _ (List.getElem?_eq_getElem l1) (List.getElem?_eq_getElem l2)).eqAt I (by rw [jq]; omega) s1 s2
  ·rw [List.size_toArray, ← r1.length]
   exact q
theorem KL {α:Type} [DecidableEq α] {ns ms:List α} (hl:ns.length = ms.length):(List.range ns.length).all (fun j => ns[j]? == ms[j]?) = decide (ns = ms):=by
 rw [Bool.eq_iff_iff,decide_eq_true_iff,List.all_eq_true]
 constructor
 ·intro h
  refine List.ext_getElem? fun j => ?_
  by_cases hj:j < ns.length
  ·exact eq_of_beq (h j (List.mem_range.mpr hj))
  ·rw [List.getElem?_eq_none (by omega),List.getElem?_eq_none (by omega)]
 ·rintro rfl j _
  simp
def ixRev (n:Nat):List Nat:=sliceRange (sliceBounds none none (some (-1)) n).1 (sliceBounds none none (some (-1)) n).2.1 (sliceBounds none none (some (-1)) n).2.2
def pickV (xs:List V):List V:=(ixRev xs.length).filterMap fun i => xs[i]?
def RevStep (K:PySem.W.Frag) (x:V) (H:Hp) (Q:VK):Prop:=∃ a xs,x = .ref a∧SqL K H a xs∧∀ r,H r = none→Q (.ref r) (upd H r (.lst (pickV xs)))
def tRev (K:PySem.W.Frag) (te:TE):TE:=fun σ H Q => te σ H fun x H1 => RevStep K x H1 Q
def JU:Expr→Bool
 | .Starred _ _ => false
 | _ => true
theorem X4 {e:Expr} {es:List Expr} {env:Env} (h:JU e = true):starEach (e :: es) env = (false,eval e env) :: starEach es env:=by
 cases e <;> first | rfl | cases h
theorem pa_c {X:Cx} {e:Expr} {es:List Expr} {te:TE} {t:TA} (ha:PE X e te) (hr:PA X es t) (h:JU e = true:=by rfl):PA X (e :: es) (vo te t):=pa_cons ha hr (X4 h)
structure QE (X:Cx) (e:Expr) (t:TE):Prop where
 h:PE X e t
structure QT (X:Cx) (e:Expr) (t:TT):Prop where
 h:PT X e t
structure QW (X:Cx) (e:Expr) (t:TT):Prop where
 h:PW X e t
structure QA (X:Cx) (e:List Expr) (t:TA):Prop where
 h:PA X e t
structure QS (X:Cx) (e:Stmt) (t:TS):Prop where
 h:PS X e t
structure QSs (X:Cx) (e:List Stmt) (t:TS):Prop where
 h:PSs X e t
structure QG (X:Cx) (e:Expr) (t:TG):Prop where
 h:PG X e t
structure QGs (X:Cx) (e:List Expr) (t:TGs):Prop where
 h:PGs X e t
structure QTs (X:Cx) (e:List Expr) (t:TT):Prop where
 h:PTs X e t
structure QO (X:Cx) (e:Option Expr) (t:TO):Prop where
 h:PO X e t
structure QI (X:Cx) (tg e:Expr) (t:TI):Prop where
 h:PI X tg e t
section
variable {X:Cx}
theorem qG  : QSs X [] vT:=⟨pss_nil ⟩
end
section
variable {X:Cx} {st:Stmt} {t:TS}
theorem qk (h1:QS X st t):QSs X [st] t:=⟨pss_one h1.h⟩
end
section
variable {X:Cx} {st:Stmt} {rest:List Stmt} {t u:TS}
theorem qh (h1:QS X st t) (h2:QSs X rest u):QSs X (st :: rest) (tSeq t u):=⟨pss_cons h1.h h2.h⟩
end
section
variable {X:Cx} {elt tg iter:Expr} {ifs:List Expr} {scope:Scope} {bs:List Bool} {ext:List Str} {pos:Pos} {wi:TI} {g:TG} {tt:TT} {te:TE}
theorem qs_lc {i:Nat} {x:Str} {pos' spos:Pos} (bs:List Bool) (ext:List Str) (hN:X.N.Nodup) (hix:X.N[i]? = some x) (hx:X.env.scope.names.lookup x = some .local) (hi:QI X tg iter wi) (hg:∀ fp s H,QG (cxB X scope ext fp s H) tg g) (ht:∀ fp s H,QTs (cxB X scope ext fp s H) ifs tt) (he:∀ fp s H,QE (cxB X scope ext fp s H) elt te) (hk:jT scope X.env X.N bs = true:=by rfl) (hc:X.calm = true:=by rfl) (hsw:swapsWith (.ListComp elt [⟨tg,iter,ifs,0⟩] scope pos) (some (.Name x pos')) spos.line X.env = pure true:=by rfl) (hs:∀ x,foldedSetIterable iter X.env x = pure x:=by intro _; rfl):QS X (.Assign [.Name x pos'] (.ListComp elt [⟨tg,iter,ifs,0⟩] scope pos) spos) (tAsg (vK wi bs ext.length g tt te) (qI i)):=⟨ps_lc bs ext hN hix hx hi.h (fun fp s H => (hg fp s H).h) (fun fp s H => (ht fp s H).h) (fun fp s H => (he fp s H).h) hk hc hsw hs⟩
end
section
variable {X:Cx} {o value:Expr} {f:Str} {pos pos':Pos} {ta tv:TE}
theorem Q5 (ha:QE X o ta) (hv:QE X value tv) (hs:swapsWith value (some (.Attribute o f pos')) pos.line X.env = pure false):QS X (.Assign [.Attribute o f pos'] value pos) (sFld X.K ta tv f):=⟨ps_fld ha.h hv.h hs⟩
end
section
variable {X:Cx} {pos:Pos}
theorem vq {i:Nat} {x:Str} {e:Expr} {te:TE} {pos':Pos} (hN:X.N.Nodup) (hi:X.N[i]? = some x) (hx:Loc X.env.scope x) (he:QE X e te) (hs:swapsWith e (some (.Name x pos')) pos.line X.env = pure false:=by rfl) (hf:X.fn x = true∨X.env.scope.names.lookup x = some .local:=by first | exact .inl rfl | exact .inr rfl | assumption):QS X (.Assign [.Name x pos'] e pos) (tAsg te (qI i)):=⟨ps_set hN hi hx he.h hs hf⟩
end
section
variable {X:Cx} {pos:Pos}
theorem vO {tg e:Expr} {te:TE} {g:TG} (he:QE X e te) (hg:QG X tg g) (hs:swapsWithSole [tg] e pos.line X.env = pure false:=by rfl) (hw:swappedStores [tg] e X.env = pure none:=by rfl) (h1:(assignEach [tg] X.env).map (·.2) = [assign tg X.env]:=by rfl):QS X (.Assign [tg] e pos) (tAsg te g):=⟨ps_asg he.h hg.h hs hw h1⟩
end
section
variable {X:Cx} {e:Expr} {te:TE} {pos:Pos}
theorem qF (he:QE X e te):QS X (.Return (some e) pos) (tRet te):=⟨ps_ret he.h⟩
end
section
variable {X:Cx} {t u:TS} {pos:Pos}
theorem vz {c:Expr} {a b:List Stmt} {tc:TT} (hc:QT X c tc) (ha:QSs X a t) (hb:QSs X b u):QS X (.If c a b pos) (tIfS tc t u):=⟨ps_if hc.h ha.h hb.h⟩
end
section
variable {X:Cx} {tg:Expr}
theorem kP {iter:Expr} {body:List Stmt} {wi:TI} {g:TG} {tb:TS} {pos:Pos} (hp:PassesOwn (model X.prog X.w) X.A X.env X.xe) (hc:X.calm = true) (hi:QI X tg iter wi) (hg:QG X tg g) (hb:QSs X body tb) (hs:∀ x,foldedSetIterable iter X.env x = pure x:=by intro _; rfl):QS X (.For tg iter body [] pos) (tFor wi g tb):=⟨ps_for hp hc hi.h hg.h hb.h hs⟩
end
section
variable {X:Cx} {e:Expr} {te:TE} {pos:Pos}
theorem VH (he:QE X e te) (hs:swapsWith e none pos.line X.env = pure false:=by rfl):QS X (.Expr e pos) (vU te):=⟨ps_expr he.h hs⟩
end
section
variable {X:Cx} {tg:Expr}
theorem ji {a:Expr} {ta:TA} {p pos:Pos} (hg:Gl X "range") (hm:X.mg "range" = none) (ha:QA X [a] ta) (hs:starEach [a] X.env = [(false,eval a X.env)]:=by rfl):QI X tg (.Call (.Name "range" p) [a] [] pos) (Ka ta):=⟨Jq hg hm ha.h hs⟩
end
section
variable {X:Cx} {K:PySem.W.Frag}
theorem xF {tg l:Expr} {tl:TE} (h:X.K = K) (hl:QE X l tl):QI X tg l (XC K tl):=⟨pi_listK h hl.h⟩
end
section
variable {X:Cx} {pos:Pos}
theorem zw {i:Nat} {x:Str} (hN:X.N.Nodup) (hi:X.N[i]? = some x) (hx:Loc X.env.scope x) (hf:X.fn x = true∨X.env.scope.names.lookup x = some .local:=by first | exact .inl rfl | exact .inr rfl | assumption):QG X (.Name x pos) (qI i):=⟨jO hN hi hx hf⟩
end
section
variable {X:Cx} {K:PySem.W.Frag}
theorem qg_t2K {i j:Nat} {x y:Str} {px py pos:Pos} {kk:Nat} (h:X.K = K) (hN:X.N.Nodup) (hc:X.calm = true) (hi:X.N[i]? = some x) (hj:X.N[j]? = some y) (lx:Loc X.env.scope x) (ly:Loc X.env.scope y) (fx:X.fn x = true∨X.env.scope.names.lookup x = some .local) (fy:X.fn y = true∨X.env.scope.names.lookup y = some .local):QG X (.Tuple [.Name x px, .Name y py] kk pos) (gTup K 2 (vJ (qI i) (vJ (qI j) gNil))):=⟨pg_t2K h hN hc hi hj lx ly fx fy⟩
end
section
variable {X:Cx} {K:PySem.W.Frag}
theorem qg_t3K {i j k:Nat} {x y z:Str} {px py pz pos:Pos} {kk:Nat} (h:X.K = K) (hN:X.N.Nodup) (hc:X.calm = true) (hi:X.N[i]? = some x) (hj:X.N[j]? = some y) (hk:X.N[k]? = some z) (lx:Loc X.env.scope x) (ly:Loc X.env.scope y) (lz:Loc X.env.scope z) (fx:X.fn x = true∨X.env.scope.names.lookup x = some .local) (fy:X.fn y = true∨X.env.scope.names.lookup y = some .local) (fz:X.fn z = true∨X.env.scope.names.lookup z = some .local):QG X (.Tuple [.Name x px, .Name y py, .Name z pz] kk pos) (gTup K 3 (vJ (qI i) (vJ (qI j) (vJ (qI k) gNil)))):=⟨pg_t3K h hN hc hi hj hk lx ly lz fx fy fz⟩
end
section
variable {X:Cx} {pos:Pos}
theorem qg_tup {es:List Expr} {k:Nat} {t:TGs} {n:Nat} (hc:X.calm = true) (h:QGs X es t) (hn:(assignEach es X.env).length = n:=by rfl) (hst:(assignEach es X.env).findIdx? (·.1) = none:=by rfl):QG X (.Tuple es k pos) (gTup X.K n t):=⟨Jr hc h.h hn hst⟩
end
section
variable {X:Cx}
theorem qgs_nil  : QGs X [] gNil:=⟨VI ⟩
end
section
variable {X:Cx}
theorem j7 {e:Expr} {es:List Expr} {t:TG} {u:TGs} (h1:QG X e t) (h2:QGs X es u) (hs:(assignEach (e :: es) X.env).map (·.2) = assign e X.env :: (assignEach es X.env).map (·.2):=by rfl):QGs X (e :: es) (vJ t u):=⟨xH h1.h h2.h hs⟩
end
section
variable {X:Cx} {pos:Pos}
theorem vR {o i:Expr} {to ti:TE} {t:TSet} (ho:QE X o to) (hi:QE X i ti) (hs:PSet X t) (ha:∀ v,assign (.Subscript o i pos) X.env v = (do
   let ov ← holding [v] (eval o X.env)
   let iv ← holding [v,ov] (eval i X.env)
   standAt pos
   holding [v,ov,iv] (setItem ov iv v)
   release [v,ov,iv] []):=by intro _; rfl):QG X (.Subscript o i pos) (gSub to ti t):=⟨pg_sub ho.h hi.h hs ha⟩
end
section
theorem Qm {X:Cx}:QTs X [] tYes:=⟨pts_nil ⟩
end
section
theorem qa_c {X:Cx} {e:Expr} {es:List Expr} {te:TE} {t:TA} (ha:QE X e te) (hr:QA X es t) (h:JU e = true:=by rfl):QA X (e :: es) (vo te t):=⟨pa_c ha.h hr.h h⟩
end
section
variable {X:Cx}
theorem qd  : QA X [] tNil:=⟨pa_nil ⟩
end
section
variable {X:Cx} {a b:Expr} {ta tb:TE} {pos:Pos}
theorem qu {op:CmpOp} {r:R2} (ho:OpR X (compareOp op) r) (ha:QE X a ta) (hb:QE X b tb) (hm:behindInMarks op b = false):QT X (.Compare a [op] [b] pos) (vS (tOp r ta tb)):=⟨pt_cmpR ho ha.h hb.h hm⟩
end
section
theorem Qk {X:Cx} {e:Expr} {t:TT} (h:QW X e t):QT X e t:=⟨PW.pt h.h⟩
end
section
variable {X:Cx}
variable {a b:Expr} {pos:Pos}
variable {tA tB':TT} {rest:List Expr}
theorem Zo (ha:QT X a tA) (hb:QW X (.BoolOp .And (b :: rest) pos) tB'):QW X (.BoolOp .And (a :: b :: rest) pos) (tAnd tA tB'):=⟨pw_and ha.h hb.h⟩
end
section
variable {X:Cx}
variable {a:Expr} {pos:Pos}
variable {tA:TT}
theorem Ql (ha:QT X a tA):QW X (.BoolOp .And [a] pos) tA:=⟨pw_and1 ha.h⟩
end
section
variable {X:Cx}
variable {a b:Expr} {pos:Pos}
variable {tA tB':TT} {rest:List Expr}
theorem Jl (ha:QT X a tA) (hb:QW X (.BoolOp .Or (b :: rest) pos) tB'):QW X (.BoolOp .Or (a :: b :: rest) pos) (tOr tA tB'):=⟨pw_or ha.h hb.h⟩
end
section
variable {X:Cx}
variable {a:Expr} {pos:Pos}
variable {tA:TT}
theorem Q4 (ha:QT X a tA):QW X (.BoolOp .Or [a] pos) tA:=⟨pw_or1 ha.h⟩
end
section
variable {X:Cx}
variable {a:Expr} {pos:Pos}
variable {tA:TT}
theorem jh (ha:QT X a tA):QT X (.UnaryOp .Not a pos) (tNot tA):=⟨pt_not ha.h⟩
end
section
variable {X:Cx}
variable {pos:Pos}
theorem zQ {e:Expr} {t:TE} (h:QE X e t) (he:∀ whole,isTrue e X.env whole = (do let v ← whole; standAt e.pos; holding [v] (truthy v)):=by intro _; rfl):QT X e (tB t):=⟨pt_val h.h he⟩
end
section
variable {X:Cx}
theorem kQ {j pos}:QE X (.Constant .none j pos) (tC .non):=⟨pe_non ⟩
end
section
variable {X:Cx}
theorem xr {b j pos}:QE X (.Constant (.bool b) j pos) (tC (.bl b)):=⟨pe_bl ⟩
end
section
variable {X:Cx}
theorem qe {i j pos}:QE X (.Constant (.int i) j pos) (tC (.int i)):=⟨pe_int ⟩
end
section
variable {X:Cx}
theorem ql {x j pos}:QE X (.Constant (.str x) j pos) (tC (.str x)):=⟨pe_str ⟩
end
section
variable {X:Cx}
theorem qv (i:Nat) {x:Str} {pos:Pos} (hN:X.N[i]? = some x:=by rfl) (hv:Vis X.env.scope x:=by first | exact Or.inl rfl | exact Or.inr (Or.inl rfl) | exact Or.inr (Or.inr rfl)) (hd:(x == ("__debug__" : Str)) = false:=by decide) (hcd:(x == ("__classdict__" : Str)) = false:=by decide):QE X (.Name x pos) (tVar i):=⟨pv i hN hv hd hcd⟩
end
section
variable {X:Cx} {a b:Expr} {ta tb:TE} {pos:Pos}
theorem vp {op:Operator} {r:R2} (ho:OpR X (binaryOp op) r) (ha:QE X a ta) (hb:QE X b tb):QE X (.BinOp a op b pos) (tOp r ta tb):=⟨pe_op ho ha.h hb.h⟩
end
section
variable {X:Cx} {a b:Expr} {ta tb:TE} {pos:Pos}
theorem zx {op:CmpOp} {r:R2} (ho:OpR X (compareOp op) r) (ha:QE X a ta) (hb:QE X b tb) (hm:behindInMarks op b = false):QE X (.Compare a [op] [b] pos) (tOp r ta tb):=⟨pe_cmpR ho ha.h hb.h hm⟩
end
section
variable {X:Cx}
variable {a:Expr} {pos:Pos}
theorem Q6 {op} {t:TE} (h:QE X a t):QE X (.BoolOp op [a] pos) t:=⟨pe_one h.h⟩
end
section
variable {X:Cx}
variable {a b:Expr} {ta tb:TE} {pos:Pos}
variable {rest:List Expr}
theorem Zq (ha:QE X a ta) (hb:QE X (.BoolOp .And (b :: rest) pos) tb):QE X (.BoolOp .And (a :: b :: rest) pos) (vV ta tb):=⟨pe_and ha.h hb.h⟩
end
section
variable {X:Cx}
variable {a b:Expr} {ta tb:TE} {pos:Pos}
variable {rest:List Expr}
theorem qe_or (ha:QE X a ta) (hb:QE X (.BoolOp .Or (b :: rest) pos) tb):QE X (.BoolOp .Or (a :: b :: rest) pos) (tOrV ta tb):=⟨pe_or ha.h hb.h⟩
end
section
variable {X:Cx}
variable {a b:Expr} {ta tb:TE} {pos:Pos}
variable {tA:TT}
theorem xl {c:Expr} (hc:QT X c tA) (ha:QE X a ta) (hb:QE X b tb):QE X (.IfExp c a b pos) (tIf tA ta tb):=⟨pe_ifExp hc.h ha.h hb.h⟩
end
section
variable {X:Cx} {es:List Expr} {t:TA} {pos:Pos}
theorem vG (h:QA X es t):QE X (.List es pos) (tLst t):=⟨pe_lst h.h⟩
end
section
variable {X:Cx} {es:List Expr} {t:TA} {pos:Pos}
theorem vg {x1} (h:QA X es t):QE X (.Tuple es x1 pos) (tTup t):=⟨pe_tup h.h⟩
end
section
variable {X:Cx} {e:Expr} {te:TE} {lo hi:Option Expr} {tl th:TO} {pos p2:Pos}
theorem Zp {r:V→Option Int→Option Int→Hp→VK→Prop} (hr:SlR X r) (he:QE X e te) (hl:QO X lo tl) (hu:QO X hi th):QE X (.Subscript e (.Slice lo hi none p2) pos) (tSl r te tl th):=⟨pe_slice hr he.h hl.h hu.h⟩
end
section
variable {X:Cx} {e:Expr} {te:TE}
theorem Jm (h:QE X e te):QO X (some e) (vY te):=⟨po_some h.h⟩
end
section
variable {X:Cx}
theorem Jn  : QO X none qW:=⟨po_none ⟩
end
section
variable {X:Cx} {a b:Expr} {ta tb:TE} {pos:Pos}
theorem qr {r:R2} (hr:IxR X r) (ha:QE X a ta) (hb:QE X b tb) (hs:KM b):QE X (.Subscript a b pos) (tOp r ta tb):=⟨pe_ix hr ha.h hb.h hs⟩
end
section
variable {X:Cx} {e:Expr} {f:Str} {pos:Pos} {ta:TE}
theorem vj (he:QE X e ta) (hb:attributeBase e f X.env (eval e X.env) = eval e X.env):QE X (.Attribute e f pos) (tFld X.K ta f):=⟨pe_fld he.h hb⟩
end
section
variable {X:Cx} {elt tg iter:Expr} {ifs:List Expr} {scope:Scope} {bs:List Bool} {ext:List Str} {pos:Pos} {wi:TI} {g:TG} {tt:TT} {te:TE}
theorem qe_lc (bs:List Bool) (ext:List Str) (hi:QI X tg iter wi) (hg:∀ fp s H,QG (cxB X scope ext fp s H) tg g) (ht:∀ fp s H,QTs (cxB X scope ext fp s H) ifs tt) (he:∀ fp s H,QE (cxB X scope ext fp s H) elt te) (hk:jT scope X.env X.N bs = true:=by rfl) (hc:X.calm = true:=by rfl) (hs:∀ x,foldedSetIterable iter X.env x = pure x:=by intro _; rfl):QE X (.ListComp elt [⟨tg,iter,ifs,0⟩] scope pos) (vK wi bs ext.length g tt te):=⟨pe_lc bs ext hi.h (fun fp s H => (hg fp s H).h) (fun fp s H => (ht fp s H).h) (fun fp s H => (he fp s H).h) hk hc hs⟩
end
section
variable {X:Cx} {x:Str} {k:Nat} {ps:List Str} {sp:Sp} {p pos:Pos} {e:Expr} {es:List Expr} {t:TA}
theorem qU (D:Def X.prog X.w X.K X.mg X.base x k ps sp) (hr:Room k X.A) (ha:QA X (e :: es) t) (hg:Gl X x:=by rfl) (hdb:(x == ("__debug__" : Str)) = false:=by decide) (he:starEach (e :: es) X.env = (false,eval e X.env) :: starEach es X.env:=by rfl) (hpl:(backTo pos (starEach es X.env)).any (·.1) = false:=by rfl):QE X (.Call (.Name x p) (e :: es) [] pos) (vL sp [] E0 t):=⟨pe_def D hr ha.h hg hdb he hpl⟩
end
section
variable {X:Cx} {x:Str} {p pos:Pos} {e:Expr} {es:List Expr} {t:TA} {id:String} {r:List V→Hp→VK→Prop}
theorem qL (hc:xz X (.builtin id) r) (hg:Gl X x) (hm:X.mg x = none) (hv:bootBuiltins x = some (.builtin id)) (ha:QA X (e :: es) t) (hn:x ≠ "__name__" := by decide) (hdb:(x == ("__debug__" : Str)) = false:=by decide) (he:starEach (e :: es) X.env = (false,eval e X.env) :: starEach es X.env:=by rfl) (hpl:(backTo pos (starEach es X.env)).any (·.1) = false:=by rfl):QE X (.Call (.Name x p) (e :: es) [] pos) (tCB r t):=⟨pe_callB hc hg hm hv ha.h hn hdb he hpl⟩
end
section
variable {X:Cx} {x:Str} {p pos:Pos} {e:Expr} {es:List Expr} {t:TA} {T:String} {r:List V→Hp→VK→Prop}
theorem jj (hc:xz X (.type T) r) (hg:Gl X x) (hm:X.mg x = none) (hv:bootBuiltins x = some (.type T)) (ha:QA X (e :: es) t) (hn:x ≠ "__name__" := by decide) (hdb:(x == ("__debug__" : Str)) = false:=by decide) (he:starEach (e :: es) X.env = (false,eval e X.env) :: starEach es X.env:=by rfl) (hpl:(backTo pos (starEach es X.env)).any (·.1) = false:=by rfl):QE X (.Call (.Name x p) (e :: es) [] pos) (tCB r t):=⟨Jt hc hg hm hv ha.h hn hdb he hpl⟩
end
section
variable {X:Cx}
theorem vM {x:Str} {v:V} {u:Value} {pos:Pos} (hg:Gl X x) (hm:X.mg x = none) (hv:bootBuiltins x = some u) (r:RelV v u) (hn:x ≠ "__name__" := by decide) (hd:(x == ("__debug__" : Str)) = false:=by decide):QE X (.Name x pos) (tC v):=⟨pe_bltn hg hm hv r hn hd⟩
end
section
variable {X:Cx}
theorem qe_lm {o e:Expr} {es:List Expr} {to:TE} {t:TA} {name:Str} {apos cpos:Pos} {id:String} {r:V→List V→Hp→VK→Prop} (slot:Slot "list" name id) (hty:typeOf (.builtin id) = pure (.type "method_descriptor")) (hm:MtR X id r) (ho:QE X o to) (ha:QA X (e :: es) t) (hbase:attributeBase o name X.env (eval o X.env) = eval o X.env:=by rfl) (hfew:((backTo cpos (starEach (e :: es) X.env)).all (fun x => !x.1) && (backToKw cpos (keywordEach [] X.env)).all (fun x => x.1.isSome)
   && decide ((e :: es).length + ([]:List Keyword).length + (if ([]:List Keyword).isEmpty then 0 else 1) < 30)) = true:=by rfl) (hline:(apos.endLine == cpos.line) = true:=by rfl) (hs:starEach (e :: es) X.env = (false,eval e X.env) :: starEach es X.env:=by rfl) (hplain:(backTo cpos (starEach es X.env)).any (·.1) = false:=by rfl):QE X (.Call (.Attribute o name apos) (e :: es) [] cpos) (tLM r to t):=⟨pe_lm slot hty hm ho.h ha.h hbase hfew hline hs hplain⟩
end
section
theorem zF {X:Cx} {pl:Sem Bool} {C:Addr} {m:Str} {k:Nat} {ps:List Str} {sp:Sp} {o e:Expr} {es:List Expr} {ta:TE} {t:TA} {apos pos:Pos} (D:MDef X.prog X.w X.K X.mg X.base C m k ps sp) (c:Cls X.K C) (he:QE X o ta) (hr:Room k X.A) (ha:QA X (e :: es) t) (hst:starEach (e :: es) X.env = (false,eval e X.env) :: starEach es X.env:=by rfl) (hpl:(backTo pos (starEach es X.env)).any (·.1) = false:=by rfl) (ht:eval (.Call (.Attribute o m apos) (e :: es) [] pos) X.env = (do
   let ov ← eval o X.env
   standAt apos.atName
   let (f,first) ← holding [ov] (getMethod ov m pl)
   callWith pos f first (backTo pos (starEach (e :: es) X.env)) (backToKw pos (keywordEach [] X.env))):=by rfl):QE X (.Call (.Attribute o m apos) (e :: es) [] pos) (X3 C m sp [] E0 ta t):=⟨pe_mdef D c he.h hr ha.h hst hpl ht⟩
end
section
theorem qe_gint {X:Cx} {x:Str} {n:Int} {pos:Pos} (G:GInt X.mg x n) (hg:Gl X x) (hd:(x == ("__debug__" : Str)) = false:=by decide):QE X (.Name x pos) (tC (.int n)):=⟨pe_gint G hg hd⟩
end
section
variable {X:Cx} {pos:Pos}
theorem zG {x:Str} {v:V} {u:Value} {pos:Pos} (hg:Gl X x) (hm:X.mg x = some u) (r:RelV v u) (hd:(x == ("__debug__" : Str)) = false:=by decide):QE X (.Name x pos) (tC v):=⟨Js hg hm r hd⟩
end
structure MkDef (P:Program) (w:World) (K:PySem.W.Frag) (mg:Str→Option Value) (base:Heap) (C:Addr) (x:Str) (k:Nat) (ps:List Str) (sp:Sp):Prop where
 ex:∃ (f:Addr) (fd:FuncData),Mk K C f∧mg x = some (.ref C)∧Binds K fd ps []∧FnOk P w K mg base CX0 k f fd ps sp
section
variable {X:Cx} {C:Addr} {k:Nat} {ps:List Str} {sp:Sp} {x:Str} {p pos:Pos} {e:Expr} {es:List Expr} {t:TA}
theorem qe_mk0 (D:MkDef X.prog X.w X.K X.mg X.base C x k ps sp) (hr:Room (k + 1) X.A) (hg:Gl X x) (hdb:(x == ("__debug__" : Str)) = false:=by decide):QE X (.Call (.Name x p) [] [] pos) (Xb C sp [] E0 tNil):=by
 obtain ⟨f,fd,h1,h2,h3,h4⟩:=D.ex
 exact ⟨pe_make0 h1 h4 hr hg h2 h3 .nil pass0 hdb⟩
theorem qe_mk (D:MkDef X.prog X.w X.K X.mg X.base C x k ps sp) (hr:Room (k + 1) X.A) (hg:Gl X x) (ha:QA X (e :: es) t) (hdb:(x == ("__debug__" : Str)) = false:=by decide) (he:starEach (e :: es) X.env = (false,eval e X.env) :: starEach es X.env:=by rfl) (hpl:(backTo pos (starEach es X.env)).any (·.1) = false:=by rfl):QE X (.Call (.Name x p) (e :: es) [] pos) (Xb C sp [] E0 t):=by
 obtain ⟨f,fd,h1,h2,h3,h4⟩:=D.ex
 exact ⟨pe_make h1 h4 hr hg h2 h3 .nil pass0 ha.h hdb he hpl⟩
theorem qs_par {i j:Nat} {x y:Str} {a b:Expr} {ta:TA} {px py pt:Pos} {kt k2 pt2} (hc:X.calm = true) (hN:X.N.Nodup) (hi:X.N[i]? = some x) (hj:X.N[j]? = some y) (hij:i≠j) (hx:X.env.scope.names.lookup x = some .local) (hy:X.env.scope.names.lookup y = some .local) (ha:QA X [a,b] ta)
  (hw:swappedStores [.Tuple [.Name x px, .Name y py] kt pt] (.Tuple [a,b] k2 pt2) X.env = pure (some [x,y])) (hs:swapsWithSole [.Tuple [.Name x px, .Name y py] kt pt] (.Tuple [a,b] k2 pt2) pos.line X.env = pure false:=by rfl) :
  QS X (.Assign [.Tuple [.Name x px, .Name y py] kt pt] (.Tuple [a,b] k2 pt2) pos) (tPar i j ta):=⟨ps_par hc hN hi hj hij hx hy ha.h hw hs⟩
theorem kD (K:PySem.W.Frag) (h:X.K = K):xz X (.builtin "isinstance") (fun xs H Q => ∃ x n t b,xs = [x, .ty n]∧TyOf K H x t∧PySem.W.kitOne K t (.type n) = some b∧Q (.bl b) H):=by
 subst h
 intro pins s σ H xs us Q I r h
 obtain ⟨x,n,t,b,rfl,ty,e,q⟩:=h
 obtain ⟨u,v,rfl,ru,rv⟩:=XO r
 obtain rfl:v = Value.type n:=rv
 exact Vb I ru ty e fun tk => ⟨.bl b,H,I.tok tk,rfl,q⟩
end
def Obk (h h':Heap):Prop:=∀ (b:Nat) (o:Obj),h.objs[b]? = some o→∃ o',h'.objs[b]? = some o'∧o'.dict = o.dict
theorem Obk.refl (h:Heap):Obk h h:=fun b o e => ⟨o,e,rfl⟩
theorem Obk.trans {h h' h'':Heap} (x:Obk h h') (y:Obk h' h''):Obk h h'':=fun b o e => by
 obtain ⟨o',e',d'⟩:=x b o e
 obtain ⟨o2,e2,d2⟩:=y b o' e'
 exact ⟨o2,e2,d2.trans d'⟩
theorem Obk.push (h:Heap) (o:Obj):Obk h (h.push o):=fun b u e => ⟨u,by
 have hb:b < h.objs.size:=(Array.getElem?_eq_some_iff.mp e).1
 cases h
 simp only [Heap.push] at e hb ⊢
 rw [Array.getElem?_push,if_neg (Nat.ne_of_lt hb)]; exact e,rfl⟩
theorem Obk.update (h:Heap) (a:Addr) {f:Obj→Obj} (hf:∀ o,(f o).dict = o.dict):Obk h (h.update a f):=fun b u e => by
 cases h
 simp only [Heap.update] at e ⊢
 rw [Array.getElem?_modify]
 split
 ·exact ⟨f u,by rw [e]; rfl,hf u⟩
 ·exact ⟨u,e,rfl⟩
theorem Obk.get {h h':Heap} {a d:Addr} {o o':Obj} (x:Obk h h') (e:h.get? a = some o) (e':h'.get? a = some o'):o'.dict = o.dict:=by
 obtain ⟨u,eu,du⟩:=x a o (Heap.get?_some_iff.mp e).1
 rw [(Heap.get?_some_iff.mp e').1] at eu
 cases eu
 exact du
def DK {α:Type}:Sem α→Prop
 | .pure _ => True
 | .raise _ => True
 | .unsupported _ => True
 | .finish _ => True
 | .rule _ k => DK (k ())
 | .at _ k => DK (k ())
 | .load _ _ k => ∀ o,DK (k o)
 | .update _ _ f k => (∀ o,(f o).dict = o.dict)∧DK (k ())
 | .alloc _ k => ∀ a,DK (k a)
 | .loadIfAlive _ k => ∀ o,DK (k o)
 | .point _ k => DK (k ())
 | .register _ _ => True
 | .fresh k => ∀ t,DK (k t)
 | .ask k => ∀ x,DK (k x)
 | .choose _ _ k => ∀ n,DK (k n)
 | .os _ _ k => ∀ r,DK (k r)
 | .call _ _ _ _ _ => False
 | .handled _ k => ∀ x,DK (k x)
 | .newGen _ k => ∀ n,DK (k n)
 | .genState _ k => ∀ x,DK (k x)
 | .resume _ _ _ _ => False
 | .yield _ _ _ _ => True
 | .stack k => ∀ l,DK (k l)
 | .fork _ _ => True
 | .thread k => ∀ n,DK (k n)
 | .await _ _ _ _ _ => True
theorem DK.wp {α:Type} {M:Model} {Γ:PySem.Ctx}:∀ {t:Sem α} {Q:α→Pos→Shared→Prop} {E:Value→Pos→Shared→Prop} {p:Pos} {s:Shared},DK t→Sem.wp M Γ t Q E p s →
  Sem.wp M Γ t (fun a p' s' => Q a p' s'∧Obk s.heap s'.heap) (fun e p' s' => E e p' s'∧Obk s.heap s'.heap) p s:=by
 intro t
 induction t with
 | pure a => intro Q E p s _ h; rw [Sem.wp] at h ⊢; exact ⟨h, .refl _⟩
 | raise e => intro Q E p s _ h; rw [Sem.wp] at h ⊢; exact ⟨h, .refl _⟩
 | unsupported x => intro Q E p s _ h; rw [Sem.wp] at h; exact h.elim
 | finish x => intro Q E p s _ h; rw [Sem.wp] at h; exact h.elim
 | rule x k ih => intro Q E p s d h; rw [Sem.wp] at h ⊢; exact ih () d h
 | «at» x k ih => intro Q E p s d h; rw [Sem.wp] at h ⊢; exact ih () d h
 | load a x k ih => intro Q E p s d h; rw [Sem.wp] at h ⊢; obtain ⟨o,e,h⟩:=h; exact ⟨o,e,ih o (d o) h⟩
 | update a x f k ih =>
  intro Q E p s d h; rw [Sem.wp] at h ⊢
  refine ⟨h.1,Sem.wp_mono M Γ _ (fun a p' s' z => ⟨z.1,(Obk.update _ _ d.1).trans z.2⟩) (fun a p' s' z => ⟨z.1,(Obk.update _ _ d.1).trans z.2⟩) _ _ (ih () d.2 h.2)⟩
 | alloc o k ih =>
  intro Q E p s d h; rw [Sem.wp] at h ⊢
  exact Sem.wp_mono M Γ _ (fun a p' s' z => ⟨z.1,(Obk.push _ _).trans z.2⟩) (fun a p' s' z => ⟨z.1,(Obk.push _ _).trans z.2⟩) _ _ (ih _ (d _) h)
 | loadIfAlive a k ih => intro Q E p s d h; rw [Sem.wp] at h ⊢; exact ih _ (d _) h
 | point x k ih => intro Q E p s d h; rw [Sem.wp] at h ⊢; exact ih () d h
 | register a k ih => intro Q E p s d h; rw [Sem.wp] at h; exact h.elim
 | fresh k ih => intro Q E p s d h; rw [Sem.wp] at h ⊢; exact ih _ (d _) h
 | ask k ih => intro Q E p s d h; rw [Sem.wp] at h ⊢; exact ih _ (d _) h
 | choose x n k ih => intro Q E p s d h; rw [Sem.wp] at h ⊢; exact ⟨h.1,ih _ (d _) h.2⟩
 | os q l k ih => intro Q E p s d h; rw [Sem.wp] at h ⊢; exact ih _ (d _) h
 | call c x g l k ih => intro Q E p s d h; exact d.elim
 | handled x k ih => intro Q E p s d h; rw [Sem.wp] at h ⊢; exact ih _ (d _) h
 | newGen c k ih => intro Q E p s d h; rw [Sem.wp] at h ⊢; exact ih _ (d _) h
 | genState g k ih => intro Q E p s d h; rw [Sem.wp] at h ⊢; obtain ⟨o,e,h⟩:=h; exact ⟨o,e,ih _ (d _) h⟩
 | resume g r l k ih => intro Q E p s d h; exact d.elim
 | yield v g l k ih => intro Q E p s d h; rw [Sem.wp] at h; exact h.elim
 | stack k ih => intro Q E p s d h; rw [Sem.wp] at h ⊢; exact ih _ (d _) h
 | fork c k ih => intro Q E p s d h; rw [Sem.wp] at h; exact h.elim
 | thread k ih => intro Q E p s d h; rw [Sem.wp] at h ⊢; exact ih _ (d _) h
 | await a f b l k ih => intro Q E p s d h; rw [Sem.wp] at h; exact h.elim
theorem DK.any {α:Type} {M:Model} {A:Around} {t:Sem α} {Q:α→Shared→Prop} {E:Value→Shared→Prop} {s:Shared} (d:DK t) (h:wpAny M A t Q E s) :
  wpAny M A t (fun a s' => Q a s'∧Obk s.heap s'.heap) (fun e s' => E e s'∧Obk s.heap s'.heap) s:=fun Γ p hΓ => DK.wp d (h Γ p hΓ)
theorem DK.bind {α β:Type} {f:α→Sem β}:∀ {m:Sem α},DK m→(∀ a,DK (f a))→DK (m >>= f):=by
 intro m
 show DK m→_→DK (m.bind f)
 induction m with
 | pure a => intro _ h; exact h a
 | update a x g k ih => intro d h; exact ⟨d.1,ih () d.2 h⟩
 | raise e => intro _ _; trivial
 | unsupported x => intro _ _; trivial
 | finish x => intro _ _; trivial
 | rule x k ih => intro d h; exact ih () d h
 | «at» x k ih => intro d h; exact ih () d h
 | load a x k ih => intro d h o; exact ih o (d o) h
 | alloc o k ih => intro d h o; exact ih o (d o) h
 | loadIfAlive a k ih => intro d h o; exact ih o (d o) h
 | point x k ih => intro d h; exact ih () d h
 | register a k ih => intro _ _; trivial
 | fresh k ih => intro d h o; exact ih o (d o) h
 | ask k ih => intro d h o; exact ih o (d o) h
 | choose x n k ih => intro d h o; exact ih o (d o) h
 | os q l k ih => intro d h o; exact ih o (d o) h
 | call c x g l k ih => intro d h; exact d.elim
 | handled x k ih => intro d h o; exact ih o (d o) h
 | newGen c k ih => intro d h o; exact ih o (d o) h
 | genState g k ih => intro d h o; exact ih o (d o) h
 | resume g r l k ih => intro d h; exact d.elim
 | yield v g l k ih => intro _ _; trivial
 | stack k ih => intro d h o; exact ih o (d o) h
 | fork c k ih => intro _ _; trivial
 | thread k ih => intro d h o; exact ih o (d o) h
 | await a f b l k ih => intro _ _; trivial
theorem V5 (a:Addr):DK (load a):=fun _ => trivial
theorem dk_stack:DK stack:=fun _ => trivial
theorem Vk (a:Addr) {f:Obj→Obj} (h:∀ o,(f o).dict = o.dict):DK (update a f):=⟨h,trivial⟩
theorem Vm (f:Array Value→Array Value) (o:Obj):(Obj.mapFields f o).dict = o.dict:=by
 unfold Obj.mapFields
 split <;> rfl
theorem V6 (v:Value):DK (fieldsOf v):=by
 unfold fieldsOf
 split
 ·refine (V5 _).bind fun o => ?_
  split <;> trivial
 ·trivial
theorem ke (v:Value) (i:Nat):DK (field v i):=by
 unfold field
 refine (V6 v).bind fun o => ?_
 split <;> trivial
theorem ja (v:Value) (i:Nat) (x:Value):DK (setField v i x):=by
 unfold setField
 split
 ·unfold updateField
  refine (V5 _).bind fun o => ?_
  split
  ·split
   ·exact Vk _ (Vm _)
   ·trivial
  ·trivial
 ·trivial
theorem zE (e:Value) (f:Option Addr):DK (setFlight e f):=by
 unfold setFlight
 refine (ke _ _).bind fun o => ?_
 split
 ·exact ja _ _ _
 ·trivial
theorem Vl (ty:String) (vs:List Value):DK (newFields ty vs):=by
 unfold newFields newObj
 dsimp only
 split
 ·trivial
 ·unfold newObjAsIs
  exact fun a => trivial
theorem Km (env:Env) (l:List Env):DK (behindIsImport env l):=by
 unfold behindIsImport
 split
 ·trivial
 ·split
  ·trivial
  ·exact (ke _ _).bind fun _ => trivial
theorem dk_kept (env:Env) (b:Bool) (l:List Env):DK (keptBack env b l):=by
 unfold keptBack
 split
 ·split
  ·trivial
  ·unfold underTheClaimsCaller
   exact DK.bind (dk_stack.bind fun _ => trivial) fun _ => trivial
 ·trivial
theorem ZU:∀ l:List Env,DK (readyFrames l)
 | [] => by unfold readyFrames; trivial
 | env :: outer => by
  unfold readyFrames
  split
  ·refine (V5 _).bind fun o => ?_
   split
   ·trivial
   ·refine (Km _ _).bind fun _ => (dk_kept _ _ _).bind fun _ => DK.bind ?_ fun _ => ZU outer
    exact Vk _ fun o => rfl
  ·trivial
theorem XE (env:Env):DK (PySem.frameOf env):=by
 unfold PySem.frameOf frameEnvs
 refine DK.bind (dk_stack.bind fun _ => trivial) fun l => DK.bind ?_ fun x => ?_
 ·unfold frameObject
  split
  ·trivial
  ·exact (ZU _).bind fun _ => trivial
 ·split <;> trivial
theorem dk_place (f:Addr) (b:Bool):DK (entryPlaceOf f b):=by
 unfold entryPlaceOf
 refine dk_stack.bind fun l => ?_
 split <;> trivial
theorem Kl (e:Value) (env:Env):DK (noteFrame e env):=by
 unfold noteFrame
 have k:∀ f head,DK (do setField e 1 (← EntryCells.newEntry head (← PySem.frameOf env) .none (rawInt f) .none (← entryPlaceOf f (head != .none))):Sem Unit):=fun f head =>
  (XE _).bind fun _ => (dk_place _ _).bind fun _ => DK.bind (by unfold EntryCells.newEntry; exact Vl _ _) fun _ => ja _ _ _
 split
 ·refine (ke _ _).bind fun head => ?_
  split
  ·refine (ke _ _).bind fun _ => ?_
   split
   ·trivial
   ·exact (ja _ _ _).bind fun _ => k _ _
  ·exact k _ _
 ·trivial
theorem kY (env:Env) (e:Value):DK (leaving env e):=by
 unfold leaving
 exact (Kl _ _).bind fun _ => zE _ _
end L2
namespace PySem.W
open Builtin.ObjectAttr
section
variable {prog:Program} {w:World} {A:Around} {E:Value→Shared→Prop} {s:Shared} {K:Frag} {x C:Addr} {ox:Obj} {od:Option Obj} {name:Str} {expr:Bool} {Q:Value→Shared→Prop}
theorem getX_value {v:Value} (X:K.In s.heap) (I:InstAt s.heap x ox C od) (hga:findIn K (.ref C) "__getattribute__" = some (some (.builtin "BaseException.__getattribute__")))
  (hgt:findIn K (.ref C) "__getattr__" = some none) (hm:mroIn K C (.type "BaseException") = some true)
  (hf:findObj K C od name = some (.value v)) (hh:handedIn v = true) (h:Q v { s with toks:=s.toks + 1 }):wpAny (model prog w) A (getAttr (.ref x) name expr) Q E s:=by
 obtain ⟨hp,g,d,t,os⟩:=s
 have L0:=I.type (M:=model prog w)
 have L1:=looks_findIn (M:=model prog w) X hga
 have L2:=looks_findIn (M:=model prog w) X hgt
 have L3:=looks_find (M:=model prog w) X I hf
 have L4:=looks_mroIn (M:=model prog w) X hm
 have FB:=PySem.F.excAttr_ValueError
 have f3:=FB.ga.bind (.ref x)
 have hx0:(expr && onTheHeap (Value.builtin "BaseException.__getattribute__")) = false:=by cases expr <;> rfl
 have hx2:(Value.builtin "BaseException.__getattribute__" == Value.builtin "object.__getattribute__") = false:=by decide +kernel
 have hx1:(onTheHeap (Value.ref C) && Value.builtin "BaseException.__getattribute__" == Value.builtin "object.__getattribute__") = false:=by rw [hx2]; rfl
 have ha:=F.args_bexc_ga (.ref x) (.str name t)
 have hk:builtinKind "BaseException.__getattribute__" = some .slot:=by decide +kernel
 have hsplit:splitId "BaseException.__getattribute__" = some ("BaseException", "__getattribute__"):=by decide +kernel
 unfold getAttr getAttrBy
 refine wpAny_bind (wpAny_mkText (wpAny_holding (wpAny_bind (L0.at (wpAny_bind (L1.at ?_))))))
 repeat (any_goals (first | assumption | with_reducible refine L0.at ?_ | with_reducible refine L2.at ?_ | wp_step))
 refine codeAny_call_builtin FB.ga.plain F.entry_bexc_ga ?_
 simp only [checkBuiltinCall,hk,hsplit,List.cons_append,List.nil_append]
 refine wpAny_bind ?_
 unfold isInstance
 refine wpAny_bind (L0.at (L4.at ?_))
 repeat (any_goals (first | assumption | with_reducible refine L0.at ?_ | with_reducible refine L3.at ?_ | wp_step))
 show wpAny _ _ (handedOut v) _ _ _
 rw [handedOut_of hh]; exact wpAny_pure h
def jv (bmB:List Value):List Value→Bool
 | .ref _ :: r => jv bmB r
 | l => l == bmB
theorem kX {bmB r:List Value} {c:Addr}:jv bmB (.ref c :: r) = jv bmB r:=by rw [jv]
theorem QK {bmB:List Value} {self:Value} (h:refuseLoop self "__setattr__" bmB = pure ()):∀ l,jv bmB l = true→refuseLoop self "__setattr__" l = pure ():=by
 intro l
 induction l with
 | nil => intro e; have e:(([]:List Value) == bmB) = true:=e; rw [eq_of_beq e]; exact h
 | cons x r ih =>
  intro e
  cases x with
  | ref c => rw [refuseLoop_ref]; exact ih (by rw [kX] at e; exact e)
  | _ =>
   rw [jv] at e
   ·rw [eq_of_beq e]; exact h
   ·intro a r' q; cases q
theorem XD {bmB:List Value} {v:Value} (h:bmB.contains v = true):∀ l,jv bmB l = true→l.contains v = true:=by
 intro l
 induction l with
 | nil => intro e; have e:(([]:List Value) == bmB) = true:=e; rw [eq_of_beq e]; exact h
 | cons x r ih =>
  intro e
  cases x with
  | ref c => rw [List.contains_cons,ih (by rw [kX] at e; exact e),Bool.or_true]
  | _ =>
   rw [jv] at e
   ·rw [eq_of_beq e]; exact h
   ·intro a r' q; cases q
def excOver (K:Frag) (C:Addr):Bool:=(clsIn K C).any fun cd => jv [.type "ValueError", .type "Exception", .type "BaseException", .type "object"] cd.mro && cd.hasDict && !cd.mro.isEmpty
theorem setX_new {ox:Obj} {v:Value} {vs:Array Value} {Q:Unit→Shared→Prop} (X:K.In s.heap) (I:InstAt s.heap x ox C none) (hdn:ox.dict = none) (hdt:ox.data = .fields vs) (hsa:findIn K (.ref C) "__setattr__" = some (some (.builtin "object.__setattr__"))) (hp:excOver K C = true)
  (ht:findIn K (.ref C) name = some none)
  (h:∀ h' d,d = s.heap.objs.size→(∀ b o,b≠x→s.heap.get? b = some o→h'.get? b = some o)→h'.get? x = some { ox with dict:=some d }→h'.Ns1 d (fun y => if y = name then some v else none)→Q () { s with heap:=h',toks:=s.toks + 2 }) :
  wpAny (model prog w) A (setAttr (.ref x) name v) Q E s:=by
 have SF:=PySem.F.store_ValueError
 obtain ⟨cd,hc,ho⟩:=any_some hp
 simp only [Bool.and_eq_true,Bool.not_eq_true'] at ho
 obtain ⟨⟨ho,hd⟩,ne⟩:=ho
 refine set_plain X I hsa ?_
 have sub:Looks (model prog w) s.heap (isInstance (.ref x) (.type "object")) true:=I.type.andThen (looks_mroIn X (by unfold mroIn; rw [hc,Option.bind_some,if_neg (by rw [ne]; decide),XD (by decide) _ ho]))
 refine codeAny_call_builtin SF.slot.plain SF.entry (@check_slot (model prog w) _ _ { s with toks:=s.toks + 1 } "object.__setattr__" "object" "__setattr__" (.ref x) [.str name s.toks,v] [] _ SF.kind SF.split sub (SF.args (.ref x) (.str name s.toks) v) ?_)
 have hm:Looks (model prog w) s.heap (mroOf (.ref C)) cd.mro:=(looks_clsIn X hc).andThen .now
 rw [osa_eq,refuse_eq]
 refine wpAny_bind (wpAny_bind (Looks.here (s:={ s with toks:=s.toks + 1 }) I.type (wpAny_bind (Looks.here (s:={ s with toks:=s.toks + 1 }) hm ?_))))
 rw [QK (SF.passes _) _ ho]
 refine wpAny_pure (wpAny_bind (Looks.here (s:={ s with toks:=s.toks + 1 }) I.type (wpAny_bind (Looks.here (s:={ s with toks:=s.toks + 1 }) (looks_findIn X ht) (wpAny_bind (wpAny_pure ?_))))))
 obtain ⟨hx,hcl,hn, -⟩:=I
 obtain ⟨oc,odi,oda,osl⟩:=ox
 dsimp only at hcl hdn hdt
 subst hcl hdn hdt
 refine wpAny_bind (wpAny_pure (wpAny_bind (wpAny_bind (wpAny_loadPart hx (wpAny_bind (Looks.here (s:={ s with toks:=s.toks + 1 }) (looks_clsIn X hc) ?_))))))
 rw [hd]
 have hx₁:(s.heap.push { cls:=.type "dict", data:=.dict #[] }).get? x = some ⟨.ref C,none, .fields vs,osl⟩:=Heap.get?_push_of_some _ hx
 have hxs:x≠s.heap.objs.size:=Nat.ne_of_lt (Heap.lt_size hx)
 refine wpAny_bind (wpAny_alloc' (wpAny_bind (wpAny_update' hx₁ (wpAny_pure ?_))))
 have hgd:((s.heap.push { cls:=.type "dict", data:=.dict #[] }).update x fun o => { cls:=o.cls,dict:=some s.heap.objs.size,data:=o.data,slots:=o.slots }).get? s.heap.objs.size = some { cls:=.type "dict", data:=.dict #[] } :=
  (Heap.get?_update_ne _ _ _ _ hxs.symm).trans (Heap.get?_push_at rfl rfl)
 have hnd:((s.heap.push { cls:=.type "dict", data:=.dict #[] }).update x fun o => { cls:=o.cls,dict:=some s.heap.objs.size,data:=o.data,slots:=o.slots }).Ns s.heap.objs.size (fun _ => none) :=
  ⟨_, #[],_,hgd,rfl,fun e he => absurd he (by simp),fun _ => rfl⟩
 show wpAny _ _ (storeInDict s.heap.objs.size (.str name s.toks) name v) _ _ _
 unfold storeInDict newKeyGuard
 refine wpAny_bind (wpAny_pure (wpAny_bind (wpAny_nsSet1 (Heap.Ns1.of_empty hnd) fun h' hn' hs => ?_)))
 obtain ⟨oD,esD,epD,hoD,hdD,hcD⟩:=hn'.count (Within.cons name v Within.nil)
 refine wpAny_bind (wpAny_lookBehind hoD (by rw [hdD]; exact pastItsLine_dict (Nat.le_trans hcD (by rw [List.length_cons,List.length_nil,sizeLine_eq]; omega))) ?_)
 refine wpAny_pure (h h' s.heap.objs.size rfl (fun b ob hbx hb => ?_) ?_ hn')
 ·exact (hs.2 b (Nat.ne_of_lt (Heap.lt_size hb))).trans ((Heap.get?_update_ne _ _ _ _ hbx).trans (Heap.get?_push_of_some _ hb))
 ·exact (hs.2 x hxs).trans (Heap.get?_update_self _ hx₁ rfl)
end
end PySem.W
namespace PySem.W
abbrev bmV:List Value:=[.type "ValueError", .type "Exception", .type "BaseException", .type "object"]
structure ExcI (h:Heap) (C f:Addr):Prop where
 ex:∃ bm N nm qn bs hdct sn sub ab col dd k0 k1 k2 k3 k5 mN oI,h.get? C = some (excClassObj nm qn C N bs bm hdct sn sub ab col dd k0 k1 k2 k3 k5 "ValueError.__new__")∧h.Ns N mN∧mN "__init__" = some (.ref f)∧OwnTail h bmV bm∧h.get? f = some oI∧oI.cls = .type "function"
def excInI (K:Frag) (C f:Addr):Bool:=match K.lookup C with
 | some ⟨.type "type", _, .cls cd,sl⟩ => (match cd.mro,sl.toList with
  | .ref C' :: bm, [_,_,_,_,some (.builtin n),_] => C' == C && n == "ValueError.__new__" && !cd.hasDel && tailIn K bmV bm && nsOkIn K cd.ns && nsIn K cd.ns "__init__" == some (some (.ref f)) && typeIn K (.ref f) == some (.type "function")
  | _,_ => false)
 | _ => false
theorem Xw {K:Frag} {h:Heap} {N:Addr} {mg:Str→Option Value} {n:Str} {v:Value} (X:K.In h) (G:h.Ns N mg) (e:nsIn K N n = some (some v)):mg n = some v:=by
 obtain ⟨o,es,ep,ho,hd,_,hf⟩:=G
 unfold nsIn at e
 split at e
 ·rename_i c d es' n' sl q
  have:=X _ _ q
  rw [ho] at this
  cases this
  cases hd
  split at e
  ·rename_i en he
   cases e
   rw [← hf]
   unfold nsFind findBy
   rw [← Array.find?_toList,he]
   rfl
  ·first | cases e | (split at e <;> cases e)
 ·cases e
theorem fn_obj {K:Frag} {h:Heap} {f:Addr} (X:K.In h) (e:typeIn K (.ref f) = some (.type "function")):∃ oI,h.get? f = some oI∧oI.cls = .type "function" := by
 unfold typeIn at e
 dsimp only at e
 cases q:K.lookup f with
 | none => rw [q] at e; cases e
 | some o => rw [q] at e; exact ⟨o,X _ _ q,by simpa using e⟩
theorem excI_of {K:Frag} {h:Heap} {C f:Addr} (X:K.In h) (q:excInI K C f = true):ExcI h C f:=by
 unfold excInI at q
 split at q
 ·rename_i dd cd sl ho
  split at q
  ·rename_i C' bm k0 k1 k2 k3 n k5 hm hs
   obtain ⟨nm,bs,mro,ns,qn,hd,sn,sub,ab,col,del⟩:=cd
   simp only [Bool.and_eq_true,beq_iff_eq,Bool.not_eq_true'] at q hm
   obtain ⟨⟨⟨⟨⟨⟨z1,z2⟩,z3⟩,z4⟩,z5⟩,z6⟩,z7⟩:=q
   subst z1; subst z2; subst hm; subst z3
   obtain ⟨l⟩:=sl
   have hs:l = _:=hs
   subst hs
   obtain ⟨oI,e1,e2⟩:=fn_obj X z7
   have N1:=Heap.Ns.of_isNs (isNs_of_in X z5)
   exact ⟨bm,ns,nm,qn,bs,hd,sn,sub,ab,col,dd,k0,k1,k2,k3,k5,_,oI,X _ _ ho,N1,Xw X N1 z6,tail_of_in X z4,e1,e2⟩
  ·cases q
 ·cases q
section
variable {prog:Program} {w:World} {A:Around} {E:Value→Shared→Prop} {s:Shared} {C f:Addr}
theorem kG {h:Heap} {g:Array GenState} {d:Drawn} {t:Nat} {os:OsState} {rest:List Value} {Q:Fin→Shared→Prop} (J:ExcI h C f) (hrest:rest.length≤sizeLine)
  (hq:∀ h' e,Heap.MadeExcOf h h' e (.ref C) rest→wpAny (model prog w) A (call (.ref f) (.ref e :: rest)) (fun r s' => r = .none∧Q (.done (.ret (.ref e))) s') E ⟨h',g,d,t,os⟩) :
  wpAny (model prog w) A (Builtin.«type.__call__» ⟨.ref C :: rest, []⟩) Q E ⟨h,g,d,t,os⟩:=by
 obtain ⟨bm,N,nm,qn,bs,hdct,sn,sub,ab,col,dd,k0,k1,k2,k3,k5,mN,oI,hC,hn,hi,T,hfI,hfc⟩:=J.ex
 have Fn:=PySem.F.excBase_ValueError
 repeat (first | with_reducible refine wpAny_loadPart_at hC ?_ | with_reducible refine wpAny_madeBy_exc hC ?_ | wp_step)
 refine codeAny_call_builtin_code (Code.quiet_builtin _ Fn.quiet) (wpAny_check_new_subU Fn (by decide) T hC ?_)
 refine codeAny_exc_new_subU Fn (by decide) Fn T hC ?_ hrest
 show wpAny _ _ _ _ _ _
 have kk:∀ b o,h.get? b = some o→((h.push { cls:=.type "tuple", data:=.seq rest.toArray }).push { cls:=.ref C,data:=.fields #[.ref h.objs.size, .none, .none, .none, .bool false, .none] }).get? b = some o :=
  fun b o e => Heap.get?_push_of_some _ (Heap.get?_push_of_some _ e)
 have hget:((h.push { cls:=.type "tuple", data:=.seq rest.toArray }).push
   { cls:=.ref C,data:=.fields #[.ref h.objs.size, .none, .none, .none, .bool false, .none] }).get? (h.objs.size + 1) = some
   { cls:=.ref C,data:=.fields #[.ref h.objs.size, .none, .none, .none, .bool false, .none] }:=by heap_get
 have hC₁:=kk _ _ hC
 have hn₁:=hn.keeps kk
 have T₁:=T.keeps kk
 have hcC:(Value.ref C :: bm).contains (.ref C) = true:=by simp
 unfold isInstance
 repeat (first | with_reducible refine wpAny_loadPart_at hget ?_ | (with_reducible refine wpAny_isSubtype_exc hC₁ ?_; rw [hcC]) | wp_step)
 show wpAny _ _ (typeLookup (.ref C) _) _ _ _
 refine wpAny_typeLookup_tail hC₁ hn₁ T₁ Fn.mroIs Fn.init.lookup ?_
 rw [hi]
 refine wpAny_holding (wpAny_bind ?_)
 unfold bindSpecial
 refine wpAny_bind (wpAny_typeOf (T := "function") ⟨_,kk _ _ hfI,hfc⟩ ?_)
 rw [if_pos (by decide)]
 refine wpAny_pure (wpAny_bind (wpAny_mono (hq _ (h.objs.size + 1) ⟨kk,Heap.get?_none_of_le (Nat.le_succ _),h.objs.size,hget,Heap.get?_none_of_le (Nat.le_refl _), ?_⟩) (fun r s' hr => ?_) fun _ _ x => x))
 ·exact Heap.get?_push_of_some _ (Heap.get?_push_at rfl rfl)
 ·obtain ⟨rfl,hQ⟩:=hr
  wp_walk
  exact hQ
theorem call_init {rest:List Value} {Q:Value→Shared→Prop} (J:ExcI s.heap C f) (hrest:rest.length≤sizeLine)
  (hq:∀ h' e,Heap.MadeExcOf s.heap h' e (.ref C) rest→wpAny (model prog w) (A.under (.builtin "type.__call__" ⟨.ref C :: rest, []⟩)) (call (.ref f) (.ref e :: rest)) (fun r s' => r = .none∧Q (.ref e) s') E { s with heap:=h' }) :
  wpAny (model prog w) A (call (.ref C) rest) Q E s:=by
 obtain ⟨h,g,d,t,os⟩:=s
 obtain ⟨bm,N,nm,qn,bs,hdct,sn,sub,ab,col,dd,k0,k1,k2,k3,k5,mN,oI,hC,hn,hi,T,hfI,hfc⟩:=J.ex
 have f1:=tc_lookup
 have f2:=tc_bind (.ref C)
 have hT:(⟨h,g,d,t,os⟩:Shared).TypeIs (.ref C) "type" := ⟨_,hC,rfl⟩
 refine wpAny_call (codeAny_of_tree ?_)
 show wpAny _ _ (callAny (.ref C) _) _ _ _
 repeat (any_goals (first | assumption | with_reducible refine wpAny_loadPart_at hC ?_ | wp_step))
 refine ⟨rfl, ?_⟩
 refine codeAny_call_builtin_at (Code.quiet_builtin _ (by decide +kernel)) entry_typeCall (wpAny_check_type_call_sub hC (kG J hrest fun h' e hm => ?_))
 exact hq h' e hm
abbrev excOb (C:Addr) (d:Option Addr) (t:Addr):Obj:={ cls:=.ref C,dict:=d,data:=.fields #[.ref t, .none, .none, .none, .bool false, .none] }
theorem VF {env:Env} {x:Sem Value} {Q:Flow→Shared→Prop} (hh:A.handled = none)
  (h:wpAny (model prog w) A x (fun v s₁ => ∃ e d t,v = .ref e∧ExcI s₁.heap C f∧s₁.heap.get? e = some (excOb C d t)∧E (.ref e) s₁) E s):wpAny (model prog w) A (raiseStmt env (some x) none) Q E s:=by
 unfold raiseStmt
 refine wpAny_bind (wpAny_mono h (fun v s₁ h₁ => ?_) fun _ _ x => x)
 obtain ⟨e,dx,tx,rfl,J,he,hE⟩:=h₁
 obtain ⟨bm,N,nm,qn,bs,hdct,sn,sub,ab,col,dd,k0,k1,k2,k3,k5,mN,oI,hC,hn,hi,T,hfI,hfc⟩:=J.ex
 have hcB:(Value.ref C :: bm).contains (.type "BaseException") = true:=by rw [List.contains_cons,T.hasType (b:=true) (by decide),Bool.or_true]
 obtain ⟨hp,g,d,tk,os⟩:=s₁
 repeat (first | with_reducible refine wpAny_loadPart_at he ?_ | with_reducible refine wpAny_loadPart_at hC ?_ | (with_reducible refine wpAny_isSubtype_exc hC ?_; rw [hcB]) | wp_step)
 exact wpAny_raiseNew_none hh hE
theorem Raise_I {env:Env} {x:Str} {np cpos pos:Pos} {args:List Expr} {Q:Flow→Shared→Prop} (hh:A.handled = none) (hplain:(backTo cpos (starEach args env)).any (·.1) = false)
  (h:wpAny (model prog w) A (eval (.Name x np) env) (fun c s₁ => c = .ref C∧wpAny (model prog w) A (evalArgs (.ref C) true (backTo cpos (starEach args env)) [])
   (fun a s₂ => a.kw = []∧a.pos.length≤sizeLine∧ExcI s₂.heap C f∧∀ h' e,Heap.MadeExcOf s₂.heap h' e (.ref C) a.pos →
    wpAny (model prog w) (A.under (.builtin "type.__call__" ⟨.ref C :: a.pos, []⟩)) (call (.ref f) (.ref e :: a.pos)) (fun r s' => r = .none∧∃ d t,ExcI s'.heap C f∧s'.heap.get? e = some (excOb C d t)∧E (.ref e) s') E { s₂ with heap:=h' }) E s₁) E s) :
  wpAny (model prog w) A (exec (.Raise (some (.Call (.Name x np) args [] cpos)) none pos) env) Q E s:=by
 rw [arm_exec_Raise]
 refine wpAny_bind (wpAny_standAt (VF (C:=C) (f:=f) hh ?_))
 refine wpAny_bind (wpAny_mono (wpAny_Call_ofName (wpAny_mono h (fun c s₁ h₁ => ?_) fun _ _ x => x)) (fun v s₃ h₃ => wpAny_bind (wpAny_standAt (wpAny_pure h₃))) fun _ _ x => x)
 obtain ⟨rfl,h₁⟩:=h₁
 unfold callWith
 refine wpAny_bind (wpAny_holding (wpAny_mono h₁ (fun a s₂ h₂ => wpAny_bind (wpAny_standAt ?_)) fun _ _ x => x))
 obtain ⟨apos,akw⟩:=a
 obtain ⟨hkw,hlen,J,h₂⟩:=h₂
 obtain rfl:akw = []:=hkw
 obtain ⟨bm,N,nm,qn,bs,hdct,sn,sub,ab,col,dd,k0,k1,k2,k3,k5,mN,oI,hC,hn,hi,T,hfI,hfc⟩:=J.ex
 obtain ⟨hp,g,d,tk,os⟩:=s₂
 simp only [hplain]
 refine wpAny_bind (wpAny_keeperOf_exc hC ?_)
 refine wpAny_bind (call_init J hlen fun h' e hm => wpAny_mono (h₂ h' e hm) (fun r s' z => ⟨z.1,wpAny_bind (wpAny_holding (wpAny_point (wpAny_pure ?_)))⟩) fun _ _ x => x)
 obtain ⟨_,dx,tx,J',he,hE⟩:=z
 exact ⟨e,dx,tx,rfl,J',he,hE⟩
theorem bexc_init {e:Addr} {dx:Option Addr} {tx:Addr} {rest:List Value} {R:Result→Shared→Prop} (J:ExcI s.heap C f) (he:s.heap.get? e = some (excOb C dx tx)) (hrest:rest.length≤sizeLine)
  (hq:∀ h' t',(∀ b o,b≠e→s.heap.get? b = some o→h'.get? b = some o)→h'.get? e = some (excOb C dx t')→R (.ok (.ret .none)) { s with heap:=h' }) :
  codeAny (model prog w) A (.call (.builtin "ValueError.__init__") ⟨.ref e :: rest, []⟩) R s:=by
 obtain ⟨bm,N,nm,qn,bs,hdct,sn,sub,ab,col,dd,k0,k1,k2,k3,k5,mN,oI,hC,hn,hi,T,hfI,hfc⟩:=J.ex
 have F:=PySem.F.excBase_ValueError
 obtain ⟨h,g,d,t,os⟩:=s
 refine codeAny_call_builtin F.init.plain F.initEntry (wpAny_check_init_subU F T hC he rfl ?_)
 have hne:e≠h.objs.size:=Nat.ne_of_lt (Heap.lt_size he)
 have he1:(h.push { cls:=.type "tuple", data:=.seq rest.toArray }).get? e = some (excOb C dx tx):=Heap.get?_push_of_some _ he
 wp_walk
 refine hq _ h.objs.size (fun b o hb q => ?_) ?_
 ·rw [Heap.get?_update_other _ _ (Ne.symm hb)]; exact Heap.get?_push_of_some _ q
 ·exact (Heap.get?_update_self _ he1 rfl).trans rfl
end
end PySem.W
namespace L2
open PySem PySem.Spec PyProof.Rows
def ExcAt (a C:Addr) (d:Option Addr):Heap→Prop:=fun h => ∃ t,h.get? a = some (PySem.W.excOb C d t)
abbrev excO (a C:Addr) (d:Option Addr):HO:=.ext (ExcAt a C d)
theorem VY {P:Program} {w:World} {H:Hp} {h:Heap} {a C:Addr} {d:Option Addr} {t:Addr} (e:h.get? a = some (PySem.W.excOb C d t)):ObjOk P w H h a (excO a C d) :=
 ⟨⟨t,e⟩,⟨_,e⟩,fun h1 h2 ⟨t',e'⟩ k => ⟨t',k _ e'⟩⟩
theorem ju {P:Program} {w:World} {H:Hp} {h:Heap} {a C:Addr} {d:Option Addr} (x:HOk P w H h) (e:H a = some (excO a C d)):∃ t,h.get? a = some (PySem.W.excOb C d t):=(x a _ e).1
structure ExcK (K:PySem.W.Frag) (C f:Addr):Prop where
 i:PySem.W.excInI K C f = true
 sa:PySem.W.findIn K (.ref C) "__setattr__" = some (some (.builtin "object.__setattr__"))
 ov:PySem.W.excOver K C = true
 ga:PySem.W.findIn K (.ref C) "__getattribute__" = some (some (.builtin "BaseException.__getattribute__"))
 gt:PySem.W.findIn K (.ref C) "__getattr__" = some none
 mr:PySem.W.mroIn K C (.type "BaseException") = some true
 hd:PySem.W.hasDictIn K C = true
section
variable {X:Cx} {o e value:Expr} {f:Str} {pos pos':Pos} {ta tv:TE} {C g:Addr}
def sSetX (K:PySem.W.Frag) (C:Addr) (ta tv:TE) (f:Str):TS:=fun D σ H => tv σ H fun y H1 => ta σ H1 fun x H2 => ∃ a,x = .ref a∧H2 a = some (excO a C none)∧∀ d,H2 d = none→D.nx σ (upd (upd H2 d (.xd [(f,y)])) a (excO a C (some d)))
theorem ps_setX (c:ExcK X.K C g) (n:NoAttr X.K C f) (ha:PE X o ta) (hv:PE X value tv) (hs:swapsWith value (some (.Attribute o f pos')) pos.line X.env = pure false):PS X (.Assign [.Attribute o f pos'] value pos) (sSetX X.K C ta tv f):=by
 intro pins s σ H D I h
 refine plainObj_wpAny_Assign_Attribute (thn (hv pins s σ H _ I h) fun u s1 ⟨y,H1,I1,ry,q⟩ => thn (ha pins s1 σ H1 _ I1 q) fun ov s2 ⟨x,H2,I2,rx,a,ex,ea,q2⟩ => ?_) hs
 subst ex
 obtain rfl:ov = Value.ref a:=rx
 obtain ⟨t,hx⟩:=ju I2.hok ea
 refine PySem.W.setX_new I2.kIn (C:=C) (ox:=PySem.W.excOb C none t) ⟨hx,rfl,rfl,trivial⟩ rfl rfl c.sa c.ov n fun h' d hd k e1 e2 => ?_
 obtain ⟨od,es,ep,ho,hr⟩:=e2
 have hf:=(Heap.get?_some_iff.mp ho).2
 have hm:(s2.heap.push od).get? d = some od:=by rw [hd]; exact Heap.get?_push_size _ hf
 have ne:a≠d:=by rw [hd]; exact Nat.ne_of_lt (Heap.lt_size hx)
 have J:=I2.laid (a:=d) (o:=.xd [(f,y)]) (h':=s2.heap.push od) (t':=s2.toks) (fun b v q => Heap.get?_push_of_some _ q) (by rw [hd]; exact Nat.le_refl _)
  ⟨_,⟨od,es,ep,hm,hr⟩,fun z => by
   show RelO (([(f,y)]:List (Str × V)).lookup z) (if z = f then some u else none)
   rw [List.lookup_cons]
   by_cases q:z = f
   ·subst q; rw [beq_self_eq_true,if_pos rfl]; exact ry
   ·rw [if_neg q,beq_eq_false_iff_ne.mpr q]; exact True.intro⟩
 have fr:H2 d = none:=I2.hok.fresh (by rw [hd]; exact Nat.le_refl _)
 have J2:=J.write (x:=a) (e:=a) (o:=excO a C (some d)) (h':=h') (t':=s2.toks + 2) (by rw [upd_ne ne,ea]; exact True.intro) (.inl rfl) (fun b v hb q => ?_) ⟨_,e1⟩ (VY (t:=t) e1)
 ·exact ⟨σ,_,J2,q2 d fr⟩
 ·by_cases hbd:b = d
  ·subst hbd; rw [hm] at q; rw [ho]; exact q
  ·have q':s2.heap.get? b = some v:=by
    have hz:b≠s2.heap.objs.size:=by rw [← hd]; exact hbd
    have:=Heap.get?_some_iff.mp q
    refine Heap.get?_some_iff.mpr ⟨?_,this.2⟩
    have q1:=this.1
    revert q1 hz
    cases s2.heap
    intro hz q1
    simp only [Heap.push] at q1 hz ⊢
    rw [Array.getElem?_push,if_neg hz] at q1
    exact q1
   exact k b v hb q'
def tFs3 (a b:Str) (te:TE):TE:=fun σ H Q => te σ H fun v H1 => ∃ n,v = .int n∧n.natAbs.log2 < 1920∧(Str.ofString (toString n)).length≤10000∧Q (.str (Str.empty ++ a ++ (Str.ofString (toString n)) ++ b)) H1
theorem pe_fs3 {a b:Str} {ka kb:_} {pa pb pf:Pos} {te:TE} (la:a.length≤10000) (lb:b.length≤10000) (he:PE X e te):PE X (.JoinedStr [.Constant (.str a) ka pa, .FormattedValue e (-1) none pf, .Constant (.str b) kb pb] pos) (tFs3 a b te):=by
 intro pins s σ H Q I h
 refine wpAny_JoinedStr ?_
 refine Calls.Constant_str ⟨a,_,rfl,by rw [strLen_append,show Str.empty.length = 0 from rfl,sizeLine_eq]; omega, ?_⟩
 show wpAny _ _ (eval (.FormattedValue e (-1) none pf) X.env) _ _ _
 refine wpAny_FormattedValue_plain (thn (he pins _ σ H _ (I.tok _) h) fun u s1 ⟨v,H1,I1,rv,n,ev,hn,ln,q⟩ => ?_)
 subst ev
 obtain ⟨t,rfl⟩:=(show ∃ t,u = Value.int n t from rv)
 refine wpAny_formatField_int hn ?_
 refine ⟨_,_,rfl,by rw [strLen_append,strLen_append,show Str.empty.length = 0 from rfl,sizeLine_eq]; omega, ?_⟩
 have lz:(Str.empty ++ a ++ Str.ofString (toString n) ++ b).length≤sizeLine:=by rw [strLen_append,strLen_append,strLen_append,show Str.empty.length = 0 from rfl,sizeLine_eq]; omega
 refine Calls.Constant_str ⟨b,_,rfl,lz,lz, ?_⟩
 exact ⟨.str (Str.empty ++ a ++ Str.ofString (toString n) ++ b),H1,(((I1.tok _).tok _).tok _),⟨_,rfl⟩,q⟩
theorem qe_fs3 {a b:Str} {ka kb:_} {pa pb pf:Pos} {te:TE} (la:a.length≤10000) (lb:b.length≤10000) (he:QE X e te):QE X (.JoinedStr [.Constant (.str a) ka pa, .FormattedValue e (-1) none pf, .Constant (.str b) kb pb] pos) (tFs3 a b te):=⟨pe_fs3 la lb he.h⟩
theorem qs_setX (c:ExcK X.K C g) (n:NoAttr X.K C f) (ha:QE X o ta) (hv:QE X value tv) (hs:swapsWith value (some (.Attribute o f pos')) pos.line X.env = pure false:=by rfl):QS X (.Assign [.Attribute o f pos'] value pos) (sSetX X.K C ta tv f):=⟨ps_setX c n ha.h hv.h hs⟩
structure InitB (K:PySem.W.Frag) (mg:Str→Option Value) (x:Str) (B:Addr):Prop where
 b:mg x = some (.ref B)
 sp:PySem.W.specialIn K (.ref B) "__getattribute__" = some (some (.builtin "type.__getattribute__"))
 rd:PySem.W.readsIn K B (.type "type") = true
 fi:PySem.W.findCls K (.ref B) (.type "type") "__init__" = some (.val (.builtin "ValueError.__init__"))
def sInitB (C:Addr) (ta:TA):TS:=fun D σ H => ta σ H fun vs H1 => ∃ a d rest,vs = .ref a :: rest∧H1 a = some (excO a C d)∧rest.length≤1000∧D.nx σ H1
theorem ps_initB {x:Str} {B:Addr} {p apos:Pos} {es:List Expr} {tl:TA} {pl:Sem Bool} (c:ExcK X.K C g) (b:InitB X.K X.mg x B) (ha:PA X (e :: es) tl) (hg:Gl X x) (hdb:(x == ("__debug__" : Str)) = false)
  (hst:starEach (e :: es) X.env = (false,eval e X.env) :: starEach es X.env) (hpl:(backTo pos (starEach es X.env)).any (·.1) = false)
  (ht:eval (.Call (.Attribute (.Name x p) "__init__" apos) (e :: es) [] pos) X.env = (do
   let ov ← eval (.Name x p) X.env
   standAt apos.atName
   let (f,first) ← holding [ov] (getMethod ov "__init__" pl)
   callWith pos f first (backTo pos (starEach (e :: es) X.env)) (backToKw pos (keywordEach [] X.env))))
  (hs:swapsWith (.Call (.Attribute (.Name x p) "__init__" apos) (e :: es) [] pos) none pos'.line X.env = pure false) :
  PS X (.Expr (.Call (.Attribute (.Name x p) "__init__" apos) (e :: es) [] pos) pos') (sInitB C tl):=by
 intro pins s σ H D I h
 refine wpAny_Expr_any ?_ I.quiet hs
 refine PySem.W.methodCall_KW (pl:=pl) (zB I hg b.b ?_ hdb) ht
 refine PySem.W.method_cls I.kIn b.sp (PySem.W.cls_value I.kIn b.rd b.fi rfl ?_)
 refine PyProof.Rows.callWith_builtin1 (thn (ha pos pins _ σ H _ (I.tok _) h) fun us s1 ⟨vs,H1,I1,r1,a,d,rest,ev,ea,hl,q1⟩ => ?_) hst hpl
 subst ev
 cases r1 with
 | cons ra rr =>
 rename_i u us' _
 obtain rfl:u = Value.ref a:=ra
 obtain ⟨t,hx⟩:=ju I1.hok ea
 refine wpAny_call (PySem.W.bexc_init (PySem.W.excI_of I1.kIn c.i) hx (by rw [← rr.length,sizeLine_eq]; omega) fun h' t' k e1 => ?_)
 have J:=I1.write (x:=a) (e:=a) (o:=excO a C d) (h':=h') (t':=s1.toks) (by rw [ea]; exact True.intro) (.inl rfl) (fun b v hb q => k b v hb q) ⟨_,e1⟩ (VY (t:=t') e1)
 refine ⟨σ,H1, ?_,q1⟩
 have eH:upd H1 a (excO a C d) = H1:=by
  funext b
  unfold upd
  split
  ·rename_i q; rw [q,ea]
  ·rfl
 rw [eH] at J
 exact J
theorem qs_initB {x:Str} {B:Addr} {p apos:Pos} {es:List Expr} {tl:TA} {pl:Sem Bool} (c:ExcK X.K C g) (b:InitB X.K X.mg x B) (ha:QA X (e :: es) tl) (hg:Gl X x:=by rfl) (hdb:(x == ("__debug__" : Str)) = false:=by decide)
  (hst:starEach (e :: es) X.env = (false,eval e X.env) :: starEach es X.env:=by rfl) (hpl:(backTo pos (starEach es X.env)).any (·.1) = false:=by rfl)
  (ht:eval (.Call (.Attribute (.Name x p) "__init__" apos) (e :: es) [] pos) X.env = (do
   let ov ← eval (.Name x p) X.env
   standAt apos.atName
   let (f,first) ← holding [ov] (getMethod ov "__init__" pl)
   callWith pos f first (backTo pos (starEach (e :: es) X.env)) (backToKw pos (keywordEach [] X.env))):=by rfl)
  (hs:swapsWith (.Call (.Attribute (.Name x p) "__init__" apos) (e :: es) [] pos) none pos'.line X.env = pure false:=by rfl) :
  QS X (.Expr (.Call (.Attribute (.Name x p) "__init__" apos) (e :: es) [] pos) pos') (sInitB C tl):=⟨ps_initB c b ha.h hg hdb hst hpl ht hs⟩
end
structure Fli (P:Program) (w:World) (outer:List Env) (H:Hp) (s:Shared) (a:Addr) (C:Value) (d:Option Addr) (H':Hp) (s':Shared):Prop where
 own:∀ o,s'.heap.get? a = some o→o.dict = d
 os:s'.os = s.os
 bare:AllBare s'.gens
 fly:∃ (B:Heap) (a0:Value),Heap.FlyingW B outer a C a0 s'.heap∧HOk P w H' B∧(∀ b ∈ frs outer,B.get? b = none)∧(∀ b o,s.heap.get? b = some o→H b = none→b ∉ frs outer→B.get? b = some o) ∧
  ∀ b o,s.heap.get? b = some o→H b≠none→∃ o',B.get? b = some o'
 up:∀ b o,s.heap.get? b = some o→H b = none→b ∈ frs outer→∃ sl,s'.heap.get? b = some { o with slots:=sl }
 free:∀ b o,s.heap.get? b = some o→H b = none→H' b = none
 tups:∀ b xs,H b = some (.tup xs)→H' b = some (.tup xs)
 frzs:∀ b o u,H b = some (.frz o u)→H' b = some (.frz o u)
 tbls:∀ b ps,H b = some (.tbl ps)→∃ more,H' b = some (.tbl (ps ++ more))
def CXe (P:Program) (w:World):CXT:=fun outer H s E e s' => ∃ a C d H',e = .ref a∧Fli P w outer H s a C d H' s'∧E C d H'
theorem CXe.mono {P:Program} {w:World} {outer:List Env} {H:Hp} {s s':Shared} {E E':XK} {e:Value} (h:CXe P w outer H s E e s') (k:∀ C d H',E C d H'→E' C d H'):CXe P w outer H s E' e s':=by
 obtain ⟨a,C,d,H',e1,f,q⟩:=h
 exact ⟨a,C,d,H',e1,f,k C d H' q⟩
structure Body (X:Cx) (outer:List Env):Prop where
 stk:X.stack = X.env :: outer
 out:X.outer = outer
 fr:X.env.frame = some X.env.locals
 ex:X.ex = []
section
variable {X:Cx} {outer:List Env} {pins:List (Addr × Obj)} {σ:St} {H:Hp} {s:Shared}
theorem Inv.old (I:Inv X pins σ H s) {b:Addr} {o:Obj} (q:X.s₀.heap.get? b = some o):b≠X.env.locals:=fun z => by
 subst z
 exact absurd (Heap.lt_size q) (Nat.not_lt.mpr I.ok.above)
theorem Body.mem (Y:Body X outer) {b:Addr} (hb:b ∈ frs X.stack):b = X.env.locals∨b ∈ frs outer:=by
 rw [Y.stk] at hb
 obtain ⟨env,he,hf⟩:=List.mem_filterMap.mp hb
 rcases List.mem_cons.mp he with rfl | he
 ·rw [Y.fr] at hf; exact .inl (Option.some.inj hf).symm
 ·exact .inr (List.mem_filterMap.mpr ⟨env,he,hf⟩)
theorem Body.in_ (Y:Body X outer) {b:Addr} (hb:b ∈ frs outer):b ∈ frs X.stack:=by
 rw [Y.stk]
 obtain ⟨env,he,hf⟩:=List.mem_filterMap.mp hb
 exact List.mem_filterMap.mpr ⟨env, .tail _ he,hf⟩
def untr (H:Hp) (a:Addr):Hp:=fun b => if b = a then none else H b
theorem xU {H:Hp} {a b:Addr} (h:b≠a):untr H a b = H b:=by unfold untr; rw [if_neg h]
theorem XQ {H:Hp} {a:Addr}:untr H a a = none:=by unfold untr; rw [if_pos rfl]
theorem HOk.untr {P:Program} {w:World} {H:Hp} {h h':Heap} {a:Addr} {φ:Heap→Prop} (x:HOk P w H h) (ea:H a = some (.ext φ)) (k:∀ b u,b≠a→H b≠none→h.get? b = some u→h'.get? b = some u):HOk P w (untr H a) h':=fun b o e => by
 have hb:b≠a:=fun z => by rw [z,XQ] at e; cases e
 rw [xU hb] at e
 refine (x b o e).stay (fun c u hc q => ?_) (fun c hc => ?_) fun c xs hc => ?_
 ·rcases hc with rfl | hc
  ·exact k _ u hb (by rw [e]; simp) q
  ·exact k c u (fun z => by rw [z,ea] at hc; cases hc) (by rw [hc]; simp) q
 ·rw [xU fun z => by rw [z,ea] at hc; cases hc]; exact hc
 ·rw [xU fun z => by rw [z,ea] at hc; cases hc]; exact hc
theorem VR (Y:Body X outer) (I:Inv X pins σ H s) {e C:Addr} {d:Option Addr} {E:XK} {R:Value→Shared→Prop} {M:Model} {A:Around} (hA:A.frames = some X.stack) (hx:H e = some (excO e C d)) (he0:X.s₀.heap.get? e = none) (hE:E (.ref C) d (untr H e)) :
  wpAny M A (leaving X.env (.ref e)) (fun _ s'' => CXe X.prog X.w outer X.H₀ X.s₀ E (.ref e) s'') R s:=by
 obtain ⟨t0,hge⟩:=ju I.hok hx
 have hin:∀ env ∈ X.stack,∀ b,env.frame = some b→b ∈ e :: frs X.stack:=fun env he b hb => .tail _ (List.mem_filterMap.mpr ⟨env,he,hb⟩)
 have hl:s.heap.FunFrames (PySem.W.hideAll s.heap (e :: frs X.stack)) X.stack:=PySem.W.funFrames_hide I.stack hin
 rw [Y.stk] at hA
 have ob:∀ b o,X.s₀.heap.get? b = some o→b ∉ frs outer→b ∉ e :: frs X.stack:=fun b o q n z => by
  rcases List.mem_cons.mp z with rfl | z
  ·rw [he0] at q; cases q
  ·rcases Y.mem z with z | z
   ·exact I.old q z
   ·exact n z
 have nx:∀ b,b ∉ X.ex:=fun b => by rw [Y.ex]; simp
 have fs:∀ b,b ∈ frs outer ↔ b ∈ X.fs:=fun b => by show _ ↔ b ∈ frs X.outer; rw [Y.out]
 refine wpAny_mono (DK.any (kY _ _) (wpAny_leaving_firstW (base:=PySem.W.hideAll s.heap (e :: frs X.stack)) hA (by rw [← Y.stk]; exact hl) Y.fr hge (fun b o q => PySem.W.of_hideAll _ q) (PySem.W.hideAll_none _ (.head _)) rfl rfl rfl (Q:=fun _ s' => Heap.LeftW (PySem.W.hideAll s.heap (e :: frs X.stack)) (X.env :: outer) e (.ref C) (.ref t0) s.heap s'.heap∧∃ h',s' = { s with heap:=h' }) fun h' q => ⟨q,h',rfl⟩)) (fun _ s' q => ?_) fun _ _ q => q.1
 obtain ⟨⟨⟨k1,⟨_,_,k2⟩,k3,k4⟩,h',rfl⟩,kd⟩:=q
 refine ⟨e, .ref C,d,untr H e,rfl,⟨?_,I.os,I.bare,⟨_, .ref t0,⟨k1,PySem.W.hideAll_none _ (.head _),k2,k3⟩, ?_, ?_, ?_, ?_⟩, ?_, ?_, ?_, ?_, ?_⟩,hE⟩
 ·exact fun o q => (kd.get (d:=0) hge q)
 ·exact I.hok.untr hx fun b u hb hb0 q => PySem.W.hideAll_get _ q fun hm => by
   rcases List.mem_cons.mp hm with z | hm
   ·exact hb z
   ·exact hb0 (I.stkFree b hm)
 ·exact fun b hb => PySem.W.hideAll_none _ (.tail _ (Y.in_ hb))
 ·exact fun b o q n hb => PySem.W.hideAll_get _ (I.base.keep b o q n (fun z => hb ((fs b).mpr z)) (nx b)) (ob b o q hb)
 ·intro b o q n
  obtain ⟨o',e1⟩:=I.base.there b o q (nx b)
  refine ⟨o',PySem.W.hideAll_get _ e1 (ob b o q fun z => n (I.ok.frf b ((fs b).mp z)))⟩
 ·intro b o q n hb
  obtain ⟨sl,e1⟩:=I.base.slot b o q n ((fs b).mp hb) (nx b)
  obtain ⟨_,o',ho',hd⟩:=I.ok.funs.mem (show b ∈ X.outer.filterMap (·.frame) from (fs b).mp hb)
  rw [q] at ho'; cases ho'
  obtain ⟨sl2,e2⟩:=k4 b _ e1 hd
  exact ⟨sl2,e2⟩
 ·intro b o q n
  have:=I.base.free b o q n (nx b)
  unfold untr
  split
  ·rfl
  ·exact this
 ·intro b xs q
  have:=I.base.tups b xs q
  rw [xU fun z => by rw [z,hx] at this; cases this]; exact this
 ·intro b o u q
  have:=I.base.frzs b o u q
  rw [xU fun z => by rw [z,hx] at this; cases this]; exact this
 ·intro b ps q
  obtain ⟨m,this⟩:=I.base.tbls b ps q
  exact ⟨m,by rw [xU fun z => by rw [z,hx] at this; cases this]; exact this⟩
theorem JB (Y:Body X outer) (I:Inv X pins σ H s) {e:Value} {s':Shared} {E:XK} {R:Value→Shared→Prop} {M:Model} {A:Around} (hA:A.frames = some X.stack) (hx:CXe X.prog X.w X.stack H s E e s') :
  wpAny M A (leaving X.env e) (fun _ s'' => CXe X.prog X.w outer X.H₀ X.s₀ E e s'') R s':=by
 obtain ⟨a,C,d,H',rfl,F,hE⟩:=hx
 obtain ⟨B,a0,fl,hok,nb,kp,th⟩:=F.fly
 have ob:∀ b o,X.s₀.heap.get? b = some o→b ∉ frs outer→b ∉ frs X.stack:=fun b o q n z => by
  rcases Y.mem z with z | z
  ·exact I.old q z
  ·exact n z
 have nx:∀ b,b ∉ X.ex:=fun b => by rw [Y.ex]; simp
 have fs:∀ b,b ∈ frs outer ↔ b ∈ X.fs:=fun b => by show _ ↔ b ∈ frs X.outer; rw [Y.out]
 rw [Y.stk] at hA fl
 refine wpAny_mono (DK.any (kY _ _) (wpAny_leaves_onW hA Y.fr fl (Q:=fun _ s2 => (Heap.FlyingW B outer a C a0 s2.heap∧s'.heap.UpToSlots s2.heap)∧∃ h',s2 = { s' with heap:=h' }) fun h' x1 x4 => ⟨⟨x1,x4⟩,h',rfl⟩)) (fun _ s2 z => ?_) fun _ _ q => q.1
 obtain ⟨⟨⟨x1,x4⟩,h',rfl⟩,kd⟩:=z
 refine ⟨a,C,d,H',rfl,⟨?_,F.os.trans I.os,F.bare,⟨B,a0,x1,hok,fun b hb => nb b (Y.in_ hb), ?_, ?_⟩, ?_, ?_,fun b xs q => F.tups b xs (I.base.tups b xs q),fun b o u q => F.frzs b o u (I.base.frzs b o u q), ?_⟩,hE⟩
 ·obtain ⟨o1,e1,_⟩:=fl.there
  exact fun o q => (kd.get (d:=0) e1 q).trans (F.own o1 e1)
 ·exact fun b o q n hb => kp b o (I.base.keep b o q n (fun z => hb ((fs b).mpr z)) (nx b)) (I.base.free b o q n (nx b)) (ob b o q hb)
 ·intro b o q n
  obtain ⟨o',e1⟩:=I.base.there b o q (nx b)
  cases hb:H b with
  | none => exact ⟨o',kp b o' e1 hb (ob b o q fun z => n (I.ok.frf b ((fs b).mp z)))⟩
  | some u => exact th b o' e1 (by rw [hb]; simp)
 ·intro b o q n hb
  obtain ⟨sl,e1⟩:=I.base.slot b o q n ((fs b).mp hb) (nx b)
  obtain ⟨sl',e2⟩:=F.up b _ e1 (I.base.free b o q n (nx b)) (Y.in_ hb)
  obtain ⟨_,o',ho',hd⟩:=I.ok.funs.mem (show b ∈ X.outer.filterMap (·.frame) from (fs b).mp hb)
  rw [q] at ho'; cases ho'
  obtain ⟨sl2,e3⟩:=x4 b _ e2 hd
  exact ⟨sl2,e3⟩
 ·intro b o q n
  obtain ⟨o',e1⟩:=I.base.there b o q (nx b)
  exact F.free b o' e1 (I.base.free b o q n (nx b))
 ·intro b ps q
  obtain ⟨m1,e1⟩:=I.base.tbls b ps q
  obtain ⟨m2,e2⟩:=F.tbls b _ e1
  exact ⟨m1 ++ m2,by rw [e2,Array.append_assoc]⟩
end
def pV:Option Int→V
 | none => .non
 | some n => .int n
theorem pV_inj {p q:Option Int} (h:pV p = pV q):p = q:=by
 cases p <;> cases q <;> first | rfl | cases h
 rfl
def PartIs (d:Option Addr) (H:Hp):Option Int→Prop
 | none => d = none
 | some n => ∃ x,d = some x∧H x = some (.xd [("part", .int n)])
def EX (mg:Str→Option Value) (D:Ends) (σ:St):XK:=fun C d H' => ∃ nm p,mg nm = some C∧PartIs d H' p∧D.bk (some (.str nm) :: some (pV p) :: σ) H'
def Cmp (X:Cx) (E:XK) (σ:St):Prop:=∀ pins H s e s',Inv X pins σ H s→CXe X.prog X.w X.stack H s E e s'→X.xe e s'
def CmpD (r:Prop) (X:Cx) (D:Ends):Prop:=(∀ σ,Cmp X (EX X.mg D σ) σ)∧(r→∀ pins σ H s e C d,Inv X pins σ H s→H e = some (excO e C d)→X.s₀.heap.get? e = none→EX X.mg D σ (.ref C) d (untr H e)→X.xe (.ref e) s)
structure QX (r:Prop) (X:Cx) (st:Stmt) (t:TS):Prop where
 h:∀ pins s σ H D,CmpD r X D→Inv X pins σ H s→t D σ H→wpAny (model X.prog X.w) X.A (exec st X.env) (SP X pins D) X.xe s
structure QXs (r:Prop) (X:Cx) (st:List Stmt) (t:TS):Prop where
 h:∀ pins s σ H D,CmpD r X D→Inv X pins σ H s→t D σ H→wpAny (model X.prog X.w) X.A (execs st X.env) (SP X pins D) X.xe s
abbrev TX:=St→Hp→VK→XK→Prop
structure QXe (X:Cx) (e:Expr) (t:TX):Prop where
 h:∀ pins s σ H Q E,Cmp X E σ→Inv X pins σ H s→t σ H Q E→wpAny (model X.prog X.w) X.A (eval e X.env) (EP X pins σ Q) X.xe s
section
variable {r:Prop} {X:Cx} {st:Stmt} {rest:List Stmt} {t u:TS} {e:Expr} {tx:TX} {pos:Pos}
theorem qR (h1:QX r X st t) (h2:QXs r X rest u):QXs r X (st :: rest) (tSeq t u):=⟨fun pins s σ H D c I h => by
 refine wpAny_execs_cons (thn (h1.h pins s σ H { D with nx:=u D } c I h) fun f s1 q => ?_)
 cases f with
 | next =>
  obtain ⟨σ',H',I',q⟩:=q
  exact h2.h pins s1 σ' H' D c I' q
 | ret v => exact q
 | brk => exact q
 | cont => exact q⟩
theorem zj:QXs r X [] vT:=⟨fun pins s σ H D c I h => wpAny_execs_nil ⟨σ,H,I,h⟩⟩
theorem qZ (h1:QX r X st t):QXs r X [st] t:=⟨fun pins s σ H D c I h => by
 refine wpAny_execs_cons (thn (h1.h pins s σ H D c I h) fun f s1 q => ?_)
 cases f with
 | next => exact wpAny_execs_nil q
 | ret v => exact q
 | brk => exact q
 | cont => exact q⟩
theorem xq (h:QS X.nox st t):QX r X st t:=⟨fun pins s σ H D _ I q => wpAny_mono (h.h pins s σ H D (I.wish _) q) (fun _ _ z => z.unwish) fun _ _ z => False.elim z⟩
theorem jg {c:Expr} {a b:List Stmt} {tc:TT} (hc:QT X.nox c tc) (ha:QXs r X a t) (hb:QXs r X b u):QX r X (.If c a b pos) (tIfS tc t u):=⟨fun pins s σ H D k I h => by
 refine wpAny_If (thn (hc.h.nox pins s σ H _ I h) fun d s1 ⟨H1,I1,q1⟩ => ?_)
 cases d with
 | true => exact ha.h pins s1 σ H1 D k I1 q1
 | false => exact hb.h pins s1 σ H1 D k I1 q1⟩
def tDropX (tx:TX) (mg:Str→Option Value):TS:=fun D σ H => tx σ H (fun _ H1 => D.nx σ H1) (EX mg D σ)
theorem xk (he:QXe X e tx) (hs:swapsWith e none pos.line X.env = pure false:=by rfl):QX r X (.Expr e pos) (tDropX tx X.mg):=⟨fun pins s σ H D k I h =>
 wpAny_Expr_any (thn (he.h pins s σ H _ _ (k.1 σ) I h) fun v s1 ⟨x,H1,I1,r1,q1⟩ => ⟨σ,H1,I1,q1⟩) I.quiet hs⟩
def tRetX (tx:TX) (mg:Str→Option Value):TS:=fun D σ H => tx σ H D.rt (EX mg D σ)
theorem xQ (he:QXe X e tx):QX r X (.Return (some e) pos) (tRetX tx X.mg):=⟨fun pins s σ H D k I h =>
 wpAny_Return_some (thn (he.h pins s σ H _ _ (k.1 σ) I h) fun v s1 ⟨x,H1,I1,r1,q1⟩ => ⟨x,σ,H1,I1,r1,q1⟩)⟩
def tSetX (i:Nat) (tx:TX) (mg:Str→Option Value):TS:=fun D σ H => tx σ H (fun v H1 => D.nx (σ.set i (some v)) H1) (EX mg D σ)
theorem Jk {i:Nat} {x:Str} {pos':Pos} (hN:X.N.Nodup) (hi:X.N[i]? = some x) (hx:Loc X.env.scope x) (he:QXe X e tx) (hs:swapsWith e (some (.Name x pos')) pos.line X.env = pure false:=by rfl) (hf:X.fn x = true∨X.env.scope.names.lookup x = some .local:=by first | exact .inl rfl | exact .inr rfl | assumption) :
  QX r X (.Assign [.Name x pos'] e pos) (tSetX i tx X.mg):=⟨fun pins s σ H D k I h => by
 refine wpAny_Assign_Name (thn (he.h pins s σ H _ _ (k.1 σ) I h) fun v s1 ⟨y,H1,I1,r1,q1⟩ => ?_) hs
 exact zL I1 hN hi hx r1 (fun s2 I2 => ⟨_,H1,I2,q1⟩) hf⟩
theorem Jf {k:Nat} {f:Addr} {fd:FuncData} {ps:List Str} {sp:Sp} {pins:List (Addr × Obj)} {σ:St} {H:Hp} {s:Shared} {Q:VK} {E:XK} {us:List Value} {vs:List V} (F:FnOk X.prog X.w X.K X.mg X.base (CXe X.prog X.w) k f fd ps sp) (hr:Room k X.A) (hb:Binds X.K fd ps []) (hx:Cmp X E σ)
  (I:Inv X pins σ H s) (rv:Vals vs us) (h:sp vs H Q E):wpAny (model X.prog X.w) X.A (call (.ref f) us) (EP X pins σ Q) X.xe s:=by
 have hl:us.length = ps.length:=by rw [← rv.length]; exact F.len _ _ _ _ h
 refine wpAny_call (codeAny_mono (F.run X.A X.stack s H ⟨us, []⟩ us vs Q E hr I.env0 (by simpa using hb s us I.kIn (by simpa using hl)) rv h) fun rr s' hq => ?_)
 cases rr with
 | error e => exact hx pins H s e s' I hq
 | ok fl =>
  cases fl with
  | ret u => exact I.after hq
  | next => exact False.elim hq
  | brk => exact False.elim hq
  | cont => exact False.elim hq
structure DefX (P:Program) (w:World) (K:PySem.W.Frag) (mg:Str→Option Value) (base:Heap) (x:Str) (k:Nat) (ps:List Str) (sp:Sp):Prop where
 ex:∃ (f:Addr) (fd:FuncData),mg x = some (.ref f)∧PySem.W.keepIn K (.ref f) = true∧Binds K fd ps []∧FnOk P w K mg base (CXe P w) k f fd ps sp
structure MDefX (P:Program) (w:World) (K:PySem.W.Frag) (mg:Str→Option Value) (base:Heap) (C:Addr) (m:Str) (k:Nat) (ps:List Str) (sp:Sp):Prop where
 ex:∃ (f:Addr) (fd:FuncData),Meth K C m f∧Binds K fd ps []∧FnOk P w K mg base (CXe P w) k f fd ps sp
def tCallX (sp:Sp) (t:TA):TX:=fun σ H Q E => t σ H fun vs H1 => sp vs H1 Q E
theorem zW {x:Str} {k:Nat} {ps:List Str} {sp:Sp} {p:Pos} {es:List Expr} {ta:TA} (D:DefX X.prog X.w X.K X.mg X.base x k ps sp) (hr:Room k X.A) (ha:QA X.nox (e :: es) ta) (hg:Gl X x:=by rfl)
  (hdb:(x == ("__debug__" : Str)) = false:=by decide) (he:starEach (e :: es) X.env = (false,eval e X.env) :: starEach es X.env:=by rfl) (hpl:(backTo pos (starEach es X.env)).any (·.1) = false:=by rfl) :
  QXe X (.Call (.Name x p) (e :: es) [] pos) (tCallX sp ta):=⟨fun pins s σ H Q E hx I h => by
 obtain ⟨f,fd,hm,hk,hb,F⟩:=D.ex
 refine wpAny_Call_Name_kw (zB I hg hm ?_ hdb)
 refine PySem.W.callWith_K (h₀:=X.base) I.ok.mod.kin hk (wpAny_mono (ha.h pos pins s σ H _ (I.wish _) h) (fun us s1 ⟨vs,H1,I1,r,q⟩ => ⟨I1.unwish.kIn, ?_⟩) fun _ _ z => False.elim z) he hpl
 exact Jf F hr hb hx I1.unwish r q⟩
def tMethX (C:Addr) (m:Str) (sp:Sp) (ta:TE) (t:TA):TX:=fun σ H Q E => ta σ H fun x H1 => ∃ a dx fs,x = .ref a∧H1 a = some (.ins C dx fs)∧fs.lookup m = none∧t σ H1 fun vs H2 => sp (x :: vs) H2 Q E
theorem zk {pl:Sem Bool} {C:Addr} {m:Str} {k:Nat} {ps:List Str} {sp:Sp} {o:Expr} {apos:Pos} {es:List Expr} {ta:TE} {tl:TA} (hq:QE X.nox o ta) (c:Cls X.K C) (D:MDefX X.prog X.w X.K X.mg X.base C m k ps sp) (hr:Room k X.A) (ha:QA X.nox (e :: es) tl)
  (hst:starEach (e :: es) X.env = (false,eval e X.env) :: starEach es X.env:=by rfl) (hpl:(backTo pos (starEach es X.env)).any (·.1) = false:=by rfl)
  (ht:eval (.Call (.Attribute o m apos) (e :: es) [] pos) X.env = (do
   let ov ← eval o X.env
   standAt apos.atName
   let (f,first) ← holding [ov] (getMethod ov m pl)
   callWith pos f first (backTo pos (starEach (e :: es) X.env)) (backToKw pos (keywordEach [] X.env))):=by rfl) :
  QXe X (.Call (.Attribute o m apos) (e :: es) [] pos) (tMethX C m sp ta tl):=⟨fun pins s σ H Q E hx I h => by
 obtain ⟨f,fd,hm,hb,F⟩:=D.ex
 refine PySem.W.methodCall_KW (pl:=pl) (thn (hq.h.nox pins s σ H _ I h) fun u s1 ⟨x,H1,I1,rx,a,dx,fs,ex,ea,l,q⟩ => ?_) ht
 subst ex
 obtain rfl:u = Value.ref a:=rx
 refine jR I1 ea c hm l ?_
 refine PySem.W.callWith_K (first:=[.ref a]) (h₀:=X.base) I.ok.mod.kin hm.kp (wpAny_mono (ha.h pos pins s1 σ H1 _ (I1.wish _) q) (fun us s2 ⟨vs,H2,I2,r,q2⟩ => ⟨I2.unwish.kIn, ?_⟩) fun _ _ z => False.elim z) hst hpl
 exact Jf (us:=.ref a :: us) (vs:=.ref a :: vs) F hr hb hx I2.unwish (.cons rfl r) q2⟩
end
theorem own_obj {K:PySem.W.Frag} {h:Heap} {C:Addr} {bmB:List Value} {newId:String} (X:K.In h) (q:PySem.W.excIn K C bmB newId = true) :
  ∃ bm N nm qn bs hdct sn sub ab col dd k0 k1 k2 k3 k5 mN,h.get? C = some (excClassObj nm qn C N bs bm hdct sn sub ab col dd k0 k1 k2 k3 k5 newId)∧h.Ns N mN∧mN "__init__" = none∧OwnTail h bmB bm:=by
 unfold PySem.W.excIn at q
 split at q
 ·rename_i dd cd sl ho
  split at q
  ·rename_i C' bm k0 k1 k2 k3 n k5 hm hs
   obtain ⟨nm,bs,mro,ns,qn,hd,sn,sub,ab,col,del⟩:=cd
   simp only [Bool.and_eq_true,beq_iff_eq,Bool.not_eq_true'] at q hm
   obtain ⟨⟨⟨⟨⟨z1,z2⟩,z3⟩,z4⟩,z5⟩,z6⟩:=q
   subst z1; subst z2; subst hm; subst z3
   obtain ⟨l⟩:=sl
   have hs:l = _:=hs
   subst hs
   exact ⟨bm,ns,nm,qn,bs,hd,sn,sub,ab,col,dd,k0,k1,k2,k3,k5,_,X _ _ ho, .of_isNs (PySem.W.isNs_of_in X z5),PySem.W.nsMap_none_of_in X z5 z6,PySem.W.tail_of_in X z4⟩
  ·cases q
 ·cases q
structure ExcC (K:PySem.W.Frag) (mg:Str→Option Value) (x:Str) (C:Addr):Prop where
 b:mg x = some (.ref C)
 o:PySem.W.excIn K C [.type "ValueError", .type "Exception", .type "BaseException", .type "object"] "ValueError.__new__" = true
theorem untr_upd {H:Hp} {a:Addr} {o:HO} (h:H a = none):untr (upd H a o) a = H:=by
 funext b
 unfold untr upd
 split
 ·rename_i q; rw [q,h]
 ·rfl
theorem Inv.none0 {X:Cx} {pins:List (Addr × Obj)} {σ:St} {H:Hp} {s:Shared} {e:Addr} (I:Inv X pins σ H s) (hx:e ∉ X.ex) (h:s.heap.get? e = none):X.s₀.heap.get? e = none:=by
 cases z:X.s₀.heap.get? e with
 | none => rfl
 | some o =>
  obtain ⟨o',q⟩:=I.base.there e o z hx
  rw [h] at q; cases q
theorem ObjOk.here {P:Program} {w:World} {H:Hp} {h:Heap} {a:Addr} {o:HO} (x:ObjOk P w H h a o):∃ u,h.get? a = some u:=by
 cases o with
 | lst xs => obtain ⟨_,_,_,_,e⟩:=x; exact ⟨_,e⟩
 | tup xs => obtain ⟨_,_,_,o,e,_⟩:=x; exact ⟨o,e⟩
 | dK kvs => obtain ⟨_,_,_,_,o,_,_,e,_⟩:=x; exact ⟨_,e⟩
 | dT kvs => obtain ⟨_,_,_,_,o,_,_,e,_⟩:=x; exact ⟨_,e⟩
 | set S n => obtain ⟨o,_,_,_,e,_⟩:=x; exact ⟨_,e⟩
 | ins C dx fs => obtain ⟨_,_,_,e,_⟩:=x; exact ⟨_,e⟩
 | own y => obtain ⟨_,e⟩:=x; exact ⟨_,e⟩
 | xd fs => obtain ⟨_,⟨_,_,_,e,_⟩,_⟩:=x; exact ⟨_,e⟩
 | rng lo hi => obtain ⟨_,_,_,e⟩:=x; exact ⟨_,e⟩
 | frz ob u => obtain ⟨e,_⟩:=x; exact ⟨_,e⟩
 | tbl ps => exact ⟨_,(show h.get? a = some _ from x)⟩
 | met f y => exact ⟨_,(show h.get? a = some _ from x)⟩
 | ext φ => obtain ⟨_,⟨o,e⟩,_⟩:=x; exact ⟨o,e⟩
theorem Inv.exc {X:Cx} {pins:List (Addr × Obj)} {σ:St} {H:Hp} {s:Shared} {e C:Addr} {args:List Value} {h1:Heap} (I:Inv X pins σ H s) (hm:Heap.MadeExcOf s.heap h1 e (.ref C) args):H e = none∧Inv X pins σ (upd H e (excO e C none)) { s with heap:=h1 }:=by
 obtain ⟨k,hn,t,ht,_⟩:=hm
 have fr:H e = none:=by
  cases z:H e with
  | none => rfl
  | some o =>
   obtain ⟨u,q⟩:=(I.hok e o z).here
   rw [hn] at q; cases q
 refine ⟨fr, ?_⟩
 refine I.un (h':=h1) (t':=s.toks) ⟨fun b u q _ _ _ => k b u q,fun b u q _ _ _ => ⟨u.slots,k b u q⟩,fun b u q n _ => ?_,fun b u q _ => ⟨u,k b u q⟩,fun b xs q => ?_,fun b u xs q => ?_,fun b ps q => ⟨#[], ?_⟩⟩ fun b u q => ?_
 ·rw [upd_ne fun z => by rw [z,hn] at q; cases q]; exact n
 ·rw [upd_ne (vk q fr)]; exact q
 ·rw [upd_ne (vk q fr)]; exact q
 ·rw [upd_ne (vk q fr),q]; simp
 ·by_cases hb:b = e
  ·subst hb; rw [upd_same] at q; cases q; exact VY (t:=t) ht
  ·rw [upd_ne hb] at q
   exact (I.hok b u q).stay (fun c v _ q => k c v q) (fun c q => by rw [upd_ne (vk q fr)]; exact q) fun c xs q => by rw [upd_ne (vk q fr)]; exact q
def tRaise (x:Str) (t:TA):TS:=fun D σ H => t σ H fun vs H1 => vs.length≤sizeLine∧D.bk (some (.str x) :: some .non :: σ) H1
theorem qx_raise {X:Cx} {x:Str} {C:Addr} {np cpos pos:Pos} {e:Expr} {es:List Expr} {ta:TA} (hc:X.calm = true) (hx:X.ex = []) (O:ExcC X.K X.mg x C) (ha:QA X.nox (e :: es) ta) (hg:Gl X x:=by rfl)
  (hdb:(x == ("__debug__" : Str)) = false:=by decide) (he:starEach (e :: es) X.env = (false,eval e X.env) :: starEach es X.env:=by rfl) (hpl:(backTo cpos (starEach es X.env)).any (·.1) = false:=by rfl) :
  QX True X (.Raise (some (.Call (.Name x np) (e :: es) [] cpos)) none pos) (tRaise x ta):=⟨fun pins s σ H D k I h => by
 obtain ⟨bm,N,nm,qn,bs,hdct,sn,sub,ab,col,dd,k0,k1,k2,k3,k5,mN,hC,hN,hni,T⟩:=own_obj I.mod.kin O.o
 have hh:=I.ok.hd hc
 refine wpAny_Raise_call_subU (C:=C) (nm:=nm) (q:=qn) (N:=N) (bs:=bs) (bm:=bm) (hdct:=hdct) (sn:=sn) (sub:=sub) (ab:=ab) (col:=col) (dd:=dd) (k0:=k0) (k1:=k1) (k2:=k2) (k3:=k3) (k5:=k5)
  PySem.F.excBase_ValueError (by decide) PySem.F.excBase_ValueError (mN:=mN) (T.hasType PySem.F.excBase_ValueError.hasBase) hh (by rw [he]; show (false || (backTo cpos (starEach es X.env)).any (·.1)) = false; rw [hpl]; rfl) hni (zB I hg O.b ⟨rfl, ?_⟩ hdb)
 have h1:=ha.h cpos pins s σ H _ (I.wish _) h
 rw [he] at h1 ⊢
 refine Calls.evalArgs_plain (wpAny_mono h1 (fun vs s₂ ⟨xs,H1,I1,r,hl,q⟩ => ?_) fun _ _ z => False.elim z)
 have I2:=I1.unwish
 refine ⟨rfl,by rw [← r.length]; exact hl,I2.bk _ _ hC,hN.keeps I2.bk,T.keeps I2.bk,fun h' e' hm => ?_⟩
 obtain ⟨fr,J⟩:=I2.exc hm
 refine k.2 trivial pins σ _ _ e' C none J upd_same (I2.none0 (by rw [hx]; simp) hm.new) ⟨x,none,O.b,rfl, ?_⟩
 rw [untr_upd fr]
 exact q⟩
abbrev xp (n:Int):Prop:=n.natAbs.log2 < 1920∧(Str.ofString (toString n)).length≤10000
def spI (C:Addr):Sp:=fun vs H Q _ => ∃ a n,vs = [.ref a, .int n]∧xp n∧H a = some (excO a C none)∧∀ d,H d = none→Q .non (upd (upd H d (.xd [("part", .int n)])) a (excO a C (some d)))
structure ExcD (P:Program) (w:World) (K:PySem.W.Frag) (mg:Str→Option Value) (base:Heap) (x:Str) (C:Addr) (k:Nat):Prop where
 b:mg x = some (.ref C)
 ex:∃ f fd,ExcK K C f∧Binds K fd ["self", "part"] []∧FnOk P w K mg base CX0 k f fd ["self", "part"] (spI C)
def X2 (x:Str) (t:TA):TS:=fun D σ H => t σ H fun vs H1 => ∃ n,vs = [.int n]∧xp n∧∀ d,H1 d = none→D.bk (some (.str x) :: some (.int n) :: σ) (upd H1 d (.xd [("part", .int n)]))
theorem kg {X:Cx} {x:Str} {C:Addr} {kk:Nat} {np cpos pos:Pos} {e:Expr} {es:List Expr} {ta:TA} (hc:X.calm = true) (hx:X.ex = []) (O:ExcD X.prog X.w X.K X.mg X.base x C kk) (hr:Room (kk + 1) X.A) (ha:QA X.nox (e :: es) ta) (hg:Gl X x:=by rfl)
  (hdb:(x == ("__debug__" : Str)) = false:=by decide) (he:starEach (e :: es) X.env = (false,eval e X.env) :: starEach es X.env:=by rfl) (hpl:(backTo cpos (starEach es X.env)).any (·.1) = false:=by rfl) :
  QX True X (.Raise (some (.Call (.Name x np) (e :: es) [] cpos)) none pos) (X2 x ta):=⟨fun pins s σ H D k I h => by
 obtain ⟨f,fd,ck,hb,F⟩:=O.ex
 have hh:=I.ok.hd hc
 refine PySem.W.Raise_I (C:=C) (f:=f) hh (by rw [he]; show (false || (backTo cpos (starEach es X.env)).any (·.1)) = false; rw [hpl]; rfl) (zB I hg O.b ⟨rfl, ?_⟩ hdb)
 have h1:=ha.h cpos pins s σ H _ (I.wish _) h
 rw [he] at h1 ⊢
 refine Calls.evalArgs_plain (wpAny_mono h1 (fun us s₂ ⟨xs,H1,I1,r,n,ev,hn,q⟩ => ?_) fun _ _ z => False.elim z)
 subst ev
 have I2:=I1.unwish
 have hl1:us.length = 1:=by rw [← r.length]; rfl
 refine ⟨rfl,by show us.length≤_; rw [hl1,sizeLine_eq]; omega,PySem.W.excI_of I2.kIn ck.i,fun h' e' hm => ?_⟩
 obtain ⟨fr,J⟩:=I2.exc hm
 have r2:Vals [V.ref e',V.int n] (Value.ref e' :: us):=.cons rfl r
 refine wpAny_call (codeAny_mono (F.run _ X.stack _ _ ⟨Value.ref e' :: us, []⟩ (Value.ref e' :: us) _ (fun v H2 => v = .non∧∃ d,H1 d = none∧d≠e'∧H2 = upd (upd (upd H1 e' (excO e' C none)) d (.xd [("part", .int n)])) e' (excO e' C (some d))) E0 (hr.make C us [])
  (J.env0.make C us []) (by simpa using hb _ (Value.ref e' :: us) J.kIn (by simp [hl1])) r2 ⟨e',n,rfl,hn,upd_same,fun d hd => ⟨rfl,d, ?_, ?_,rfl⟩⟩) fun rr s' hq' => ?_)
 ·by_cases z:d = e'
  ·subst z; rw [upd_same] at hd; cases hd
  ·rwa [upd_ne z] at hd
 ·intro z; subst z; rw [upd_same] at hd; cases hd
 ·cases rr with
  | error e => exact False.elim hq'
  | ok fl =>
   cases fl with
   | ret u =>
    obtain ⟨v,H2,I3,rv,ev,d,hd1,hd2,eH⟩:=J.after hq'
    subst ev eH
    obtain ⟨t,ht⟩:=ju I3.hok (upd_same (H:=upd (upd H1 e' (excO e' C none)) d (.xd [("part", .int n)])) (o:=excO e' C (some d)))
    refine ⟨rv,some d,t,PySem.W.excI_of I3.kIn ck.i,ht, ?_⟩
    refine k.2 trivial pins σ _ _ e' C (some d) I3 upd_same (I2.none0 (by rw [hx]; simp) hm.new) ⟨x,some n,O.b,⟨d,rfl, ?_⟩, ?_⟩
    ·rw [xU hd2,upd_ne hd2,upd_same]
    ·have eU:untr (upd (upd (upd H1 e' (excO e' C none)) d (.xd [("part", .int n)])) e' (excO e' C (some d))) e' = upd H1 d (.xd [("part", .int n)]):=by
      funext b
      unfold untr upd
      by_cases z:b = e'
      ·subst z; simp only [if_true]; rw [if_neg (Ne.symm hd2),fr]
      ·simp only [z,if_false]
     rw [eU]
     exact q d hd1
   | next => exact False.elim hq'
   | brk => exact False.elim hq'
   | cont => exact False.elim hq'⟩
section
variable {P:Program} {w:World} {K:PySem.W.Frag} {mg:Str→Option Value} {base:Heap}
def bkX (n:Nat) (mg:Str→Option Value) (E:XK):St→Hp→Prop:=fun τ H' => ∃ nm p σ',τ = some (.str nm) :: some (pV p) :: σ'∧σ'.length = n∧∀ C d,mg nm = some C→PartIs d H' p→E C d H'
theorem bkX.ex {n:Nat} {E:XK} {Q:VK} {nx:St→Hp→Prop} {σ:St} {C:Value} {H':Hp} {d:Option Addr} (h:EX mg { nx:=nx,rt:=Q,bk:=bkX n mg E } σ C d H'):E C d H':=by
 obtain ⟨nm,p,hm,hp,nm',p',σ',e,_,k⟩:=h
 simp only [List.cons.injEq,Option.some.injEq,V.str.injEq] at e
 exact k C d (e.1 ▸ hm) (pV_inj e.2.1 ▸ hp)
theorem Fun.okX {x qual:Str} {st:Stmt} {f:Addr} {fd:FuncData} {N ps:List Str} {k:Nat} {sp:Sp} (F:Fun K x qual st f fd) (S:FnScope N ps (qc st)) (len:∀ vs H Q E,sp vs H Q E→vs.length = ps.length)
  (hbody:∀ (cdv:Value) (A:Around) (outer:List Env) (s:Shared) (H:Hp) (vs:List V) (Q:VK) (E:XK),Room k (A.deeper (envOfC qual (qc st) s.heap.objs.size f cdv))→sp vs H Q E →
   ∃ t,QXs True (cxOf (CXe P w) P w K mg base N qual (qc st) f cdv A outer s H E) (qg st) t∧t { nx:=fun _ H' => Q .non H',rt:=Q,bk:=bkX N.length mg E } (start N vs) H):FnOk P w K mg base (CXe P w) (k + 1) f fd ps sp:=by
 obtain ⟨oc,od,kV,doc,pm,an,cdv,ct,osl,rfl,lk,hcd⟩:=F.ex
 refine fn_of lk hcd S len fun A outer s H vs Q E hr hsp => ?_
 obtain ⟨t,h,q⟩:=hbody cdv A outer s H vs Q E hr hsp
 refine ⟨fun D σ H1 => D = { nx:=fun _ H' => Q .non H',rt:=Q }∧t { nx:=fun _ H' => Q .non H',rt:=Q,bk:=bkX N.length mg E } σ H1,fun pins s1 σ H1 D I hd => ?_,rfl,q⟩
 obtain ⟨rfl,hd⟩:=hd
 have Y:Body (cxOf (CXe P w) P w K mg base N qual (qc st) f cdv A outer s H E) outer:=⟨rfl,rfl,rfl,rfl⟩
 refine wpAny_mono (h.h pins s1 σ H1 _ ⟨fun σ pins H s e s' I hx => ?_,fun _ pins σ H s e C d I hm h0 hx => ?_⟩ I hd) (fun fl s' z => ?_) fun _ _ z => z
 ·exact JB Y I I.ok.frames (hx.mono fun C d H' z => bkX.ex z)
 ·exact VR Y I I.ok.frames hm h0 (bkX.ex hx)
 ·cases fl with
  | next => exact z
  | ret u => exact z
  | cont => exact z
  | brk =>
   obtain ⟨σ',H',I',nm,p,σ'',e,hl,_⟩:=z
   have:=I'.len
   rw [e,List.length_cons,List.length_cons,hl] at this
   exact absurd this (by show N.length + 1 + 1≠N.length; omega)
end
section
variable {P:Program} {w:World} {outer:List Env} {H H':Hp} {s s':Shared} {a:Addr} {C:Value} {d:Option Addr}
theorem Fli.un (F:Fli P w outer H s a C d H' s'):Un (frs outer) [] H H' s.heap s'.heap∧HOk P w H' s'.heap:=by
 obtain ⟨B,a0,fl,hok,nb,kp,th⟩:=F.fly
 refine ⟨⟨fun b o q n hb _ => fl.1 b o (kp b o q n hb),fun b o q n hb _ => F.up b o q n hb,fun b o q n _ => F.free b o q n,fun b o q _ => ?_,F.tups,F.frzs,F.tbls⟩,hok.kept fl.1⟩
 cases hb:H b with
 | some u =>
  obtain ⟨o',e⟩:=th b o q (by rw [hb]; simp)
  exact ⟨o',fl.1 b o' e⟩
 | none =>
  by_cases hf:b ∈ frs outer
  ·obtain ⟨sl,e⟩:=F.up b o q hb hf
   exact ⟨_,e⟩
  ·exact ⟨o,fl.1 b o (kp b o q hb hf)⟩
theorem Fli.inv {X:Cx} {pins:List (Addr × Obj)} {σ:St} (I:Inv X pins σ H s) (F:Fli X.prog X.w X.stack H s a C d H' s'):Inv X pins σ H' s' :=
 I.call' F.os F.un.1 F.un.2 F.bare (ch:=[]) fun b z => absurd z (by simp)
theorem Fli.step (F:Fli P w outer H s a C d H' s'):∃ B a0,Heap.FlyingW B outer a C a0 s'.heap∧∀ h',Heap.FlyingW B outer a C a0 h'→s'.heap.UpToSlots h'→Obk s'.heap h'→Fli P w outer H s a C d H' { s' with heap:=h' }:=by
 obtain ⟨B,a0,fl,hok,nb,kp,th⟩:=F.fly
 refine ⟨B,a0,fl,fun h' fl' up kd => ⟨fun o q => by
  obtain ⟨o1,e1,_⟩:=fl.there
  exact (kd.get (d:=0) e1 q).trans (F.own o1 e1),F.os,F.bare,⟨B,a0,fl',hok,nb,kp,th⟩,fun b o q n hb => ?_,F.free,F.tups,F.frzs,F.tbls⟩⟩
 obtain ⟨sl,e⟩:=F.up b o q n hb
 obtain ⟨_,o',ho',hd⟩:=fl.2.2.1.mem (show b ∈ outer.filterMap (·.frame) from hb)
 rw [e] at ho'; cases ho'
 obtain ⟨sl2,e2⟩:=up b _ e hd
 exact ⟨sl2,e2⟩
theorem Fli.ty {M:Model} (F:Fli P w outer H s a C d H' s'):PySem.W.Looks M s'.heap (typeOf (.ref a)) C:=by
 obtain ⟨B,a0,fl,_⟩:=F.fly
 obtain ⟨ob,hob,hc⟩:=fl.there
 subst hc
 exact (PySem.W.Looks.ld hob).andThen .now
end
abbrev Cx.caught (X:Cx) (a:Addr):Cx:={ X with A:=X.A.mark (some (.ref a)),calm:=false,xe:=fun _ _ => False }
section
variable {X:Cx} {pins:List (Addr × Obj)} {σ:St} {H:Hp} {s:Shared} {a:Addr}
theorem Inv.caught (I:Inv X pins σ H s) (a:Addr):Inv (X.caught a) pins σ H s :=
 ⟨⟨I.ok.mod,I.ok.kind,I.ok.glob,I.ok.blt,I.ok.above,I.ok.inj,I.ok.has,I.ok.cab,(fun z => nomatch z),I.ok.frames,I.ok.stk,I.ok.exf,I.ok.bs,I.ok.bsz,I.ok.noex,I.ok.exfs,I.ok.funs,I.ok.frf⟩,I.os,I.bare,I.base,I.loc,I.cell,I.free,I.freeC,I.pin,I.hok,I.len⟩
theorem Inv.back (ok:X.Ok) (I:Inv (X.caught a) pins σ H s):Inv X pins σ H s:=⟨ok,I.os,I.bare,I.base,I.loc,I.cell,I.free,I.freeC,I.pin,I.hok,I.len⟩
abbrev Cx.tried (X:Cx) (pins:List (Addr × Obj)) (xe:Value→Shared→Prop):Cx:={ X with pn:=X.pn ++ pins,xe:=xe }
theorem Inv.tried (I:Inv X pins σ H s) (xe:Value→Shared→Prop):Inv (X.tried pins xe) [] σ H s :=
 ⟨⟨I.ok.mod,I.ok.kind,I.ok.glob,I.ok.blt,I.ok.above,I.ok.inj,I.ok.has,I.ok.cab,I.ok.hd,I.ok.frames,I.ok.stk,I.ok.exf,I.ok.bs,I.ok.bsz,I.ok.noex,I.ok.exfs,I.ok.funs,I.ok.frf⟩,I.os,I.bare,I.base,I.loc,I.cell,I.free,I.freeC,fun p hp => I.pin p (by simpa using hp),I.hok,I.len⟩
theorem Inv.untried {pins':List (Addr × Obj)} {xe:Value→Shared→Prop} (ok:X.Ok) (I:Inv (X.tried pins xe) pins' σ H s):Inv X pins σ H s :=
 ⟨ok,I.os,I.bare,I.base,I.loc,I.cell,I.free,I.freeC,fun p hp => I.pin p (List.mem_append_left _ hp),I.hok,I.len⟩
end
structure QH (X:Cx) (hs:List ExceptHandler) (C:Value) (q:Option Int) (t:TS):Prop where
 h:∀ pins σ H1 s1 d H' s a D,Inv X pins σ H1 s1→Fli X.prog X.w X.stack H1 s1 a C d H' s→PartIs d H' q→t D σ H'→wpAny (model X.prog X.w) X.A (handleBy (.ref a) X.env hs) (SP X pins D) X.xe s
section
variable {X:Cx} {C Cx:Value} {qp:Option Int} {x:Str} {p pos:Pos} {hs:List ExceptHandler} {t:TS}
theorem Jo {nmo:Option Str} {suite:List Stmt} (hm:X.mg x = some Cx) (he:PySem.W.exmOne X.K C Cx = some false) (hr:QH X hs C qp t) (hg:Gl X x:=by rfl) (hdb:(x == ("__debug__" : Str)) = false:=by decide) :
  QH X (.ExceptHandler (some (.Name x p)) nmo suite pos :: hs) C qp t:=⟨fun pins σ H1 s1 d H' s a D I F hq h => by
 have J:=F.inv I
 refine wpAny_handleBy_cons (codeAny_handlers_test (zB (X:=X.caught a) (J.caught a) hg hm ?_ hdb)) (by intro q; cases q)
 refine PySem.W.exm_one J.kIn F.ty he _ _ _ s (fun _ _ z => z) ?_
 exact hr.h pins σ H1 s1 d H' s a D I F hq h⟩
theorem qh_hit {b0:Stmt} {suite:List Stmt} (hm:X.mg x = some Cx) (he:PySem.W.exmOne X.K C Cx = some true) (hb:∀ a,QSs (X.caught a) (b0 :: suite) t) (hg:Gl X x:=by rfl) (hdb:(x == ("__debug__" : Str)) = false:=by decide) :
  QH X (.ExceptHandler (some (.Name x p)) none (b0 :: suite) pos :: hs) C qp t:=⟨fun pins σ H1 s1 d H' s a D I F hq h => by
 have J:=F.inv I
 refine wpAny_handleBy_cons (codeAny_handlers_test (zB (X:=X.caught a) (J.caught a) hg hm ?_ hdb)) (by intro q; cases q)
 refine PySem.W.exm_one J.kIn F.ty he _ _ _ s (fun _ _ z => z) ?_
 show codeAny _ _ _ _ s
 refine codeAny_handlers_suite ?_
 obtain ⟨B,a0,fl,st⟩:=F.step
 refine wpAny_mono (DK.any (zE _ _) (lands_againW fl (Q:=fun _ s2 => (Heap.FlyingW B X.stack a C a0 s2.heap∧s.heap.UpToSlots s2.heap)∧∃ h',s2 = { s with heap:=h' }) (E:=fun _ _ => False) fun h' x1 x4 => ⟨⟨x1,x4⟩,h',rfl⟩)) (fun _ s2 z => ?_) fun _ _ q => q.1.elim
 obtain ⟨⟨⟨fl',up⟩,h',rfl⟩,kd⟩:=z
 have J2:=(st h' fl' up kd).inv I
 refine wpAny_mono ((hb a).h pins _ σ H' D (J2.caught a) h) (fun f s2 q => ?_) fun _ _ z => False.elim z
 cases f with
 | next => obtain ⟨σ',H2,I2,q⟩:=q; exact ⟨σ',H2,I2.back I.ok,q⟩
 | brk => obtain ⟨σ',H2,I2,q⟩:=q; exact ⟨σ',H2,I2.back I.ok,q⟩
 | cont => obtain ⟨σ',H2,I2,q⟩:=q; exact ⟨σ',H2,I2.back I.ok,q⟩
 | ret u => obtain ⟨v,σ',H2,I2,r,q⟩:=q; exact ⟨v,σ',H2,I2.back I.ok,r,q⟩⟩
end
def tTry (n:Nat) (tb:TS) (l:List (Str × (Option Int→TS))):TS:=fun D σ H => tb { D with bk:=fun τ H' => ∃ nm p σ' t,τ = some (.str nm) :: some (pV p) :: σ'∧σ'.length = n∧l.lookup nm = some t∧t p D σ' H' } σ H
theorem qs_try {X:Cx} {outer:List Env} {body:List Stmt} {h0:ExceptHandler} {hs:List ExceptHandler} {pos:Pos} {tb:TS} {l:List (Str × (Option Int→TS))} (Y:Body X outer) (hb:∀ pins xe,QXs False (X.tried pins xe) body tb)
  (hh:∀ nm t C,l.lookup nm = some t→X.mg nm = some C→∀ p,QH X (h0 :: hs) C p (t p)):QS X (.Try body (h0 :: hs) [] [] pos) (tTry X.N.length tb l):=⟨fun pins s σ H D I h => by
 refine wpAny_Try_except ?_
 refine wpAny_mono ((hb pins fun e s1 => wpAny (model X.prog X.w) X.A (noteFrame e X.env) (fun _ s₂ => wpAny (model X.prog X.w) X.A (setFlight e none) (fun _ s₃ => wpAny (model X.prog X.w) X.A (handleBy e X.env (h0 :: hs)) (SP X pins D) X.xe s₃) X.xe s₂) X.xe s1).h [] s σ H _ ⟨fun σ1 pins' H1 s1 e s' IY hx => ?_,fun z => z.elim⟩ (I.tried _) h) (fun f s1 q => ?_) fun _ _ z => z
 ·obtain ⟨a,C,d,H',rfl,F,nm,p,hm,hp,nm',p',σ',t,e,hl,ht,q⟩:=hx
  simp only [List.cons.injEq,Option.some.injEq,V.str.injEq] at e
  obtain ⟨rfl,ep,rfl⟩:=e
  obtain rfl:=pV_inj ep
  have I1:Inv X pins σ1 H1 s1:=IY.untried I.ok
  have F:Fli X.prog X.w X.stack H1 s1 a C d H' s':=F
  obtain ⟨B,a0,fl,st⟩:=F.step
  have hA:X.A.frames = some (X.env :: outer):=by rw [← Y.stk]; exact I.ok.frames
  rw [Y.stk] at fl
  refine wpAny_mono (DK.any (Kl _ _) (wpAny_looks_onW hA Y.fr fl (Q:=fun _ s2 => (Heap.HeldW B (X.env :: outer) a C a0 X.env.locals s2.heap∧s'.heap.UpToSlots s2.heap)∧∃ h',s2 = { s' with heap:=h' }) (E:=fun _ _ => False) fun h' x1 x4 => ⟨⟨x1,x4⟩,h',rfl⟩)) (fun _ s2 z => ?_) fun _ _ q => q.1.elim
  obtain ⟨⟨⟨held,up1⟩,h1,rfl⟩,kd1⟩:=z
  refine wpAny_mono (DK.any (zE _ _) (wpAny_landsW (s:={ s' with heap:=h1 }) held (Q:=fun _ s2 => (Heap.FlyingW B (X.env :: outer) a C a0 s2.heap∧h1.UpToSlots s2.heap)∧∃ h',s2 = { s' with heap:=h' }) (E:=fun _ _ => False) fun h' x1 x4 => ⟨⟨x1,x4⟩,h',rfl⟩)) (fun _ s2 z => ?_) fun _ _ q => q.1.elim
  obtain ⟨⟨⟨fl2,up2⟩,h2,rfl⟩,kd2⟩:=z
  exact (hh nm t C ht hm p).h pins σ1 H1 s1 d H' _ a D I1 (st h2 (by rw [Y.stk]; exact fl2) (up1.trans up2) (kd1.trans kd2)) hp q
 ·cases f with
  | next => obtain ⟨σ',H2,I2,q⟩:=q; exact wpAny_execs_nil ⟨σ',H2,I2.untried I.ok,q⟩
  | cont => obtain ⟨σ',H2,I2,q⟩:=q; exact ⟨σ',H2,I2.untried I.ok,q⟩
  | ret u => obtain ⟨v,σ',H2,I2,r,q⟩:=q; exact ⟨v,σ',H2,I2.untried I.ok,r,q⟩
  | brk =>
   obtain ⟨σ',H2,I2,nm,p,σ'',t,e,hl,_⟩:=q
   have:=I2.len
   rw [e,List.length_cons,List.length_cons,hl] at this
   exact absurd this (by show X.N.length + 1 + 1≠X.N.length; omega)⟩
section
variable {X:Cx} {pins:List (Addr × Obj)} {σ:St} {H:Hp} {s:Shared}
theorem jm {M:Model} {A:Around} {E:Value→Shared→Prop} {i:Nat} {x:Str} {pos:Pos} {Q:Unit→Shared→Prop} (I:Inv X pins σ H s) (hN:X.N.Nodup) (hi:X.N[i]? = some x) (hk:X.env.scope.names.lookup x = some .local)
  (h:∀ s',Inv X pins (σ.set i none) H s'→Q () s'):wpAny M A (do bindName X.env x .none; unbindBehindTheSuite X.env x pos) Q E s:=by
 obtain ⟨m,hn,hl⟩:=id I.loc
 have hcls:(X.env.scope.kind == .class || (X.env.scope.kind == .module && X.env.locals != X.env.globals)) = false:=by rw [I.ok.kind]; rfl
 have cne:=I.cne
 obtain ⟨oL,_,_,hoL,_⟩:=id hn
 refine wpAny_nameGoes_keeps hk hn hcls fun h' v hn' hs => h _ ⟨I.ok,I.os,I.bare,⟨fun b o e n hb hx => ?_,fun b o e n hb hx => ?_,I.base.free,fun b o e hx => ?_,I.base.tups,I.base.frzs,I.base.tbls⟩,⟨_,hn',fun j y v' e1 e2 e3 => ?_⟩,fun y c e => ?_,I.free,I.freeC,fun p hp => ?_,fun b ob e => ?_,by simpa using I.len⟩
 ·exact (hs.2 b (Nat.ne_of_lt (Nat.lt_of_lt_of_le (Heap.lt_size e) I.ok.above))).trans (I.base.keep b o e n hb hx)
 ·obtain ⟨sl,e1⟩:=I.base.slot b o e n hb hx
  exact ⟨sl,(hs.2 b (Nat.ne_of_lt (Nat.lt_of_lt_of_le (Heap.lt_size e) I.ok.above))).trans e1⟩
 ·obtain ⟨o',e1⟩:=I.base.there b o e hx
  exact ⟨o',(hs.2 b (Nat.ne_of_lt (Nat.lt_of_lt_of_le (Heap.lt_size e) I.ok.above))).trans e1⟩
 ·have hj:j≠i:=fun z => by
   subst z
   rw [List.getElem?_set] at e2
   simp only [if_true] at e2
   split at e2 <;> cases e2
  rw [List.getElem?_set_ne (Ne.symm hj)] at e2
  obtain ⟨u',r',q⟩:=hl j y v' e1 e2 e3
  refine ⟨u',r', ?_⟩
  rcases q with ⟨k,e⟩ | ⟨k,c,e,z⟩
  ·refine .inl ⟨k, ?_⟩
   have:y≠x:=fun e => hj (Qp hN e1 (e ▸ hi))
   simp [this,e]
  ·exact .inr ⟨k,c,e,z.sameBut hs (cne y c e)⟩
 ·obtain ⟨w',z⟩:=I.cell y c e
  exact ⟨w',z.sameBut hs (cne y c e)⟩
 ·obtain ⟨e,n,ne,nf,d⟩:=I.pin p hp
  exact ⟨(hs.2 p.1 ne).trans e,n,ne,nf,d⟩
 ·refine (I.hok b ob e).stay (fun c w' hc q => (hs.2 c ?_).trans q) (fun _ q => q) fun _ _ q => q
  rintro rfl
  have hfree:=I.free
  rcases hc with rfl | hc
  ·rw [hfree] at e; cases e
  ·rw [hfree] at hc; cases hc
theorem Fli.new {H1 H':Hp} {s1 s':Shared} {a:Addr} {C:Value} {d:Option Addr} (F:Fli X.prog X.w X.stack H1 s1 a C d H' s'):s1.heap.get? a = none∧H' a = none∧∃ oe vs,s'.heap.get? a = some oe∧oe.cls = C∧oe.dict = d∧oe.data = .fields vs:=by
 obtain ⟨B,a0,fl,hok,nb,kp,th⟩:=F.fly
 obtain ⟨oe,vs,T,oT,ts,he,hc,hd,_⟩:=fl.2.2.2
 refine ⟨?_, ?_,oe,vs,he,hc.1,F.own oe he,hd⟩
 ·cases z:s1.heap.get? a with
  | none => rfl
  | some o =>
   exfalso
   have hn:=fl.2.1
   by_cases hH:H1 a = none
   ·by_cases hf:a ∈ frs X.stack
    ·obtain ⟨_,o',ho',hd'⟩:=fl.2.2.1.mem (show a ∈ X.stack.filterMap (·.frame) from hf)
     rw [he] at ho'; cases ho'
     exact hd' vs hd
    ·rw [kp a o z hH hf] at hn; cases hn
   ·obtain ⟨o',q⟩:=th a o z hH
    rw [q] at hn; cases hn
 ·cases z:H' a with
  | none => rfl
  | some u =>
   obtain ⟨o,q⟩:=(hok a u z).here
   rw [fl.2.1] at q; cases q
theorem Fli.pinned {outer:List Env} {H1 H':Hp} {s1 s':Shared} {a:Addr} {C:Value} {d:Option Addr} {oe:Obj} {vs:Array Value} (Y:Body X outer) (I:Inv X pins σ H1 s1) (F:Fli X.prog X.w X.stack H1 s1 a C d H' s') (he:s'.heap.get? a = some oe) (hd:oe.data = .fields vs):Inv X (pins ++ [(a,oe)]) σ H' s':=by
 have J:=F.inv I
 obtain ⟨n1,n2,_⟩:=F.new
 refine J.pins_of fun p hp => ?_
 rcases List.mem_append.mp hp with hp | hp
 ·exact J.pin p (List.mem_append_right _ hp)
 ·obtain rfl:=List.mem_singleton.mp hp
  refine ⟨he,n2,fun z => ?_,fun z => ?_,fun v z => ?_⟩
  ·obtain ⟨m,⟨o,_,_,ho,_⟩,_⟩:=I.loc
   have z:a = X.env.locals:=z
   rw [← z,n1] at ho; cases ho
  ·obtain ⟨_,o',ho',_⟩:=I.ok.funs.mem (show a ∈ X.outer.filterMap (·.frame) from z)
   obtain ⟨o2,q⟩:=I.base.there a o' ho' (by rw [Y.ex]; simp)
   rw [n1] at q; cases q
  ·have z:oe.data = .cell v:=z
   rw [hd] at z; cases z
end
section
variable {X:Cx} {outer:List Env} {C:Addr} {Cx:Value} {x e w v:Str} {c:Str} {p pos:Pos} {hs:List ExceptHandler} {i j k:Nat}
def tAs (i j k:Nat) (c:Str) (q:Option Int):TS:=fun D σ H => ∃ n,q = some n∧D.nx (((σ.set j (some (.str c))).set k (some (.int n))).set i none) H
theorem qh_as {kc:_} {p1 p2 p3 p4 p5 p6 p7:Pos} {g:Addr} {q:Option Int} (Y:Body X outer) (ck:ExcK X.K C g) (na:NoAttr X.K C "part") (hm:X.mg x = some Cx) (he:PySem.W.exmOne X.K (.ref C) Cx = some true) (hN:X.N.Nodup) (hi:X.N[i]? = some e) (hj:X.N[j]? = some w) (hk:X.N[k]? = some v) (hij:i≠j) (hik:i≠k) (hie:X.env.scope.names.lookup e = some .local)
  (hiw:X.env.scope.names.lookup w = some .local) (hiv:X.env.scope.names.lookup v = some .local) (hg:Gl X x:=by rfl) (hdb:(x == ("__debug__" : Str)) = false:=by decide) (hde:(e == ("__debug__" : Str)) = false:=by decide) (hce:(e == ("__classdict__" : Str)) = false:=by decide)
  (hs1:swapsWith (.Constant (.str c) kc p2) (some (.Name w p1)) p3.line X.env = pure false:=by rfl) (hs2:swapsWith (.Attribute (.Name e p5) "part" p6) (some (.Name v p4)) p7.line X.env = pure false:=by rfl)
  (hab:attributeBase (.Name e p5) "part" X.env (eval (.Name e p5) X.env) = eval (.Name e p5) X.env:=by rfl) :
  QH X (.ExceptHandler (some (.Name x p)) (some e) [.Assign [.Name w p1] (.Constant (.str c) kc p2) p3, .Assign [.Name v p4] (.Attribute (.Name e p5) "part" p6) p7] pos :: hs) (.ref C) q (tAs i j k c q):=⟨fun pins σ H1 s1 d H' s a D I F hq h => by
 obtain ⟨n,rfl,h⟩:=h
 obtain ⟨x0,rfl,hx0⟩:=hq
 have J:=F.inv I
 refine wpAny_handleBy_cons (codeAny_handlers_test (zB (X:=X.caught a) (J.caught a) hg hm ?_ hdb)) (by intro q; cases q)
 refine PySem.W.exm_one J.kIn F.ty he _ _ _ s (fun _ _ z => z) ?_
 show codeAny _ _ _ _ s
 refine codeAny_handlers_suite_as ?_
 obtain ⟨B,a0,fl,st⟩:=F.step
 refine wpAny_mono (DK.any (zE _ _) (lands_againW fl (Q:=fun _ s2 => (Heap.FlyingW B X.stack a (.ref C) a0 s2.heap∧s.heap.UpToSlots s2.heap)∧∃ h',s2 = { s with heap:=h' }) (E:=fun _ _ => False) fun h' x1 x4 => ⟨⟨x1,x4⟩,h',rfl⟩)) (fun _ s2 z => ?_) fun _ _ q => q.1.elim
 obtain ⟨⟨⟨fl',up⟩,h',rfl⟩,kd⟩:=z
 have F2:=st h' fl' up kd
 obtain ⟨n1,n2,oe,vs,hoe,hcl,hdi,hda⟩:=F2.new
 have J2:=F2.pinned Y I hoe hda
 refine wpAny_mono (E:=fun _ _ => False) (zL J2 hN hi (.inl hie) (v:=.ref a) (u:=.ref a) rfl (Q:=fun _ s3 => Inv X (pins ++ [(a,oe)]) (σ.set i (some (.ref a))) H' s3) (fun s3 I3 => I3) (.inr hie)) (fun _ s3 I3 => ?_) fun _ _ z => z.elim
 refine wpAny_mono (E:=fun _ _ => False) (Q:=fun f s4 => f = .next∧Inv X (pins ++ [(a,oe)]) (((σ.set i (some (.ref a))).set j (some (.str c))).set k (some (.int n))) H' s4) ?_ (fun f s4 z => ?_) fun _ _ z => z.elim
 ·refine wpAny_execs_cons (wpAny_Assign_Name (Calls.Constant_str ?_) hs1)
  refine zL (I3.tok _) hN hj (.inl hiw) (v:=.str c) ⟨_,rfl⟩ (fun s4 I4 => ?_) (.inr hiw)
  refine wpAny_execs_cons (wpAny_Assign_Name (kE hab ?_) hs2)
  have I5:=I4.caught a
  refine wpAny_mono (pe_var (X:=X.caught a) hi (.inl hie) hde hce _ s4 _ H' (fun v H2 => v = .ref a∧H2 = H') I5 ?_) (fun u s5 q => ?_) fun _ _ z => z.elim
  ·have li:i < σ.length:=by rw [J.len]; exact (List.getElem?_eq_some_iff.mp hi).1
   exact ⟨.ref a,by rw [List.getElem?_set_ne (Ne.symm hij),List.getElem?_set_self li],rfl,rfl⟩
  obtain ⟨v5,H5,I6,r5,e5,e6⟩:=q
  subst e5 e6
  obtain rfl:u = Value.ref a:=r5
  have I7:Inv X (pins ++ [(a,oe)]) ((σ.set i (some (.ref a))).set j (some (.str c))) H5 s5:=I6.back I.ok
  obtain ⟨mA,hns,hrel⟩:=I7.hok x0 _ hx0
  obtain ⟨od,hod,hlk⟩:=xu hns
  have hpin:=(I7.pin (a,oe) (by simp)).1
  have hv:∃ t,mA "part" = some (.int n t):=by
   have:=hrel "part"
   obtain ⟨u,hu,t,rfl⟩:=RelO.some_of (v:=.int n) (o:=mA "part") (by simpa using this)
   exact ⟨t,hu⟩
  obtain ⟨tn,hv⟩:=hv
  refine PySem.W.getX_value (v:=.int n tn) (C:=C) (od:=some od) I7.kIn ⟨hpin,hcl,by unfold PySem.W.notCls; rw [hda],by rw [hdi]; exact hod⟩ ck.ga ck.gt ck.mr ?_ rfl ?_
  ·exact PySem.W.findObj_own ck.hd na rfl (by rw [hlk,hv])
  ·refine zL (I7.tok _) hN hk (.inl hiv) (v:=.int n) ⟨_,rfl⟩ (fun s6 I8 => ?_) (.inr hiv)
   exact wpAny_execs_nil ⟨rfl,I8⟩
 ·obtain ⟨rfl,I8⟩:=z
  show wpAny _ _ _ _ _ _
  refine jm I8 hN hi hie fun s9 I9 => ?_
  have I10:Inv X pins _ H' s9:=⟨I9.ok,I9.os,I9.bare,I9.base,I9.loc,I9.cell,I9.free,I9.freeC,fun p hp => I9.pin p (by
   rcases List.mem_append.mp hp with z | z
   ·exact List.mem_append_left _ z
   ·exact List.mem_append_right _ (List.mem_append_left _ z)),I9.hok,I9.len⟩
  refine ⟨_,H',I10, ?_⟩
  have e:(((σ.set i (some (V.ref a))).set j (some (.str c))).set k (some (.int n))).set i none = ((σ.set j (some (.str c))).set k (some (.int n))).set i none:=by
   rw [List.set_comm _ _ hij,List.set_comm _ _ hik,List.set_set]
  rw [e]
  exact h⟩
end
end L2
namespace PySem
theorem Paired.of_get {α β:Type} {F:α→β→Prop}:∀ {l:List α} {m:List β},l.length = m.length→(∀ (i:Nat) x y,l[i]? = some x→m[i]? = some y→F x y)→Paired F l m
 | [], [],_,_ => .nil
 | [],_ :: _,h,_ => by simp at h
 | _ :: _, [],h,_ => by simp at h
 | x :: l,y :: m,h,r => .cons (r 0 x y rfl rfl) (Paired.of_get (by simpa using h) fun i a b ha hb => r (i + 1) a b (by simpa using ha) (by simpa using hb))
theorem Paired.len {α β:Type} {F:α→β→Prop}:∀ {l:List α} {m:List β},Paired F l m→l.length = m.length
 | _,_, .nil => rfl
 | _,_, .cons _ t => by rw [List.length_cons,List.length_cons,Paired.len t]
theorem Paired.get2 {α β:Type} {F:α→β→Prop}:∀ {l:List α} {m:List β} {i:Nat} {x:α} {y:β},Paired F l m→l[i]? = some x→m[i]? = some y→F x y
 | _,_,_,_,_, .nil,h,_ => by simp at h
 | _,_,0,_,_, .cons r _,h,k => by simp at h k; subst h k; exact r
 | _,_,i + 1,_,_, .cons _ t,h,k => Paired.get2 (i:=i) t (by simpa using h) (by simpa using k)
theorem Paired.getR {α β:Type} {F:α→β→Prop} {l:List α} {m:List β} {i:Nat} {y:β} (h:Paired F l m) (e:m[i]? = some y):∃ x,l[i]? = some x∧F x y:=by
 have hl:=h.len
 have hi:=(List.getElem?_eq_some_iff.mp e).1
 have hx:l[i]? = some (l[i]'(by omega)):=List.getElem?_eq_getElem (by omega)
 exact ⟨_,hx,h.get2 hx e⟩
theorem Paired.getL {α β:Type} {F:α→β→Prop} {l:List α} {m:List β} {i:Nat} {x:α} (h:Paired F l m) (e:l[i]? = some x):∃ y,m[i]? = some y∧F x y:=by
 have hl:=h.len
 have hi:=(List.getElem?_eq_some_iff.mp e).1
 have hx:m[i]? = some (m[i]'(by omega)):=List.getElem?_eq_getElem (by omega)
 exact ⟨_,hx,h.get2 e hx⟩
theorem Paired.app {α β:Type} {F:α→β→Prop}:∀ {l l':List α} {m m':List β},Paired F l m→Paired F l' m'→Paired F (l ++ l') (m ++ m')
 | _,_,_,_, .nil,h => h
 | _,_,_,_, .cons r t,h => .cons r (Paired.app t h)
theorem Paired.put {α β:Type} {F:α→β→Prop} {x:α} {y:β} (r:F x y):∀ {l:List α} {m:List β} (i:Nat),Paired F l m→Paired F (l.set i x) (m.set i y)
 | _,_,_, .nil => .nil
 | _,_,0, .cons _ t => .cons r t
 | _,_,i + 1, .cons q t => .cons q (Paired.put r i t)
theorem Paired.tk {α β:Type} {F:α→β→Prop}:∀ {l:List α} {m:List β} (n:Nat),Paired F l m→Paired F (l.take n) (m.take n)
 | _,_,0,_ => .nil
 | _,_,_ + 1, .nil => .nil
 | _,_,n + 1, .cons r t => .cons r (Paired.tk n t)
theorem Paired.dr {α β:Type} {F:α→β→Prop}:∀ {l:List α} {m:List β} (n:Nat),Paired F l m→Paired F (l.drop n) (m.drop n)
 | _,_,0,r => r
 | _,_,_ + 1, .nil => .nil
 | _,_,n + 1, .cons _ t => Paired.dr n t
theorem Paired.mapR {α β γ:Type} {F:α→β→Prop} {G:α→γ→Prop} {f:β→γ} (h:∀ a b,F a b→G a (f b)):∀ {l:List α} {m:List β},Paired F l m→Paired G l (m.map f)
 | _,_, .nil => .nil
 | _,_, .cons r t => .cons (h _ _ r) (Paired.mapR h t)
theorem Paired.unmapR {α β γ:Type} {F:α→β→Prop} {G:α→γ→Prop} {f:β→γ} (h:∀ a b,G a (f b)→F a b):∀ {m:List β} {l:List α},Paired G l (m.map f)→Paired F l m
 | [],_, .nil => .nil
 | _ :: m,_, .cons r t => .cons (h _ _ r) (Paired.unmapR h (m:=m) t)
end PySem
namespace L2
open PySem PySem.Spec PyProof.Rows
inductive T where
 | non | bl (b:Bool) | int (i:Int) | str (x:Str) | tup (xs:List T) | lst (xs:List T)
inductive U where
 | p (t:T) | m (k:Nat) | x (a:Addr) (d:Option Addr) (q:Option Int)
inductive MO where
 | lst (us:List U) | tup (us:List U) | ins (C:Addr) (fs:List (Str × U)) | dK (kvs:List (Key × U))
abbrev MM:=List MO
abbrev UEnv:=List (Option U)
inductive RepT (A:Addr→Prop) (H:Hp):V→T→Prop
 | non:RepT A H .non .non
 | bl (b:Bool):RepT A H (.bl b) (.bl b)
 | int (i:Int):RepT A H (.int i) (.int i)
 | str (x:Str):RepT A H (.str x) (.str x)
 | tup {p:Addr} {vs:List V} {ts:List T} (na:¬ A p) (e:H p = some (.tup vs)) (l:vs.length = ts.length) (r:∀ (i:Nat) v t,vs[i]? = some v→ts[i]? = some t→RepT A H v t):RepT A H (.ref p) (.tup ts)
 | lst {p:Addr} {vs:List V} {ts:List T} (na:¬ A p) (e:H p = some (.lst vs)) (l:vs.length = ts.length) (r:∀ (i:Nat) v t,vs[i]? = some v→ts[i]? = some t→RepT A H v t):RepT A H (.ref p) (.lst ts)
section
variable {A A':Addr→Prop} {H H':Hp} {v:V} {t:T} {ι ι':List Addr} {M:MM} {u:U} {σ:St} {ρ:UEnv}
abbrev RepTs (A:Addr→Prop) (H:Hp):List V→List T→Prop:=Paired (RepT A H)
theorem RepT.tupP {p:Addr} {vs:List V} {ts:List T} (na:¬ A p) (e:H p = some (.tup vs)) (r:RepTs A H vs ts):RepT A H (.ref p) (.tup ts):=.tup na e r.len fun i v t h k => r.get2 h k
theorem RepT.lstP {p:Addr} {vs:List V} {ts:List T} (na:¬ A p) (e:H p = some (.lst vs)) (r:RepTs A H vs ts):RepT A H (.ref p) (.lst ts):=.lst na e r.len fun i v t h k => r.get2 h k
theorem RepT.mono (h:∀ x o,¬ A x→H x = some o→H' x = some o∧¬ A' x) (r:RepT A H v t):RepT A' H' v t:=by
 induction r with
 | non => exact .non
 | bl b => exact .bl b
 | int i => exact .int i
 | str x => exact .str x
 | tup na e l r ih => exact .tup (h _ _ na e).2 (h _ _ na e).1 l ih
 | lst na e l r ih => exact .lst (h _ _ na e).2 (h _ _ na e).1 l ih
theorem RepT.tup_inv {ts:List T} (r:RepT A H v (.tup ts)):∃ p vs,v = .ref p∧¬ A p∧H p = some (.tup vs)∧RepTs A H vs ts:=by
 cases r with
 | tup na e l r => exact ⟨_,_,rfl,na,e,Paired.of_get l r⟩
theorem RepT.lst_inv {ts:List T} (r:RepT A H v (.lst ts)):∃ p vs,v = .ref p∧¬ A p∧H p = some (.lst vs)∧RepTs A H vs ts:=by
 cases r with
 | lst na e l r => exact ⟨_,_,rfl,na,e,Paired.of_get l r⟩
def Av (A:Addr→Prop) (ι:List Addr):Addr→Prop:=fun x => A x∨x ∈ ι
def PartX (ι:List Addr) (H:Hp) (d:Option Addr):Option Int→Prop
 | none => d = none
 | some n => ∃ x0,d = some x0∧x0 ∉ ι∧H x0 = some (.xd [("part", .int n)])
inductive RepU (A:Addr→Prop) (ι:List Addr) (H:Hp):V→U→Prop
 | p {v:V} {t:T} (r:RepT (Av A ι) H v t):RepU A ι H v (.p t)
 | m {k:Nat} {a:Addr} (e:ι[k]? = some a):RepU A ι H (.ref a) (.m k)
 | x {a:Addr} {d:Option Addr} {q:Option Int} (h:PartX ι H d q):RepU A ι H (.ref a) (.x a d q)
abbrev RepUs (A:Addr→Prop) (ι:List Addr) (H:Hp):List V→List U→Prop:=Paired (RepU A ι H)
def ObjR (A:Addr→Prop) (ι:List Addr) (H:Hp) (a:Addr):MO→Prop
 | .lst us => ∃ vs,H a = some (.lst vs)∧RepUs A ι H vs us
 | .tup us => ∃ vs,H a = some (.tup vs)∧RepUs A ι H vs us
 | .ins C fs => ∃ dx gs,H a = some (.ins C dx gs)∧H dx = some (.own a)∧dx ∉ ι∧Paired (fun (g:Str × V) (f:Str × U) => g.1 = f.1∧RepU A ι H g.2 f.2) gs fs
 | .dK kvs => ∃ gs,H a = some (.dK gs)∧Paired (fun (g:Key × V) (f:Key × U) => g.1 = f.1∧RepU A ι H g.2 f.2) gs kvs
structure Wd (A:Addr→Prop) (ι:List Addr) (H:Hp) (M:MM):Prop where
 nd:ι.Nodup
 len:ι.length = M.length
 dom:∀ x,A x→H x≠none
 na:∀ x ∈ ι,¬ A x
 obj:∀ (k:Nat) a o,ι[k]? = some a→M[k]? = some o→ObjR A ι H a o
structure Le (ι:List Addr) (H:Hp) (ι':List Addr) (H':Hp):Prop where
 ext:∃ n,ι' = ι ++ n∧∀ x ∈ n,H x = none
 fr:∀ x o,H x = some o→x ∉ ι→H' x = some o
 al:∀ x,H x≠none→H' x≠none
theorem Le.refl (ι:List Addr) (H:Hp):Le ι H ι H:=⟨⟨[],by simp,by simp⟩,fun _ _ h _ => h,fun _ h => h⟩
theorem Le.trans {ι2:List Addr} {H2:Hp} (a:Le ι H ι' H') (b:Le ι' H' ι2 H2):Le ι H ι2 H2:=by
 obtain ⟨n,rfl,hn⟩:=a.ext
 obtain ⟨m,rfl,hm⟩:=b.ext
 have key:∀ x,H x≠none→x ∉ ι→x ∉ ι ++ n:=fun x hx h z => by
  rcases List.mem_append.mp z with z | z
  ·exact h z
  ·exact hx (hn x z)
 refine ⟨⟨n ++ m,by rw [List.append_assoc],fun x hx => ?_⟩,fun x o e h => b.fr x o (a.fr x o e h) (key x (by rw [e]; simp) h),fun x h => b.al x (a.al x h)⟩
 rcases List.mem_append.mp hx with z | z
 ·exact hn x z
 ·cases q:H x with
  | none => rfl
  | some o => exact absurd (hm x z) (a.al x (by rw [q]; simp))
theorem Le.av (l:Le ι H ι' H') {x:Addr} {o:HO} (h:¬ Av A ι x) (e:H x = some o):H' x = some o∧¬ Av A ι' x:=by
 obtain ⟨n,rfl,hn⟩:=l.ext
 refine ⟨l.fr x o e fun z => h (.inr z),fun z => ?_⟩
 rcases z with z | z
 ·exact h (.inl z)
 ·rcases List.mem_append.mp z with z | z
  ·exact h (.inr z)
  ·rw [hn x z] at e; cases e
theorem RepT.le (l:Le ι H ι' H') (r:RepT (Av A ι) H v t):RepT (Av A ι') H' v t:=r.mono fun _ _ h e => l.av h e
theorem PartX.le {d:Option Addr} {q:Option Int} (l:Le ι H ι' H') (h:PartX ι H d q):PartX ι' H' d q:=by
 cases q with
 | none => exact h
 | some n =>
  obtain ⟨x0,e,ni,hx⟩:=h
  obtain ⟨m,rfl,hm⟩:=l.ext
  refine ⟨x0,e,fun z => ?_,l.fr x0 _ hx ni⟩
  rcases List.mem_append.mp z with z | z
  ·exact ni z
  ·rw [hm x0 z] at hx; cases hx
theorem RepU.le (l:Le ι H ι' H') (r:RepU A ι H v u):RepU A ι' H' v u:=by
 cases r with
 | p r => exact .p (r.le l)
 | m e =>
  obtain ⟨n,rfl,_⟩:=l.ext
  exact .m (by rw [List.getElem?_append_left (List.getElem?_eq_some_iff.mp e).1]; exact e)
 | x h => exact .x (h.le l)
theorem RepUs.le {vs:List V} {us:List U} (l:Le ι H ι' H') (r:RepUs A ι H vs us):RepUs A ι' H' vs us:=Paired.mapP r fun _ _ q => q.le l
theorem ObjR.some {a:Addr} {o:MO} (r:ObjR A ι H a o):∃ h,H a = some h:=by
 cases o with
 | lst => obtain ⟨vs,e,_⟩:=r; exact ⟨_,e⟩
 | tup => obtain ⟨vs,e,_⟩:=r; exact ⟨_,e⟩
 | ins => obtain ⟨_,_,e,_⟩:=r; exact ⟨_,e⟩
 | dK => obtain ⟨_,e,_⟩:=r; exact ⟨_,e⟩
theorem ObjR.le' {a:Addr} {o:MO} (l:Le ι H ι' H') (ea:H' a = H a) (eo:∀ x,H x = Option.some (.own a)→H' x = H x) (r:ObjR A ι H a o):ObjR A ι' H' a o:=by
 cases o with
 | lst => obtain ⟨vs,e,r⟩:=r; exact ⟨vs,by rw [ea]; exact e,Paired.mapP r fun _ _ q => q.le l⟩
 | tup => obtain ⟨vs,e,r⟩:=r; exact ⟨vs,by rw [ea]; exact e,Paired.mapP r fun _ _ q => q.le l⟩
 | ins =>
  obtain ⟨dx,gs,e,ed,nd,r⟩:=r
  obtain ⟨n,rfl,hn⟩:=l.ext
  refine ⟨dx,gs,by rw [ea]; exact e,by rw [eo dx ed]; exact ed,fun z => ?_,Paired.mapP r fun _ _ q => ⟨q.1,q.2.le l⟩⟩
  rcases List.mem_append.mp z with z | z
  ·exact nd z
  ·rw [hn dx z] at ed; cases ed
 | dK => obtain ⟨gs,e,r⟩:=r; exact ⟨gs,by rw [ea]; exact e,Paired.mapP r fun _ _ q => ⟨q.1,q.2.le l⟩⟩
theorem Wd.al (w:Wd A ι H M) {k:Nat} {a:Addr} (e:ι[k]? = some a):∃ o,M[k]? = some o∧ObjR A ι H a o:=by
 have h:=(List.getElem?_eq_some_iff.mp e).1
 have e2:M[k]? = some (M[k]'(by rw [← w.len]; exact h)):=List.getElem?_eq_getElem _
 exact ⟨_,e2,w.obj k a _ e e2⟩
theorem Wd.at (w:Wd A ι H M) {k:Nat} {o:MO} (e:M[k]? = some o):∃ a,ι[k]? = some a∧ObjR A ι H a o:=by
 have h:=(List.getElem?_eq_some_iff.mp e).1
 have e2:ι[k]? = some (ι[k]'(by rw [w.len]; exact h)):=List.getElem?_eq_getElem _
 exact ⟨_,e2,w.obj k _ _ e2 e⟩
theorem Wd.mem_some (w:Wd A ι H M) {a:Addr} (h:a ∈ ι):∃ o,H a = some o:=by
 obtain ⟨k,e⟩:=List.getElem?_of_mem h
 obtain ⟨o,_,r⟩:=w.al e
 exact r.some
theorem Wd.not_own (w:Wd A ι H M) {a x:Addr} (h:a ∈ ι):H a≠some (.own x):=fun z => by
 obtain ⟨k,e⟩:=List.getElem?_of_mem h
 obtain ⟨o,_,r⟩:=w.al e
 cases o with
 | lst => obtain ⟨vs,e,_⟩:=r; rw [z] at e; cases e
 | tup => obtain ⟨vs,e,_⟩:=r; rw [z] at e; cases e
 | ins => obtain ⟨_,_,e,_⟩:=r; rw [z] at e; cases e
 | dK => obtain ⟨_,e,_⟩:=r; rw [z] at e; cases e
theorem Le.fresh {p:Addr} {o:HO} (h:H p = none):Le ι H ι (upd H p o):=⟨⟨[],by simp,by simp⟩,fun x o' e _ => xo h e,fun x e => by
 by_cases z:x = p
 ·subst z; rw [upd_same]; simp
 ·rw [upd_ne z]; exact e⟩
theorem Le.push {p:Addr} {o:HO} (h:H p = none):Le ι H (ι ++ [p]) (upd H p o):=⟨⟨[p],rfl,fun x hx => by rw [List.mem_singleton.mp hx]; exact h⟩,(Le.fresh (ι:=ι) h).fr,(Le.fresh (ι:=ι) h).al⟩
theorem Le.put {p:Addr} {o:HO} (h:p ∈ ι):Le ι H ι (upd H p o):=⟨⟨[],by simp,by simp⟩,fun x o' e n => by rw [upd_ne (fun z => n (by rw [z]; exact h))]; exact e,fun x e => by
 by_cases z:x = p
 ·subst z; rw [upd_same]; simp
 ·rw [upd_ne z]; exact e⟩
theorem Wd.fresh (w:Wd A ι H M) {p:Addr} {o:HO} (h:H p = none):Wd A ι (upd H p o) M :=
 ⟨w.nd,w.len,fun x hx => (Le.fresh (ι:=ι) h).al x (w.dom x hx),w.na,fun k a ob e1 e2 => (w.obj k a ob e1 e2).le' (.fresh h) (upd_ne fun z => by
  obtain ⟨q,hq⟩:=w.mem_some (List.mem_of_getElem? e1)
  rw [z,h] at hq; cases hq) fun x ex => upd_ne fun z => by rw [z,h] at ex; cases ex⟩
theorem Wd.nin (w:Wd A ι H M) {p:Addr} (h:H p = none):p ∉ ι:=fun z => by
 obtain ⟨q,hq⟩:=w.mem_some z
 rw [h] at hq; cases hq
theorem Wd.nA (w:Wd A ι H M) {p:Addr} (h:H p = none):¬ Av A ι p:=fun z => z.elim (fun z => w.dom p z h) (w.nin h)
theorem Wd.push (w:Wd A ι H M) {p:Addr} {o:HO} {mo:MO} (h:H p = none) (new:ObjR A (ι ++ [p]) (upd H p o) p mo):Wd A (ι ++ [p]) (upd H p o) (M ++ [mo]):=by
 have np:=w.nin h
 refine ⟨List.nodup_append.mpr ⟨w.nd,by simp,fun a ha b hb => ?_⟩,by simp [w.len],fun x hx => (Le.fresh (ι:=ι) h).al x (w.dom x hx),fun x hx => ?_,fun k a ob e1 e2 => ?_⟩
 ·rw [List.mem_singleton.mp hb]; exact fun z => np (by rw [← z]; exact ha)
 ·rcases List.mem_append.mp hx with z | z
  ·exact w.na x z
  ·rw [List.mem_singleton.mp z]; exact fun z => w.dom p z h
 ·by_cases hk:k < ι.length
  ·rw [List.getElem?_append_left hk] at e1
   rw [List.getElem?_append_left (by rw [← w.len]; exact hk)] at e2
   exact (w.obj k a ob e1 e2).le' (.push h) (upd_ne fun z => np (by rw [← z]; exact List.mem_of_getElem? e1)) fun x ex => upd_ne fun z => by rw [z,h] at ex; cases ex
  ·have hk2:=(List.getElem?_eq_some_iff.mp e1).1
   rw [List.length_append,List.length_singleton] at hk2
   have:k = ι.length:=by omega
   subst this
   rw [List.getElem?_append_right (Nat.le_refl _),Nat.sub_self] at e1
   rw [w.len,List.getElem?_append_right (Nat.le_refl _),Nat.sub_self] at e2
   simp at e1 e2
   subst e1 e2
   exact new
theorem Wd.put (w:Wd A ι H M) {k:Nat} {p:Addr} {o:HO} {mo:MO} (e:ι[k]? = some p) (new:ObjR A ι (upd H p o) p mo):Wd A ι (upd H p o) (M.set k mo):=by
 have hp:=List.mem_of_getElem? e
 refine ⟨w.nd,by rw [List.length_set]; exact w.len,fun x hx => (Le.put hp).al x (w.dom x hx),w.na,fun j a ob e1 e2 => ?_⟩
 by_cases hj:k = j
 ·subst hj
  rw [e] at e1; cases e1
  rw [List.getElem?_set_self (by rw [← w.len]; exact (List.getElem?_eq_some_iff.mp e).1)] at e2
  cases e2
  exact new
 ·rw [List.getElem?_set_ne hj] at e2
  have na:a≠p:=fun z => by
   subst z
   have h1:=List.getElem?_eq_some_iff.mp e
   have h2:=List.getElem?_eq_some_iff.mp e1
   exact hj ((List.getElem_inj w.nd).mp (h1.2.trans h2.2.symm))
  exact (w.obj j a ob e1 e2).le' (.put hp) (upd_ne na) fun x ex => upd_ne fun z => by
   rw [z] at ex; exact w.not_own hp ex
def EnvR (A:Addr→Prop) (ι:List Addr) (H:Hp):St→UEnv→Prop:=Paired fun (s:Option V) (r:Option U) => ∀ u,r = some u→∃ v,s = some v∧RepU A ι H v u
theorem EnvR.le (l:Le ι H ι' H') (r:EnvR A ι H σ ρ):EnvR A ι' H' σ ρ:=Paired.mapP r fun _ _ q u e => by
 obtain ⟨v,h1,h2⟩:=q u e
 exact ⟨v,h1,h2.le l⟩
theorem EnvR.get (r:EnvR A ι H σ ρ) {i:Nat} {u:U} (e:ρ[i]? = some (some u)):∃ v,σ[i]? = some (some v)∧RepU A ι H v u:=by
 obtain ⟨s,h1,h2⟩:=Paired.getR r e
 obtain ⟨v,rfl,h3⟩:=h2 u rfl
 exact ⟨v,h1,h3⟩
theorem EnvR.put (r:EnvR A ι H σ ρ) (i:Nat) (q:RepU A ι H v u):EnvR A ι H (σ.set i (some v)) (ρ.set i (some u)):=Paired.put (fun w e => by cases e; exact ⟨v,rfl,q⟩) i r
def maskU (bs:List Bool) (n:Nat) (ρ:UEnv):UEnv:=(bs.zip ρ).map (fun p => if p.1 then p.2 else none) ++ List.replicate n none
theorem EnvR.mask {bs:List Bool} {n:Nat} (r:EnvR A ι H σ ρ):EnvR A ι H (vA bs n σ) (maskU bs n ρ):=by
 refine Paired.app ?_ ?_
 ·induction r generalizing bs with
  | nil => simp; exact .nil
  | cons q t ih =>
   cases bs with
   | nil => exact .nil
   | cons b bs =>
    refine .cons ?_ ih
    cases b
    ·intro u e; simp at e
    ·simpa using q
 ·induction n with
  | zero => exact .nil
  | succ n ih => exact .cons (fun u e => by cases e) ih
end
abbrev UK:=U→MM→Prop
abbrev UE:=UEnv→MM→UK→Prop
abbrev UT:=UEnv→MM→(Bool→MM→Prop)→Prop
abbrev UA:=UEnv→MM→(List U→MM→Prop)→Prop
def LE (te:TE) (ue:UE):Prop:=∀ (A:Addr→Prop) (ι:List Addr) (σ:St) (H:Hp) (ρ:UEnv) (M:MM) (Qu:UK) (Q:VK),Wd A ι H M→EnvR A ι H σ ρ→ue ρ M Qu →
 (∀ u M' ι' v H',Le ι H ι' H'→Wd A ι' H' M'→RepU A ι' H' v u→Qu u M'→Q v H')→te σ H Q
def LT (tt:TT) (ut:UT):Prop:=∀ (A:Addr→Prop) (ι:List Addr) (σ:St) (H:Hp) (ρ:UEnv) (M:MM) (Qu:Bool→MM→Prop) (Q:Bool→Hp→Prop),Wd A ι H M→EnvR A ι H σ ρ→ut ρ M Qu →
 (∀ b M' ι' H',Le ι H ι' H'→Wd A ι' H' M'→Qu b M'→Q b H')→tt σ H Q
def LA (n:Nat) (ta:TA) (ua:UA):Prop:=∀ (A:Addr→Prop) (ι:List Addr) (σ:St) (H:Hp) (ρ:UEnv) (M:MM) (Qu:List U→MM→Prop) (Q:List V→Hp→Prop),Wd A ι H M→EnvR A ι H σ ρ→ua ρ M Qu →
 (∀ us M' ι' vs H',Le ι H ι' H'→Wd A ι' H' M'→us.length = n→RepUs A ι' H' vs us→Qu us M'→Q vs H')→ta σ H Q
section
variable {ta tb:TE} {ua ub:UE} {tt tt':TT} {ut ut':UT} {tl:TA} {ul:UA} {n:Nat}
def uVar (i:Nat):UE:=fun ρ M Q => ∃ u,ρ[i]? = some (some u)∧Q u M
theorem le_var (i:Nat):LE (tVar i) (uVar i):=fun A ι σ H ρ M Qu Q w e ⟨u,h,q⟩ k => by
 obtain ⟨v,h1,h2⟩:=e.get h
 exact ⟨v,h1,k u M ι v H (.refl _ _) w h2 q⟩
inductive Sc:V→T→Prop
 | non:Sc .non .non
 | bl (b:Bool):Sc (.bl b) (.bl b)
 | int (i:Int):Sc (.int i) (.int i)
 | str (x:Str):Sc (.str x) (.str x)
theorem Sc.rep {A:Addr→Prop} {H:Hp} {v:V} {t:T} (h:Sc v t):RepT A H v t:=by cases h <;> constructor
def uC (t:T):UE:=fun _ M Q => Q (.p t) M
theorem le_c {v:V} {t:T} (h:Sc v t):LE (tC v) (uC t):=fun A ι σ H ρ M Qu Q w e q k => k _ M ι v H (.refl _ _) w (.p h.rep) q
def uNil:UA:=fun _ M Q => Q [] M
def uCons (ua:UE) (ul:UA):UA:=fun ρ M Q => ua ρ M fun x M1 => ul ρ M1 fun xs M2 => Q (x :: xs) M2
theorem la_nil:LA 0 tNil uNil:=fun A ι σ H ρ M Qu Q w e q k => k [] M ι [] H (.refl _ _) w rfl .nil q
theorem la_cons (ha:LE ta ua) (hl:LA n tl ul):LA (n + 1) (vo ta tl) (uCons ua ul):=fun A ι σ H ρ M Qu Q w e q k =>
 ha A ι σ H ρ M _ _ w e q fun x M1 ι1 v H1 l1 w1 r1 q1 => hl A ι1 σ H1 ρ M1 _ _ w1 (e.le l1) q1 fun xs M2 ι2 vs H2 l2 w2 hn r2 q2 =>
  k (x :: xs) M2 ι2 (v :: vs) H2 (l1.trans l2) w2 (by rw [List.length_cons,hn]) (.cons (r1.le l2) r2) q2
def zJ:List U→Option (List T)
 | [] => some []
 | .p t :: r => (zJ r).map (t :: ·)
 | .m _ :: _ => none
 | .x _ _ _ :: _ => none
@[simp] theorem xG:∀ ts:List T,zJ (ts.map U.p) = some ts
 | [] => rfl
 | t :: r => by simp [zJ,xG r]
theorem xj:∀ {us:List U} {ts:List T},zJ us = some ts→us = ts.map U.p
 | [],_,h => by simp [zJ] at h; subst h; rfl
 | .p t :: r,ts,h => by
  simp [zJ] at h
  obtain ⟨a,h1,rfl⟩:=h
  rw [List.map_cons, ← xj h1]
 | .m _ :: _,_,h => by simp [zJ] at h
 | .x _ _ _ :: _,_,h => by simp [zJ] at h
def sn (M:MM):U→Option T
 | .p t => some t
 | .m k => match M[k]? with
  | some (.lst us) => (zJ us).map T.lst
  | some (.tup us) => (zJ us).map T.tup
  | _ => none
 | .x _ _ _ => none
def sns (M:MM):List U→Option (List T)
 | [] => some []
 | u :: r => match sn M u,sns M r with
  | some t,some ts => some (t :: ts)
  | _,_ => none
inductive RepV (A:Addr→Prop) (H:Hp):V→T→Prop
 | of {v:V} {t:T} (r:RepT A H v t):RepV A H v t
 | lst {p:Addr} {vs:List V} {ts:List T} (e:H p = some (.lst vs)) (r:RepTs A H vs ts):RepV A H (.ref p) (.lst ts)
 | tup {p:Addr} {vs:List V} {ts:List T} (e:H p = some (.tup vs)) (r:RepTs A H vs ts):RepV A H (.ref p) (.tup ts)
variable {A:Addr→Prop} {H H':Hp} {ι:List Addr} {M:MM} {v:V} {u:U} {t:T}
theorem RepV.lst_inv {ts:List T} (r:RepV A H v (.lst ts)):∃ p vs,v = .ref p∧H p = some (.lst vs)∧RepTs A H vs ts:=by
 cases r with
 | of r => obtain ⟨p,vs,h1,_,h2,h3⟩:=r.lst_inv; exact ⟨p,vs,h1,h2,h3⟩
 | lst e r => exact ⟨_,_,rfl,e,r⟩
theorem RepV.tup_inv {ts:List T} (r:RepV A H v (.tup ts)):∃ p vs,v = .ref p∧H p = some (.tup vs)∧RepTs A H vs ts:=by
 cases r with
 | of r => obtain ⟨p,vs,h1,_,h2,h3⟩:=r.tup_inv; exact ⟨p,vs,h1,h2,h3⟩
 | tup e r => exact ⟨_,_,rfl,e,r⟩
theorem RepV.int_inv {i:Int} (r:RepV A H v (.int i)):v = .int i:=by cases r with | of r => cases r; rfl
theorem RepV.bl_inv {i:Bool} (r:RepV A H v (.bl i)):v = .bl i:=by cases r with | of r => cases r; rfl
theorem RepV.str_inv {i:Str} (r:RepV A H v (.str i)):v = .str i:=by cases r with | of r => cases r; rfl
theorem RepV.non_inv (r:RepV A H v .non):v = .non:=by cases r with | of r => cases r; rfl
theorem RepUs.pures {vs:List V} {ts:List T} (r:RepUs A ι H vs (ts.map U.p)):RepTs (Av A ι) H vs ts:=Paired.unmapR (fun a b q => by cases q with | p r => exact r) r
theorem RepTs.ups {vs:List V} {ts:List T} (r:RepTs (Av A ι) H vs ts):RepUs A ι H vs (ts.map U.p):=Paired.mapR (fun a b q => .p q) r
theorem RepU.sn (w:Wd A ι H M) (r:RepU A ι H v u) (e:sn M u = some t):RepV (Av A ι) H v t:=by
 cases r with
 | p r => simp [L2.sn] at e; subst e; exact .of r
 | m q =>
  obtain ⟨o,h1,h2⟩:=w.al q
  simp only [L2.sn,h1] at e
  cases o with
  | lst us =>
   simp at e
   obtain ⟨ts,e1,rfl⟩:=e
   obtain ⟨vs,h3,h4⟩:=h2
   rw [xj e1] at h4
   exact .lst h3 h4.pures
  | tup us =>
   simp at e
   obtain ⟨ts,e1,rfl⟩:=e
   obtain ⟨vs,h3,h4⟩:=h2
   rw [xj e1] at h4
   exact .tup h3 h4.pures
  | ins => simp at e
  | dK => simp at e
 | x h => simp [L2.sn] at e
theorem RepUs.sns (w:Wd A ι H M):∀ {vs:List V} {us:List U} {ts:List T},RepUs A ι H vs us→sns M us = some ts→Paired (RepV (Av A ι) H) vs ts
 | _,_,ts, .nil,e => by simp [L2.sns] at e; subst e; exact .nil
 | _,_,ts, .cons r q,e => by
  simp only [L2.sns] at e
  split at e
  ·rename_i h1 h2
   simp at e; subst e
   exact .cons (r.sn w h1) (RepUs.sns w q h2)
  ·cases e
def OpL (r:R2) (s:T→T→(T→Prop)→Prop):Prop:=∀ (A:Addr→Prop) (ι:List Addr) (H:Hp) (M:MM) (x y:V) (a b:T) (Qs:T→Prop) (Q:VK),Wd A ι H M→RepV (Av A ι) H x a→RepV (Av A ι) H y b→s a b Qs →
 (∀ t ι' v H',Le ι H ι' H'→Wd A ι' H' M→RepT (Av A ι') H' v t→Qs t→Q v H')→r x y H Q
def uOp (s:T→T→(T→Prop)→Prop) (ua ub:UE):UE:=fun ρ M Q => ua ρ M fun x M1 => ub ρ M1 fun y M2 => ∃ a b,sn M2 x = some a∧sn M2 y = some b∧s a b fun t => Q (.p t) M2
theorem le_op {r:R2} {s:T→T→(T→Prop)→Prop} (h:OpL r s) (ha:LE ta ua) (hb:LE tb ub):LE (tOp r ta tb) (uOp s ua ub):=fun A ι σ H ρ M Qu Q w e q k =>
 ha A ι σ H ρ M _ _ w e q fun x M1 ι1 v H1 l1 w1 r1 q1 => hb A ι1 σ H1 ρ M1 _ _ w1 (e.le l1) q1 fun y M2 ι2 v2 H2 l2 w2 r2 ⟨a,b,e1,e2,q2⟩ =>
  h A ι2 H2 M2 v v2 a b _ Q w2 ((r1.le l2).sn w2 e1) (r2.sn w2 e2) q2 fun t ι3 z H3 l3 w3 r3 q3 => k _ M2 ι3 z H3 ((l1.trans l2).trans l3) w3 (.p r3) q3
def sI (C:Int→Int→Prop) (g:Int→Int→T):T→T→(T→Prop)→Prop:=fun a b Q => ∃ i j,a = .int i∧b = .int j∧C i j∧Q (g i j)
def sI0 (g:Int→Int→T):T→T→(T→Prop)→Prop:=fun a b Q => ∃ i j,a = .int i∧b = .int j∧Q (g i j)
theorem jl {C:Int→Int→Prop} {gv:Int→Int→V} {g:Int→Int→T} (hg:∀ i j,Sc (gv i j) (g i j)):OpL (rI C gv) (sI C g):=fun A ι H M x y a b Qs Q w r1 r2 ⟨i,j,ea,eb,c,q⟩ k => by
 subst ea eb
 exact ⟨i,j,r1.int_inv,r2.int_inv,c,k _ ι _ H (.refl _ _) w (hg i j).rep q⟩
theorem zq {gv:Int→Int→V} {g:Int→Int→T} (hg:∀ i j,Sc (gv i j) (g i j)):OpL (rI0 gv) (sI0 g):=fun A ι H M x y a b Qs Q w r1 r2 ⟨i,j,ea,eb,q⟩ k => by
 subst ea eb
 exact ⟨i,j,r1.int_inv,r2.int_inv,k _ ι _ H (.refl _ _) w (hg i j).rep q⟩
def vt:T→Option V
 | .non => some .non
 | .bl b => some (.bl b)
 | .int i => some (.int i)
 | .str x => some (.str x)
 | _ => none
theorem kJ {x:V} (e:vt t = some x):Sc x t:=by
 cases t <;> simp [vt] at e <;> subst e <;> constructor
theorem RepV.sc {x y:V} (r:RepV A H v t) (e:vt t = some x):v = x:=by
 cases kJ e with
 | non => exact r.non_inv
 | bl => exact r.bl_inv
 | int => exact r.int_inv
 | str => exact r.str_inv
def sEq (neg:Bool):T→T→(T→Prop)→Prop:=fun a b Q => ∃ x y,vt a = some x∧vt b = some y∧scal x y = true∧Q (.bl (if neg then !decide (x = y) else decide (x = y)))
theorem ve:OpL rEq (sEq false):=fun A ι H M x y a b Qs Q w r1 r2 ⟨x',y',e1,e2,sc,q⟩ k => by
 cases r1.sc (y:=.non) e1; cases r2.sc (y:=.non) e2
 exact ⟨sc,k _ ι _ H (.refl _ _) w (.bl _) q⟩
theorem jk:OpL rNe (sEq true):=fun A ι H M x y a b Qs Q w r1 r2 ⟨x',y',e1,e2,sc,q⟩ k => by
 cases r1.sc (y:=.non) e1; cases r2.sc (y:=.non) e2
 exact ⟨sc,k _ ι _ H (.refl _ _) w (.bl _) q⟩
def vts:List T→Option (List V)
 | [] => some []
 | t :: r => match vt t,vts r with
  | some x,some xs => some (x :: xs)
  | _,_ => none
theorem Vy:∀ {vs:List V} {ts:List T} {xs:List V},RepTs A H vs ts→vts ts = some xs→vs = xs∧xs.all j4 = true
 | _,_,xs, .nil,e => by simp [vts] at e; subst e; exact ⟨rfl,rfl⟩
 | _,_,xs, .cons r q,e => by
  simp only [vts] at e
  split at e
  ·rename_i h1 h2
   simp at e; subst e
   obtain ⟨z1,z2⟩:=Vy q h2
   subst z1
   cases (RepV.of r).sc (y:=.non) h1
   refine ⟨rfl, ?_⟩
   rw [List.all_cons,z2]
   cases kJ h1 <;> rfl
  ·cases e
def seqT:T→Option (List T)
 | .lst ts => some ts
 | .tup ts => some ts
 | _ => none
def sIn (neg:Bool):T→T→(T→Prop)→Prop:=fun a b Q => ∃ x ts ys,vt a = some x∧seqT b = some ts∧vts ts = some ys∧Q (.bl (if neg then !inV x ys else inV x ys))
theorem kh {K:PySem.W.Frag} {neg:Bool}:OpL (rIn K neg) (sIn neg):=fun A ι H M x y a b Qs Q w r1 r2 ⟨x',ts,ys,e1,e2,e3,q⟩ k => by
 cases r1.sc (y:=.non) e1
 have hf:j4 x = true:=by cases kJ e1 <;> rfl
 cases b <;> simp [seqT] at e2
 ·subst e2
  obtain ⟨p,vs,rfl,h,r⟩:=r2.tup_inv
  obtain ⟨rfl,z⟩:=Vy r e3
  exact ⟨p,vs,rfl, .inr (SqT.of h),hf,z,k _ ι _ H (.refl _ _) w (.bl _) q⟩
 ·subst e2
  obtain ⟨p,vs,rfl,h,r⟩:=r2.lst_inv
  obtain ⟨rfl,z⟩:=Vy r e3
  exact ⟨p,vs,rfl, .inl (SqL.of h),hf,z,k _ ι _ H (.refl _ _) w (.bl _) q⟩
theorem jt (w:Wd A ι H M) {p:Addr} {vs:List V} {ts:List T} (h:H p = none) (r:RepTs (Av A ι) H vs ts):RepT (Av A ι) (upd H p (.lst vs)) (.ref p) (.lst ts) :=
 .lstP (w.nA h) upd_same (Paired.mapP r fun _ _ q => q.le (.fresh h))
theorem Kh (w:Wd A ι H M) {p:Addr} {vs:List V} {ts:List T} (h:H p = none) (r:RepTs (Av A ι) H vs ts):RepT (Av A ι) (upd H p (.tup vs)) (.ref p) (.tup ts) :=
 .tupP (w.nA h) upd_same (Paired.mapP r fun _ _ q => q.le (.fresh h))
def sCat:T→T→(T→Prop)→Prop:=fun a b Q => ∃ xs ys,a = .lst xs∧b = .lst ys∧xs.length + ys.length≤sizeLine∧Q (.lst (xs ++ ys))
theorem VJ:OpL rCat sCat:=fun A ι H M x y a b Qs Q w r1 r2 ⟨xs,ys,ea,eb,hz,q⟩ k => by
 subst ea eb
 obtain ⟨p,vs,rfl,h1,q1⟩:=r1.lst_inv
 obtain ⟨p2,vs2,rfl,h2,q2⟩:=r2.lst_inv
 exact ⟨p,p2,vs,vs2,rfl,rfl,h1,h2,by rw [q1.len,q2.len]; exact hz,fun p hp => k _ ι _ _ (.fresh hp) (w.fresh hp) (jt w hp (q1.app q2)) q⟩
theorem kR {α β:Type} {F:α→β→Prop} {l:List α} {m:List β} (h:Paired F l m):∀ n:Nat,Paired F (List.replicate n l).flatten (List.replicate n m).flatten
 | 0 => .nil
 | n + 1 => by rw [List.replicate_succ,List.replicate_succ,List.flatten_cons,List.flatten_cons]; exact h.app (kR h n)
def isNon:U→Bool
 | .p .non => true
 | _ => false
def uIsN (neg:Bool) (ua:UE):UE:=fun ρ M Q => ua ρ M fun x M1 => Q (.p (.bl (if neg then !isNon x else isNon x))) M1
def uB (ua:UE):UT:=fun ρ M Q => ua ρ M fun x M1 => ∃ b,x = .p (.bl b)∧Q b M1
theorem lt_b (ha:LE ta ua):LT (tB ta) (uB ua):=fun A ι σ H ρ M Qu Q w e q k =>
 ha A ι σ H ρ M _ _ w e q fun x M1 ι1 v H1 l1 w1 r1 ⟨b,ex,q1⟩ => by
  subst ex
  cases r1 with
  | p r => cases r; exact ⟨b,rfl,k b M1 ι1 H1 l1 w1 q1⟩
theorem lt_test (ha:LE ta ua):LT (vS ta) (uB ua):=lt_b ha
def truU (M:MM):U→Option Bool
 | .p .non => some false
 | .p (.bl b) => some b
 | .p (.int i) => some (i != 0)
 | .p (.lst ts) => some (!ts.isEmpty)
 | .p (.tup ts) => some (!ts.isEmpty)
 | .m k => match M[k]? with
  | some (.lst us) => some (!us.isEmpty)
  | some (.tup us) => some (!us.isEmpty)
  | some (.dK us) => some (!us.isEmpty)
  | _ => none
 | _ => none
def uAnd (t s:UT):UT:=fun ρ M Q => t ρ M fun c M1 => if c = true then s ρ M1 Q else Q false M1
def uOr (t s:UT):UT:=fun ρ M Q => t ρ M fun c M1 => if c = true then Q true M1 else s ρ M1 Q
def uNot (t:UT):UT:=fun ρ M Q => t ρ M fun c M1 => Q (!c) M1
theorem lt_and (ha:LT tt ut) (hb:LT tt' ut'):LT (tAnd tt tt') (uAnd ut ut'):=fun A ι σ H ρ M Qu Q w e q k =>
 ha A ι σ H ρ M _ _ w e q fun c M1 ι1 H1 l1 w1 q1 => by
  cases c with
  | false => exact k false M1 ι1 H1 l1 w1 q1
  | true => exact hb A ι1 σ H1 ρ M1 _ _ w1 (e.le l1) q1 fun b M2 ι2 H2 l2 w2 q2 => k b M2 ι2 H2 (l1.trans l2) w2 q2
theorem lt_or (ha:LT tt ut) (hb:LT tt' ut'):LT (tOr tt tt') (uOr ut ut'):=fun A ι σ H ρ M Qu Q w e q k =>
 ha A ι σ H ρ M _ _ w e q fun c M1 ι1 H1 l1 w1 q1 => by
  cases c with
  | true => exact k true M1 ι1 H1 l1 w1 q1
  | false => exact hb A ι1 σ H1 ρ M1 _ _ w1 (e.le l1) q1 fun b M2 ι2 H2 l2 w2 q2 => k b M2 ι2 H2 (l1.trans l2) w2 q2
theorem lt_not (ha:LT tt ut):LT (tNot tt) (uNot ut):=fun A ι σ H ρ M Qu Q w e q k =>
 ha A ι σ H ρ M _ _ w e q fun c M1 ι1 H1 l1 w1 q1 => k _ M1 ι1 H1 l1 w1 q1
def uAndV (ua ub:UE):UE:=fun ρ M Q => ua ρ M fun x M1 => ∃ c,x = .p (.bl c)∧if c = true then ub ρ M1 Q else Q (.p (.bl false)) M1
def uOrV (ua ub:UE):UE:=fun ρ M Q => ua ρ M fun x M1 => ∃ c,x = .p (.bl c)∧if c = true then Q (.p (.bl true)) M1 else ub ρ M1 Q
def uNotV (ua:UE):UE:=fun ρ M Q => ua ρ M fun x M1 => ∃ c,x = .p (.bl c)∧Q (.p (.bl (!c))) M1
theorem le_andV (ha:LE ta ua) (hb:LE tb ub):LE (vV ta tb) (uAndV ua ub):=fun A ι σ H ρ M Qu Q w e q k =>
 ha A ι σ H ρ M _ _ w e q fun x M1 ι1 v H1 l1 w1 r1 ⟨c,ex,q1⟩ => by
  subst ex
  cases r1 with
  | p r =>
   cases r
   refine ⟨c,rfl, ?_⟩
   cases c with
   | false => exact k _ M1 ι1 _ H1 l1 w1 (.p (.bl _)) q1
   | true => exact hb A ι1 σ H1 ρ M1 _ _ w1 (e.le l1) q1 fun b M2 ι2 v2 H2 l2 w2 r2 q2 => k b M2 ι2 v2 H2 (l1.trans l2) w2 r2 q2
theorem le_orV (ha:LE ta ua) (hb:LE tb ub):LE (tOrV ta tb) (uOrV ua ub):=fun A ι σ H ρ M Qu Q w e q k =>
 ha A ι σ H ρ M _ _ w e q fun x M1 ι1 v H1 l1 w1 r1 ⟨c,ex,q1⟩ => by
  subst ex
  cases r1 with
  | p r =>
   cases r
   refine ⟨c,rfl, ?_⟩
   cases c with
   | true => exact k _ M1 ι1 _ H1 l1 w1 (.p (.bl _)) q1
   | false => exact hb A ι1 σ H1 ρ M1 _ _ w1 (e.le l1) q1 fun b M2 ι2 v2 H2 l2 w2 r2 q2 => k b M2 ι2 v2 H2 (l1.trans l2) w2 r2 q2
def uIf (t:UT) (ua ub:UE):UE:=fun ρ M Q => t ρ M fun c M1 => if c = true then ua ρ M1 Q else ub ρ M1 Q
theorem le_if (hc:LT tt ut) (ha:LE ta ua) (hb:LE tb ub):LE (tIf tt ta tb) (uIf ut ua ub):=fun A ι σ H ρ M Qu Q w e q k =>
 hc A ι σ H ρ M _ _ w e q fun c M1 ι1 H1 l1 w1 q1 => by
  cases c with
  | true => exact ha A ι1 σ H1 ρ M1 _ _ w1 (e.le l1) q1 fun b M2 ι2 v2 H2 l2 w2 r2 q2 => k b M2 ι2 v2 H2 (l1.trans l2) w2 r2 q2
  | false => exact hb A ι1 σ H1 ρ M1 _ _ w1 (e.le l1) q1 fun b M2 ι2 v2 H2 l2 w2 r2 q2 => k b M2 ι2 v2 H2 (l1.trans l2) w2 r2 q2
def uTup (ul:UA):UE:=fun ρ M Q => ul ρ M fun us M1 => ∃ ts,zJ us = some ts∧Q (.p (.tup ts)) M1
def uLst (ul:UA):UE:=fun ρ M Q => ul ρ M fun us M1 => ∃ ts,zJ us = some ts∧Q (.p (.lst ts)) M1
def uNew (ul:UA):UE:=fun ρ M Q => ul ρ M fun us M1 => Q (.m M1.length) (M1 ++ [.lst us])
def uNewT (ul:UA):UE:=fun ρ M Q => ul ρ M fun us M1 => Q (.m M1.length) (M1 ++ [.tup us])
theorem le_tup (ha:LA n tl ul) (hn:n≤1000:=by decide):LE (tTup tl) (uTup ul):=fun A ι σ H ρ M Qu Q w e q k =>
 ha A ι σ H ρ M _ _ w e q fun us M1 ι1 vs H1 l1 w1 hl r1 ⟨ts,et,q1⟩ => by
  have r2:=r1
  rw [xj et] at r2
  exact ⟨by rw [r1.len,hl]; exact Nat.le_of_lt (jd hn),fun p hp => k _ M1 ι1 _ _ (l1.trans (.fresh hp)) (w1.fresh hp) (.p (Kh w1 hp r2.pures)) q1⟩
theorem le_lst (ha:LA n tl ul) (hn:n≤1000:=by decide):LE (tLst tl) (uLst ul):=fun A ι σ H ρ M Qu Q w e q k =>
 ha A ι σ H ρ M _ _ w e q fun us M1 ι1 vs H1 l1 w1 hl r1 ⟨ts,et,q1⟩ => by
  have r2:=r1
  rw [xj et] at r2
  exact ⟨by rw [r1.len,hl]; exact Nat.le_of_lt (jd hn),fun p hp => k _ M1 ι1 _ _ (l1.trans (.fresh hp)) (w1.fresh hp) (.p (jt w1 hp r2.pures)) q1⟩
theorem vF {α:Type} {l:List α} {x:α}:(l ++ [x])[l.length]? = some x:=by rw [List.getElem?_append_right (Nat.le_refl _),Nat.sub_self]; rfl
theorem VQ (w:Wd A ι H M) {p:Addr} {vs:List V} {us:List U} (h:H p = none) (r:RepUs A ι H vs us):Wd A (ι ++ [p]) (upd H p (.lst vs)) (M ++ [.lst us])∧RepU A (ι ++ [p]) (upd H p (.lst vs)) (.ref p) (.m M.length) :=
 ⟨w.push h ⟨vs,upd_same,r.le (.push h)⟩, .m (by rw [← w.len]; exact vF)⟩
theorem le_new (ha:LA n tl ul) (hn:n≤1000:=by decide):LE (tLst tl) (uNew ul):=fun A ι σ H ρ M Qu Q w e q k =>
 ha A ι σ H ρ M _ _ w e q fun us M1 ι1 vs H1 l1 w1 hl r1 q1 => ⟨by rw [r1.len,hl]; exact Nat.le_of_lt (jd hn),fun p hp => k _ _ _ _ _ (l1.trans (.push hp)) (VQ w1 hp r1).1 (VQ w1 hp r1).2 q1⟩
def vf (M:MM):U→Option (List U)
 | .p (.lst ts) => some (ts.map .p)
 | .m k => match M[k]? with
  | some (.lst us) => some us
  | _ => none
 | _ => none
def zK (M:MM):U→Option (List U)
 | .p (.tup ts) => some (ts.map .p)
 | .m k => match M[k]? with
  | some (.tup us) => some us
  | _ => none
 | _ => none
theorem xK {us:List U} (w:Wd A ι H M) (r:RepU A ι H v u) (e:vf M u = some us):∃ p vs,v = .ref p∧H p = some (.lst vs)∧RepUs A ι H vs us:=by
 cases r with
 | p r =>
  cases r with
  | lst na e1 l r => simp [vf] at e; subst e; exact ⟨_,_,rfl,e1,RepTs.ups (Paired.of_get l r)⟩
  | _ => simp [vf] at e
 | m q =>
  obtain ⟨o,h1,h2⟩:=w.al q
  simp only [vf,h1] at e
  cases o with
  | lst us => simp at e; subst e; obtain ⟨vs,h3,h4⟩:=h2; exact ⟨_,_,rfl,h3,h4⟩
  | _ => simp at e
 | x h => simp [vf] at e
theorem xJ {us:List U} (w:Wd A ι H M) (r:RepU A ι H v u) (e:zK M u = some us):∃ p vs,v = .ref p∧H p = some (.tup vs)∧RepUs A ι H vs us:=by
 cases r with
 | p r =>
  cases r with
  | tup na e1 l r => simp [zK] at e; subst e; exact ⟨_,_,rfl,e1,RepTs.ups (Paired.of_get l r)⟩
  | _ => simp [zK] at e
 | m q =>
  obtain ⟨o,h1,h2⟩:=w.al q
  simp only [zK,h1] at e
  cases o with
  | tup us => simp at e; subst e; obtain ⟨vs,h3,h4⟩:=h2; exact ⟨_,_,rfl,h3,h4⟩
  | _ => simp at e
 | x h => simp [zK] at e
theorem KH {vs:List V} {us:List U} {i:Int} {z:U} (r:RepUs A ι H vs us) (e:atI us i = some z):∃ x,atI vs i = some x∧RepU A ι H x z:=by
 unfold atI at e ⊢
 rw [r.len]
 cases q:ixN us.length i with
 | none => rw [q] at e; cases e
 | some j =>
  rw [q] at e
  exact Paired.getR r e
def uIx (it:MM→U→Option (List U)) (ua ub:UE):UE:=fun ρ M Q => ua ρ M fun x M1 => ub ρ M1 fun y M2 => ∃ us i z,it M2 x = some us∧y = .p (.int i)∧atI us i = some z∧Q z M2
theorem le_ixL {K:PySem.W.Frag} (ha:LE ta ua) (hb:LE tb ub):LE (tOp (rIxL K) ta tb) (uIx vf ua ub):=fun A ι σ H ρ M Qu Q w e q k =>
 ha A ι σ H ρ M _ _ w e q fun x M1 ι1 v H1 l1 w1 r1 q1 => hb A ι1 σ H1 ρ M1 _ _ w1 (e.le l1) q1 fun y M2 ι2 v2 H2 l2 w2 r2 ⟨us,i,z,e1,e2,e3,q2⟩ => by
  subst e2
  obtain ⟨p,vs,rfl,h1,h2⟩:=xK w2 (r1.le l2) e1
  obtain ⟨x',h3,h4⟩:=KH h2 e3
  cases r2 with
  | p r => cases r; exact ⟨p,vs,i,x',rfl,rfl,SqL.of h1,h3,k z M2 ι2 x' H2 (l1.trans l2) w2 h4 q2⟩
theorem le_ixT {K:PySem.W.Frag} (ha:LE ta ua) (hb:LE tb ub):LE (tOp (rIxT K) ta tb) (uIx zK ua ub):=fun A ι σ H ρ M Qu Q w e q k =>
 ha A ι σ H ρ M _ _ w e q fun x M1 ι1 v H1 l1 w1 r1 q1 => hb A ι1 σ H1 ρ M1 _ _ w1 (e.le l1) q1 fun y M2 ι2 v2 H2 l2 w2 r2 ⟨us,i,z,e1,e2,e3,q2⟩ => by
  subst e2
  obtain ⟨p,vs,rfl,h1,h2⟩:=xJ w2 (r1.le l2) e1
  obtain ⟨x',h3,h4⟩:=KH h2 e3
  cases r2 with
  | p r => cases r; exact ⟨p,vs,i,x',rfl,rfl,SqT.of h1,h3,k z M2 ι2 x' H2 (l1.trans l2) w2 h4 q2⟩
def CbL (r:List V→Hp→VK→Prop) (s:List T→(T→Prop)→Prop):Prop:=∀ (A:Addr→Prop) (ι:List Addr) (H:Hp) (M:MM) (vs:List V) (ts:List T) (Qs:T→Prop) (Q:VK),Wd A ι H M→Paired (RepV (Av A ι) H) vs ts→s ts Qs →
 (∀ t ι' v H',Le ι H ι' H'→Wd A ι' H' M→RepT (Av A ι') H' v t→Qs t→Q v H')→r vs H Q
def uCb (s:List T→(T→Prop)→Prop) (ul:UA):UE:=fun ρ M Q => ul ρ M fun us M1 => ∃ ts,sns M1 us = some ts∧s ts fun t => Q (.p t) M1
theorem le_cb {r:List V→Hp→VK→Prop} {s:List T→(T→Prop)→Prop} (h:CbL r s) (ha:LA n tl ul):LE (tCB r tl) (uCb s ul):=fun A ι σ H ρ M Qu Q w e q k =>
 ha A ι σ H ρ M _ _ w e q fun us M1 ι1 vs H1 l1 w1 hl r1 ⟨ts,e1,q1⟩ => h A ι1 H1 M1 vs ts _ Q w1 (r1.sns w1 e1) q1 fun t ι2 z H2 l2 w2 r2 q2 => k _ M1 ι2 z H2 (l1.trans l2) w2 (.p r2) q2
theorem pv1 {vs:List V} {t:T} (r:Paired (RepV A H) vs [t]):∃ v,vs = [v]∧RepV A H v t:=by
 cases r with
 | cons r q => cases q; exact ⟨_,rfl,r⟩
def sInt:List T→(T→Prop)→Prop:=fun ts Q => (∃ i,ts = [.int i]∧Q (.int i))∨∃ k,ts = [.bl k]∧Q (.int (if k then 1 else 0))
theorem KD:CbL (fun xs H Q => (∃ i,xs = [.int i]∧Q (.int i) H)∨∃ k,xs = [.bl k]∧Q (.int (if k then 1 else 0)) H) sInt:=fun A ι H M vs ts Qs Q w r h k => by
 rcases h with ⟨i,e,q⟩ | ⟨b,e,q⟩
 ·subst e
  obtain ⟨v,ev,r1⟩:=pv1 r
  subst ev
  cases r1.int_inv
  exact .inl ⟨i,rfl,k _ ι _ H (.refl _ _) w (.int _) q⟩
 ·subst e
  obtain ⟨v,ev,r1⟩:=pv1 r
  subst ev
  cases r1.bl_inv
  exact .inr ⟨b,rfl,k _ ι _ H (.refl _ _) w (.int _) q⟩
def bls:List T→Option (List Bool)
 | [] => some []
 | .bl b :: r => (bls r).map (b :: ·)
 | _ => none
@[simp] theorem bls_map:∀ bs:List Bool,bls (bs.map T.bl) = some bs
 | [] => rfl
 | b :: r => by simp [bls,bls_map r]
def sListOf:List T→(T→Prop)→Prop:=fun ts Q => ∃ a xs,ts = [a]∧seqT a = some xs∧Q (.lst xs)
theorem Z5 {K:PySem.W.Frag}:CbL (fun xs H Q => ∃ p ys,xs = [.ref p]∧(SqL K H p ys∨SqT K H p ys)∧∀ l,H l = none→Q (.ref l) (upd H l (.lst ys))) sListOf:=fun A ι H M vs ts Qs Q w r ⟨a,xs,e,ea,q⟩ k => by
 subst e
 obtain ⟨v,ev,r1⟩:=pv1 r
 subst ev
 cases a <;> simp [seqT] at ea
 ·subst ea
  obtain ⟨p,zs,rfl,h1,h2⟩:=r1.tup_inv
  exact ⟨p,zs,rfl, .inr (SqT.of h1),fun l hl => k _ ι _ _ (.fresh hl) (w.fresh hl) (jt w hl h2) q⟩
 ·subst ea
  obtain ⟨p,zs,rfl,h1,h2⟩:=r1.lst_inv
  exact ⟨p,zs,rfl, .inl (SqL.of h1),fun l hl => k _ ι _ _ (.fresh hl) (w.fresh hl) (jt w hl h2) q⟩
def uLen (it:MM→U→Option (List U)) (ul:UA):UE:=fun ρ M Q => ul ρ M fun us M1 => ∃ x ys,us = [x]∧it M1 x = some ys∧Q (.p (.int ys.length)) M1
theorem le_len (ha:LA n tl ul):LE (tCB rLenL tl) (uLen vf ul):=fun A ι σ H ρ M Qu Q w e q k =>
 ha A ι σ H ρ M _ _ w e q fun us M1 ι1 vs H1 l1 w1 hl r1 ⟨x,ys,e1,e2,q1⟩ => by
  subst e1
  cases r1 with
  | cons r q =>
   cases q
   obtain ⟨p,zs,rfl,h1,h2⟩:=xK w1 r e2
   exact ⟨p,zs,rfl,h1,by rw [h2.len]; exact k _ M1 ι1 _ H1 l1 w1 (.p (.int _)) q1⟩
def cutT (xs:List T) (lo hi:Option Int):List T:=(xs.drop (HT.sIx xs.length 0 lo)).take (HT.sIx xs.length xs.length hi - HT.sIx xs.length 0 lo)
end
section
variable {te ta tb:TE} {ue ua ub:UE} {tt:TT} {ut:UT} {tl:TA} {ul:UA} {n:Nat} {A A' A2:Addr→Prop} {H H' H1 H2:Hp} {ι ι' ι1 ι2:List Addr} {M M':MM} {v:V} {u:U} {t:T} {σ:St} {ρ:UEnv} {K:PySem.W.Frag}
structure Lea (A:Addr→Prop) (ι:List Addr) (H:Hp) (A':Addr→Prop) (ι':List Addr) (H':Hp):Prop where
 ext:∃ n,ι' = ι ++ n
 av:∀ x o,¬ Av A ι x→H x = some o→H' x = some o∧¬ Av A' ι' x
 xd:∀ x fs,x ∉ ι→H x = some (.xd fs)→x ∉ ι'∧H' x = some (.xd fs)
theorem Le.xd (l:Le ι H ι' H'):∀ x fs,x ∉ ι→H x = some (.xd fs)→x ∉ ι'∧H' x = some (.xd fs):=fun x fs hx e => by
 obtain ⟨m,rfl,hm⟩:=l.ext
 refine ⟨fun z => ?_,l.fr x _ e hx⟩
 rcases List.mem_append.mp z with z | z
 ·exact hx z
 ·rw [hm x z] at e; cases e
theorem Le.lea (l:Le ι H ι' H'):Lea A ι H A ι' H':=⟨let ⟨n,e,_⟩:=l.ext; ⟨n,e⟩,fun _ _ h e => l.av h e,l.xd⟩
theorem Lea.trans (a:Lea A ι H A' ι' H') (b:Lea A' ι' H' A2 ι2 H2):Lea A ι H A2 ι2 H2:=by
 obtain ⟨n,rfl⟩:=a.ext
 obtain ⟨m,rfl⟩:=b.ext
 exact ⟨⟨n ++ m,by rw [List.append_assoc]⟩,fun x o h e => b.av x o (a.av x o h e).2 (a.av x o h e).1,fun x fs h e => b.xd x fs (a.xd x fs h e).1 (a.xd x fs h e).2⟩
theorem RepU.lea (l:Lea A ι H A' ι' H') (r:RepU A ι H v u):RepU A' ι' H' v u:=by
 cases r with
 | p r => exact .p (r.mono l.av)
 | m e =>
  obtain ⟨n,rfl⟩:=l.ext
  exact .m (by rw [List.getElem?_append_left (List.getElem?_eq_some_iff.mp e).1]; exact e)
 | @x a d q h =>
  refine .x ?_
  cases q with
  | none => exact h
  | some n =>
   obtain ⟨x0,e,ni,hx⟩:=h
   have:=l.xd x0 _ ni hx
   exact ⟨x0,e,this.1,this.2⟩
theorem EnvR.lea (l:Lea A ι H A' ι' H') (r:EnvR A ι H σ ρ):EnvR A' ι' H' σ ρ:=Paired.mapP r fun _ _ q u e => by
 obtain ⟨v,h1,h2⟩:=q u e
 exact ⟨v,h1,h2.lea l⟩
structure UIt where
 n:Nat
 ok:MM→Prop
 item:Nat→U→Prop
def ItR (A:Addr→Prop) (ι1:List Addr) (H1:Hp) (J:It) (it:UIt):Prop:=∀ (A':Addr→Prop) (ι:List Addr) (H:Hp) (M:MM) (i:Nat),Lea A ι1 H1 A' ι H→Wd A' ι H M→it.ok M →
 (i < it.n→J.go i H∧∀ x H',J.yld i H x H'→∃ u,it.item i u∧Le ι H ι H'∧Wd A' ι H' M∧RepU A' ι H' x u)∧(i = it.n→J.stop i H)
abbrev UI:=UEnv→MM→(UIt→MM→Prop)→Prop
def LI (wi:TI) (ui:UI):Prop:=∀ (A:Addr→Prop) (ι:List Addr) (σ:St) (H:Hp) (ρ:UEnv) (M:MM) (Qu:UIt→MM→Prop) (R:It→Hp→Prop),Wd A ι H M→EnvR A ι H σ ρ→ui ρ M Qu →
 (∀ it M' ι' J H',Le ι H ι' H'→Wd A ι' H' M'→ItR A ι' H' J it→Qu it M'→R J H')→wi σ H R
def uIter (ua:UE):UI:=fun ρ M Q => ua ρ M fun x M1 => ∃ us,vf M1 x = some us∧Q ⟨us.length,fun M => vf M x = some us,fun i z => us[i]? = some z⟩ M1
theorem li_list (ha:LE ta ua):LI (XC K ta) (uIter ua):=fun A ι σ H ρ M Qu R w e q k =>
 ha A ι σ H ρ M _ _ w e q fun x M1 ι1 v H1 l1 w1 r1 ⟨us,eu,q1⟩ => by
  obtain ⟨p,vs,rfl,h1,h2⟩:=xK w1 r1 eu
  refine ⟨p,rfl,⟨vs,SqL.of h1⟩,k _ M1 ι1 _ H1 l1 w1 ?_ q1⟩
  intro A' ι2 H2 M2 i l w2 ok
  obtain ⟨p',vs2,e2,h3,h4⟩:=xK w2 (r1.lea l) ok
  cases e2
  have hl:=h4.len
  refine ⟨fun hi => ?_,fun hi => ⟨vs2,SqL.of h3,by rw [hl]; exact Nat.le_of_eq hi.symm⟩⟩
  have hx:vs2[i]? = some (vs2[i]'(by rw [hl]; exact hi)):=List.getElem?_eq_getElem _
  refine ⟨⟨vs2,_,SqL.of h3,hx⟩,fun x H' y => ?_⟩
  obtain ⟨rfl,y⟩:=y
  have hx2:=y vs2 (SqL.of h3)
  obtain ⟨z,hz,rz⟩:=Paired.getL h4 hx2
  exact ⟨z,hz, .refl _ _,w2,rz⟩
def uRng1 (ul:UA):UI:=fun ρ M Q => ul ρ M fun xs M1 => ∃ j:Int,xs = [.p (.int j)] ∧ -(2 ^ 62)≤j∧j < 2 ^ 62∧Q ⟨j.toNat,fun _ => True,fun i z => z = .p (.int i)⟩ M1
theorem itr_ok {lo:Int} {n:Nat}:ItR A ι H (Itr lo n) ⟨n,fun _ => True,fun i z => z = .p (.int (lo + i))⟩:=fun A' ι2 H2 M2 i l w2 _ =>
 ⟨fun hi => ⟨hi,fun x H' y => by
  obtain ⟨rfl,rfl⟩:=y
  exact ⟨_,rfl, .refl _ _,w2, .p (.int _)⟩⟩,fun hi => Nat.le_of_eq hi.symm⟩
theorem li_rng1 (ha:LA n tl ul):LI (Ka tl) (uRng1 ul):=fun A ι σ H ρ M Qu R w e q k =>
 ha A ι σ H ρ M _ _ w e q fun xs M1 ι1 vs1 H1 l1 w1 hn r0 ⟨j,ex,j0,j1,q1⟩ => by
  subst ex
  cases r0 with
  | cons r1 r0 =>
  cases r0
  cases r1 with
  | p r =>
  cases r
  have:=itr_ok (A:=A) (ι:=ι1) (H:=H1) (lo:=0) (n:=j.toNat)
  simp only [Int.zero_add] at this
  exact ⟨j,rfl,j0,j1,k _ M1 ι1 _ H1 l1 w1 this q1⟩
abbrev UG:=U→UEnv→MM→(UEnv→MM→Prop)→Prop
def LG (g:TG) (ug:UG):Prop:=∀ (A:Addr→Prop) (ι:List Addr) (σ:St) (H:Hp) (ρ:UEnv) (M:MM) (v:V) (u:U) (Qu:UEnv→MM→Prop) (Q:St→Hp→Prop),Wd A ι H M→EnvR A ι H σ ρ→RepU A ι H v u→ug u ρ M Qu →
 (∀ ρ' M' ι' σ' H',Le ι H ι' H'→Wd A ι' H' M'→EnvR A ι' H' σ' ρ'→Qu ρ' M'→Q σ' H')→g v σ H Q
def XW (i:Nat):UG:=fun u ρ M Q => Q (ρ.set i (some u)) M
def XV (i j:Nat):UG:=fun u ρ M Q => ∃ a b,zK M u = some [a,b]∧Q ((ρ.set i (some a)).set j (some b)) M
def XU (i j k:Nat):UG:=fun u ρ M Q => ∃ a b c,zK M u = some [a,b,c]∧Q (((ρ.set i (some a)).set j (some b)).set k (some c)) M
theorem lg_name (i:Nat):LG (qI i) (XW i):=fun A ι σ H ρ M v u Qu Q w e r q k => k _ M ι _ H (.refl _ _) w (e.put i r) q
theorem rep2 {vs:List V} {a b:U} (r:RepUs A ι H vs [a,b]):∃ x y,vs = [x,y]∧RepU A ι H x a∧RepU A ι H y b:=by
 cases r with
 | cons r q => cases q with | cons r2 q => cases q; exact ⟨_,_,rfl,r,r2⟩
theorem rep3 {vs:List V} {a b c:U} (r:RepUs A ι H vs [a,b,c]):∃ x y z,vs = [x,y,z]∧RepU A ι H x a∧RepU A ι H y b∧RepU A ι H z c:=by
 cases r with
 | cons r q =>
  obtain ⟨y,z,rfl,r2,r3⟩:=rep2 q
  exact ⟨_,_,_,rfl,r,r2,r3⟩
theorem lg_name2 (i j:Nat):LG (gTup K 2 (vJ (qI i) (vJ (qI j) gNil))) (XV i j):=fun A ι σ H ρ M v u Qu Q w e r ⟨a,b,ei,q⟩ k => by
 obtain ⟨p,vs,rfl,h1,h2⟩:=xJ w r ei
 obtain ⟨x,y,rfl,r1,r2⟩:=rep2 h2
 exact qT h1 (k _ M ι _ H (.refl _ _) w ((e.put i r1).put j r2) q)
theorem lg_name3 (i j l:Nat):LG (gTup K 3 (vJ (qI i) (vJ (qI j) (vJ (qI l) gNil)))) (XU i j l):=fun A ι σ H ρ M v u Qu Q w e r ⟨a,b,c,ei,q⟩ k => by
 obtain ⟨p,vs,rfl,h1,h2⟩:=xJ w r ei
 obtain ⟨x,y,z,rfl,r1,r2,r3⟩:=rep3 h2
 exact qS h1 (k _ M ι _ H (.refl _ _) w (((e.put i r1).put j r2).put l r3) q)
def uSub (uo ui:UE):UG:=fun u ρ M Q => uo ρ M fun o M1 => ui ρ M1 fun i M2 => ∃ k us z j,o = .m k∧M2[k]? = some (.lst us)∧i = .p (.int z)∧ixN us.length z = some j∧Q ρ (M2.set k (.lst (us.set j u)))
theorem lg_sub (ha:LE ta ua) (hb:LE tb ub):LG (gSub ta tb rSetL) (uSub ua ub):=fun A ι σ H ρ M v u Qu Q w e r q k =>
 ha A ι σ H ρ M _ _ w e q fun o M1 ι1 v1 H1 l1 w1 r1 q1 => hb A ι1 σ H1 ρ M1 _ _ w1 (e.le l1) q1 fun i M2 ι2 v2 H2 l2 w2 r2 ⟨kk,us,z,j,eo,em,ei,ej,q2⟩ => by
  subst eo ei
  cases r2 with
  | p r2 =>
  cases r2
  have r1':=r1.le l2
  cases r1' with
  | m ek =>
  obtain ⟨vs,h1,h2⟩:=w2.obj kk _ _ ek em
  have hm:=List.mem_of_getElem? ek
  refine ⟨_,vs,z,j,rfl,rfl,h1,by rw [h2.len]; exact ej,k _ _ ι2 _ _ ((l1.trans l2).trans (.put hm)) (w2.put (mo:=.lst (us.set j u)) ek ⟨_,upd_same, ?_⟩) (e.le ((l1.trans l2).trans (.put hm))) q2⟩
  exact RepUs.le (.put hm) (Paired.put (r.le (l1.trans l2)) j h2)
def Zk (bs:List Bool) (n i:Nat):Bool:=match bs[i]? with
 | some b => !b
 | none => decide (i < bs.length + n)
theorem JY {bs:List Bool} {n i:Nat} {σ:St} (hl:σ.length = bs.length) (h:Zk bs n i = true):(vA bs n σ)[i]? = some none:=by
 unfold Zk at h
 unfold vA
 have hz:((bs.zip σ).map (fun p => if p.1 then p.2 else none)).length = bs.length:=by simp [hl]
 cases e:bs[i]? with
 | some b =>
  rw [e] at h
  have hi:=(List.getElem?_eq_some_iff.mp e).1
  rw [List.getElem?_append_left (by rw [hz]; exact hi),List.getElem?_map]
  have hb:b = false:=by simpa using h
  have e2:(bs.zip σ)[i]? = some (b,σ[i]'(by omega)):=by
   rw [List.getElem?_eq_getElem (by simp [hl]; exact hi)]
   simp
   exact (List.getElem?_eq_some_iff.mp e).2
  rw [e2,hb]
  rfl
 | none =>
  rw [e] at h
  have hi:=List.getElem?_eq_none_iff.mp e
  simp at h
  rw [List.getElem?_append_right (by rw [hz]; exact hi),hz,List.getElem?_replicate]
  rw [if_pos (by omega)]
def LGx (bs:List Bool) (n:Nat) (g:TG) (ug:UG):Prop:=∀ (A:Addr→Prop) (ι:List Addr) (σ:St) (H:Hp) (ρ:UEnv) (M:MM) (v:V) (u:U) (Qu:UEnv→MM→Prop) (Q:St→Hp→Prop),σ.length = bs.length→Wd A ι H M→EnvR A ι H (vA bs n σ) ρ→RepU A ι H v u→ug u ρ M Qu →
 (∀ ρ' σ',EnvR A ι H σ' ρ'→ExtS (vA bs n σ) σ'→σ'.length = (vA bs n σ).length→Qu ρ' M→Q σ' H)→g v (vA bs n σ) H Q
theorem lgx_name {bs:List Bool} (i:Nat) (h:Zk bs n i = true:=by rfl):LGx bs n (qI i) (XW i):=fun A ι σ H ρ M v u Qu Q hl w e r q k =>
 k _ _ (e.put i r) ((ExtS.refl _).put (JY hl h)) (by simp) q
theorem lt_yes:LT tYes (fun _ M Q => Q true M):=fun A ι σ H ρ M Qu Q w e q k => k true M ι H (.refl _ _) w q
abbrev uYes:UT:=fun _ M Q => Q true M
def UComp (it:UIt) (ug:UG) (ut:UT) (ue:UE) (ρ0:UEnv) (M1:MM) (Q:UK):Prop:=it.n≤sizeLine∧∃ Iv:Nat→List T→MM→Prop,Iv 0 [] M1 ∧
 (∀ i acc M2,i < it.n→acc.length≤i→Iv i acc M2→it.ok M2∧∀ u,it.item i u→ug u ρ0 M2 fun ρ4 M4 => ut ρ4 M4 fun b M5 => if b = true then ue ρ4 M5 fun z M6 => ∃ t,z = .p t∧Iv (i + 1) (acc ++ [t]) M6 else Iv (i + 1) acc M5) ∧
 (∀ acc M2,Iv it.n acc M2→it.ok M2∧Q (.p (.lst acc)) M2)
def uComp (ui:UI) (bs:List Bool) (n:Nat) (ug:UG) (ut:UT) (ue:UE):UE:=fun ρ M Q => ui ρ M fun it M1 => ρ.length = bs.length∧UComp it ug ut ue (maskU bs n ρ) M1 Q
theorem Wd.addA (w:Wd A ι H M) {p:Addr} {o:HO} (h:H p = none):Wd (fun x => A x∨x = p) ι (upd H p o) M:=by
 have w2:=w.fresh (o:=o) h
 have hm:∀ x o',¬ Av A ι x→(upd H p o) x = some o'→H x≠none→(upd H p o) x = some o'∧¬ Av (fun x => A x∨x = p) ι x:=fun x o' hx e hs => ⟨e,fun z => by
  rcases z with (z | z) | z
  ·exact hx (.inl z)
  ·subst z; exact hs h
  ·exact hx (.inr z)⟩
 have hl:Lea A ι H (fun x => A x∨x = p) ι (upd H p o):=⟨⟨[],by simp⟩,fun x o' hx e => hm x o' hx (xo h e) (by rw [e]; simp),fun x fs hx e => ⟨hx,xo h e⟩⟩
 refine ⟨w.nd,w.len,fun x hx => ?_,fun x hx z => ?_,fun k a ob e1 e2 => ?_⟩
 ·rcases hx with hx | hx
  ·exact w2.dom x hx
  ·rw [hx,upd_same]; simp
 ·rcases z with z | z
  ·exact w.na x hx z
  ·exact w.nin h (by rw [← z]; exact hx)
 ·have r:=w.obj k a ob e1 e2
  have ea:upd H p o a = H a:=upd_ne fun z => by
   obtain ⟨q,hq⟩:=r.some
   rw [z,h] at hq; cases hq
  cases ob with
  | lst => obtain ⟨vs,e,r⟩:=r; exact ⟨vs,by rw [ea]; exact e,Paired.mapP r fun _ _ q => q.lea hl⟩
  | tup => obtain ⟨vs,e,r⟩:=r; exact ⟨vs,by rw [ea]; exact e,Paired.mapP r fun _ _ q => q.lea hl⟩
  | ins =>
   obtain ⟨dx,gs,e,ed,nd,r⟩:=r
   exact ⟨dx,gs,by rw [ea]; exact e,xo h ed,nd,Paired.mapP r fun _ _ q => ⟨q.1,q.2.lea hl⟩⟩
  | dK => obtain ⟨gs,e,r⟩:=r; exact ⟨gs,by rw [ea]; exact e,Paired.mapP r fun _ _ q => ⟨q.1,q.2.lea hl⟩⟩
theorem Wd.lessA (w:Wd A' ι H M) (h:∀ x,A x→A' x):Wd A ι H M:=by
 have hl:Lea A' ι H A ι H:=⟨⟨[],by simp⟩,fun x o hx e => ⟨e,fun z => hx (z.elim (fun z => .inl (h x z)) .inr)⟩,fun x fs hx e => ⟨hx,e⟩⟩
 refine ⟨w.nd,w.len,fun x hx => w.dom x (h x hx),fun x hx z => w.na x hx (h x z),fun k a ob e1 e2 => ?_⟩
 have r:=w.obj k a ob e1 e2
 cases ob with
 | lst => obtain ⟨vs,e,r⟩:=r; exact ⟨vs,e,Paired.mapP r fun _ _ q => q.lea hl⟩
 | tup => obtain ⟨vs,e,r⟩:=r; exact ⟨vs,e,Paired.mapP r fun _ _ q => q.lea hl⟩
 | ins => obtain ⟨dx,gs,e,ed,nd,r⟩:=r; exact ⟨dx,gs,e,ed,nd,Paired.mapP r fun _ _ q => ⟨q.1,q.2.lea hl⟩⟩
 | dK => obtain ⟨gs,e,r⟩:=r; exact ⟨gs,e,Paired.mapP r fun _ _ q => ⟨q.1,q.2.lea hl⟩⟩
theorem Wd.updA (w:Wd A ι H M) {p:Addr} {o:HO} {ys:List V} (ha:A p) (hp:H p = some (.lst ys)):Lea A ι H A ι (upd H p o)∧Wd A ι (upd H p o) M:=by
 have hl:Lea A ι H A ι (upd H p o):=⟨⟨[],by simp⟩,fun x o' hx e => ⟨by rw [upd_ne fun z => hx (.inl (by rw [z]; exact ha))]; exact e,hx⟩,fun x fs hx e => ⟨hx,by rw [upd_ne fun z => by rw [z,hp] at e; cases e]; exact e⟩⟩
 refine ⟨hl,w.nd,w.len,fun x hx => ?_,w.na,fun k a ob e1 e2 => ?_⟩
 ·by_cases z:x = p
  ·rw [z,upd_same]; simp
  ·rw [upd_ne z]; exact w.dom x hx
 ·have r:=w.obj k a ob e1 e2
  have ea:upd H p o a = H a:=upd_ne fun z => w.na a (List.mem_of_getElem? e1) (by rw [z]; exact ha)
  cases ob with
  | lst => obtain ⟨vs,e,r⟩:=r; exact ⟨vs,by rw [ea]; exact e,Paired.mapP r fun _ _ q => q.lea hl⟩
  | tup => obtain ⟨vs,e,r⟩:=r; exact ⟨vs,by rw [ea]; exact e,Paired.mapP r fun _ _ q => q.lea hl⟩
  | ins =>
   obtain ⟨dx,gs,e,ed,nd,r⟩:=r
   exact ⟨dx,gs,by rw [ea]; exact e,by rw [upd_ne fun z => by rw [z,hp] at ed; cases ed]; exact ed,nd,Paired.mapP r fun _ _ q => ⟨q.1,q.2.lea hl⟩⟩
  | dK => obtain ⟨gs,e,r⟩:=r; exact ⟨gs,by rw [ea]; exact e,Paired.mapP r fun _ _ q => ⟨q.1,q.2.lea hl⟩⟩
theorem Le.updF {p:Addr} {o:HO} (l:Le ι H ι' H') (h:H p = none):Le ι H ι' (upd H' p o):=⟨l.ext,fun x o' e n => by rw [upd_ne (vk e h)]; exact l.fr x o' e n,fun x e => by
 by_cases z:x = p
 ·rw [z,upd_same]; simp
 ·rw [upd_ne z]; exact l.al x e⟩
theorem le_comp {wi:TI} {ui:UI} {bs:List Bool} {g:TG} {ug:UG} (hi:LI wi ui) (hg:LGx bs n g ug) (ht:LT tt ut) (he:LE te ue):LE (vK wi bs n g tt te) (uComp ui bs n ug ut ue):=by
 intro A ι σ H ρ M Qu Q w e q k
 refine hi A ι σ H ρ M _ _ w e q fun it M1 ι1 J H1 l1 w1 hJ q1 acc hacc => ?_
 obtain ⟨hlen,hsz,Iv,I0,It,Id⟩:=q1
 have hσ:σ.length = bs.length:=by rw [← hlen]; exact e.len
 have e1:=e.le l1
 have na:¬ Av A ι1 acc:=w1.nA hacc
 have key:∀ ι2 H2,Le ι1 H1 ι2 H2→(∀ x ∈ ι2,¬ (A x∨x = acc))→Lea A ι1 H1 (fun x => A x∨x = acc) ι2 H2:=fun ι2 H2 l h => by
  refine ⟨let ⟨n,e,_⟩:=l.ext; ⟨n,e⟩,fun x o hx ex => ?_,l.xd⟩
  obtain ⟨a1,a2⟩:=l.av hx ex
  refine ⟨a1,fun z => ?_⟩
  rcases z with (z | z) | z
  ·exact a2 (.inl z)
  ·rw [z,hacc] at ex; cases ex
  ·exact a2 (.inr z)
 refine ⟨fun i m H2 => m = it.n - i∧i≤it.n∧∃ ι2 M2 at' ys,Le ι1 H1 ι2 H2∧Wd (fun x => A x∨x = acc) ι2 H2 M2∧H2 acc = some (.lst ys)∧RepTs (Av (fun x => A x∨x = acc) ι2) H2 ys at'∧at'.length≤i∧Iv i at' M2,
  ⟨it.n,by simp,Nat.zero_le _,ι1,M1, [], [], .fresh hacc,w1.addA hacc,upd_same, .nil,Nat.le_refl _,I0⟩, ?_⟩
 rintro i m H2 ⟨rfl,hin,ι2,M2,at',ys,l2,w2,hys,rys,hat,I2⟩
 have lea:=key ι2 H2 l2 w2.na
 by_cases hlt:i < it.n
 ·obtain ⟨ok,step⟩:=It i at' M2 hlt hat I2
  obtain ⟨jgo,jy⟩:=(hJ _ ι2 H2 M2 i lea w2 ok).1 hlt
  refine .inr ⟨jgo,fun H' => ∃ ι2 M2 at' ys,Le ι1 H1 ι2 H'∧Wd (fun x => A x∨x = acc) ι2 H' M2∧H' acc = some (.lst ys)∧RepTs (Av (fun x => A x∨x = acc) ι2) H' ys at'∧at'.length≤i + 1∧Iv (i + 1) at' M2,fun H' h => ⟨it.n - (i + 1),by omega,rfl,hlt,h⟩,fun x H3 y => ?_⟩
  obtain ⟨u,hu,l3,w3,r3⟩:=jy x H3 y
  have l13:=l2.trans l3
  have nacc:∀ {ι':List Addr} {H':Hp} {M':MM},Wd (fun x => A x∨x = acc) ι' H' M'→acc ∉ ι':=fun w z => w.na acc z (.inr rfl)
  have ys3:H3 acc = some (.lst ys):=l3.fr _ _ hys (nacc w2)
  have env3:EnvR (fun x => A x∨x = acc) ι2 H3 (vA bs n σ) (maskU bs n ρ):=(e1.mask).lea (key ι2 H3 l13 w3.na)
  refine hg _ ι2 σ H3 _ M2 x u _ _ hσ w3 env3 r3 (step u hu) fun ρ4 σ4 e4 x4 len4 q4 => ⟨⟨x4,len4⟩, ?_⟩
  refine ht _ ι2 σ4 H3 ρ4 M2 _ _ w3 e4 q4 fun b M5 ι5 H5 l5 w5 q5 => ?_
  have ys5:H5 acc = some (.lst ys):=l5.fr _ _ ys3 (nacc w3)
  have rys5:RepTs (Av (fun x => A x∨x = acc) ι5) H5 ys at':=Paired.mapP rys fun _ _ q => (q.le l3).le l5
  cases b with
  | false => exact ⟨ι5,M5,at',ys,l13.trans l5,w5,ys5,rys5,Nat.le_succ_of_le hat,q5⟩
  | true =>
   refine he _ ι5 σ4 H5 ρ4 M5 _ _ w5 (e4.le l5) q5 fun z M6 ι6 zv H6 l6 w6 r6 q6 => ?_
   obtain ⟨t,rfl,q6⟩:=q6
   have ys6:H6 acc = some (.lst ys):=l6.fr _ _ ys5 (nacc w5)
   refine ⟨ys,ys6, ?_,ι6,M6,at' ++ [t],ys ++ [zv],((l13.trans l5).trans l6).updF hacc,(w6.updA (.inr rfl) ys6).2,upd_same, ?_,by rw [List.length_append,List.length_singleton]; omega,q6⟩
   ·rw [rys.len]; omega
   ·have hl:=(w6.updA (o:=.lst (ys ++ [zv])) (.inr rfl) ys6).1
    cases r6 with
    | p r6 => exact Paired.app (Paired.mapP rys5 fun _ _ q => (q.le l6).mono hl.av) (.cons (r6.mono hl.av) .nil)
 ·have ei:i = it.n:=by omega
  subst ei
  obtain ⟨ok,fin⟩:=Id at' M2 I2
  refine .inl ⟨(hJ _ ι2 H2 M2 _ lea w2 ok).2 rfl,k _ M2 ι2 _ H2 (l1.trans l2) (w2.lessA fun x hx => .inl hx) (.p (.lstP (fun z => ?_) hys (Paired.mapP rys fun _ _ q => q.mono fun x o hx ex => ⟨ex,fun z => hx (z.elim (fun z => .inl (.inl z)) .inr)⟩))) fin⟩
  rcases z with z | z
  ·exact na (.inl z)
  ·exact w2.na acc z (.inr rfl)
end
section
variable {ta:TE} {ua ub:UE} {tt:TT} {ut:UT} {tl:TA} {ul:UA} {n:Nat} {A:Addr→Prop} {H H' H1 H2:Hp} {ι ι' ι1 ι2:List Addr} {M M':MM} {v:V} {u:U} {t:T} {σ:St} {ρ:UEnv}
structure UEnds where
 nx:UEnv→MM→Prop
 rt:UK
 bk:UEnv→MM→Prop:=fun _ _ => False
 ct:UEnv→MM→Prop:=fun _ _ => False
abbrev US:=UEnds→UEnv→MM→Prop
structure EndsR (A:Addr→Prop) (ι0:List Addr) (H0:Hp) (E:UEnds) (D:Ends):Prop where
 nx:∀ ι σ H ρ M,Le ι0 H0 ι H→Wd A ι H M→EnvR A ι H σ ρ→E.nx ρ M→D.nx σ H
 rt:∀ ι v H u M,Le ι0 H0 ι H→Wd A ι H M→RepU A ι H v u→E.rt u M→D.rt v H
 bk:∀ ι σ H ρ M,Le ι0 H0 ι H→Wd A ι H M→EnvR A ι H σ ρ→E.bk ρ M→D.bk σ H
 ct:∀ ι σ H ρ M,Le ι0 H0 ι H→Wd A ι H M→EnvR A ι H σ ρ→E.ct ρ M→D.ct σ H
theorem EndsR.le {E:UEnds} {D:Ends} (l:Le ι H ι' H') (r:EndsR A ι H E D):EndsR A ι' H' E D :=
 ⟨fun _ _ _ _ _ h => r.nx _ _ _ _ _ (l.trans h),fun _ _ _ _ _ h => r.rt _ _ _ _ _ (l.trans h),fun _ _ _ _ _ h => r.bk _ _ _ _ _ (l.trans h),fun _ _ _ _ _ h => r.ct _ _ _ _ _ (l.trans h)⟩
def LS (ts:TS) (us:US):Prop:=∀ (A:Addr→Prop) (ι:List Addr) (σ:St) (H:Hp) (ρ:UEnv) (M:MM) (D:Ends) (E:UEnds),Wd A ι H M→EnvR A ι H σ ρ→EndsR A ι H E D→us E ρ M→ts D σ H
variable {ts ts':TS} {us us':US}
def uNext:US:=fun E ρ M => E.nx ρ M
def uSeq (a b:US):US:=fun E ρ M => a { E with nx:=b E } ρ M
def uDrop (ua:UE):US:=fun E ρ M => ua ρ M fun _ M1 => E.nx ρ M1
def uRet (ua:UE):US:=fun E ρ M => ua ρ M E.rt
def uRetN:US:=fun E ρ M => E.rt (.p .non) M
def uIfS (c:UT) (a b:US):US:=fun E ρ M => c ρ M fun k M1 => if k = true then a E ρ M1 else b E ρ M1
def uAsg (ua:UE) (g:UG):US:=fun E ρ M => ua ρ M fun x M1 => g x ρ M1 E.nx
theorem ls_next:LS vT uNext:=fun A ι σ H ρ M D E w e r q => r.nx ι σ H ρ M (.refl _ _) w e q
theorem ls_seq (ha:LS ts us) (hb:LS ts' us'):LS (tSeq ts ts') (uSeq us us'):=fun A ι σ H ρ M D E w e r q =>
 ha A ι σ H ρ M _ { E with nx:=us' E } w e ⟨fun ι1 σ1 H1 ρ1 M1 l w1 e1 q1 => hb A ι1 σ1 H1 ρ1 M1 D E w1 e1 (r.le l) q1,r.rt,r.bk,r.ct⟩ q
theorem ls_drop (ha:LE ta ua):LS (vU ta) (uDrop ua):=fun A ι σ H ρ M D E w e r q =>
 ha A ι σ H ρ M _ _ w e q fun x M1 ι1 v H1 l1 w1 r1 q1 => r.nx ι1 σ H1 ρ M1 l1 w1 (e.le l1) q1
theorem ls_ret (ha:LE ta ua):LS (tRet ta) (uRet ua):=fun A ι σ H ρ M D E w e r q =>
 ha A ι σ H ρ M _ _ w e q fun x M1 ι1 v H1 l1 w1 r1 q1 => r.rt ι1 v H1 x M1 l1 w1 r1 q1
theorem ls_if (hc:LT tt ut) (ha:LS ts us) (hb:LS ts' us'):LS (tIfS tt ts ts') (uIfS ut us us'):=fun A ι σ H ρ M D E w e r q =>
 hc A ι σ H ρ M _ _ w e q fun c M1 ι1 H1 l1 w1 q1 => by
  cases c with
  | true => exact ha A ι1 σ H1 ρ M1 D E w1 (e.le l1) (r.le l1) q1
  | false => exact hb A ι1 σ H1 ρ M1 D E w1 (e.le l1) (r.le l1) q1
theorem ls_asg {g:TG} {ug:UG} (ha:LE ta ua) (hg:LG g ug):LS (tAsg ta g) (uAsg ua ug):=fun A ι σ H ρ M D E w e r q =>
 ha A ι σ H ρ M _ _ w e q fun x M1 ι1 v H1 l1 w1 r1 q1 => hg A ι1 σ H1 ρ M1 v x _ _ w1 (e.le l1) r1 q1 fun ρ2 M2 ι2 σ2 H2 l2 w2 e2 q2 => r.nx ι2 σ2 H2 ρ2 M2 (l1.trans l2) w2 e2 q2
def UFor (it:UIt) (ug:UG) (ub:US) (E:UEnds) (ρ:UEnv) (M1:MM):Prop:=∃ Iv:Nat→UEnv→MM→Prop,Iv 0 ρ M1 ∧
 (∀ i ρ2 M2,i < it.n→Iv i ρ2 M2→it.ok M2∧∀ u,it.item i u→ug u ρ2 M2 fun ρ3 M3 => ub { E with nx:=Iv (i + 1),ct:=Iv (i + 1),bk:=E.nx } ρ3 M3) ∧
 (∀ ρ2 M2,Iv it.n ρ2 M2→it.ok M2∧E.nx ρ2 M2)
def uFor (ui:UI) (ug:UG) (ub:US):US:=fun E ρ M => ui ρ M fun it M1 => UFor it ug ub E ρ M1
theorem ls_for {wi:TI} {ui:UI} {g:TG} {ug:UG} (hi:LI wi ui) (hg:LG g ug) (hb:LS ts us):LS (tFor wi g ts) (uFor ui ug us):=by
 intro A ι σ H ρ M D E w e r q
 refine hi A ι σ H ρ M _ _ w e q fun it M1 ι1 J H1 l1 w1 hJ q1 => ?_
 obtain ⟨Iv,I0,It,Id⟩:=q1
 have r1:=r.le l1
 refine ⟨fun i m σ2 H2 => m = it.n - i∧i≤it.n∧∃ ι2 ρ2 M2,Le ι1 H1 ι2 H2∧Wd A ι2 H2 M2∧EnvR A ι2 H2 σ2 ρ2∧Iv i ρ2 M2,⟨it.n,by simp,Nat.zero_le _,ι1,ρ,M1, .refl _ _,w1,e.le l1,I0⟩, ?_⟩
 rintro i m σ2 H2 ⟨rfl,hin,ι2,ρ2,M2,l2,w2,e2,I2⟩
 by_cases hlt:i < it.n
 ·obtain ⟨ok,step⟩:=It i ρ2 M2 hlt I2
  obtain ⟨jgo,jy⟩:=(hJ A ι2 H2 M2 i l2.lea w2 ok).1 hlt
  refine .inr ⟨jgo,fun σ' H' => ∃ ι2 ρ2 M2,Le ι1 H1 ι2 H'∧Wd A ι2 H' M2∧EnvR A ι2 H' σ' ρ2∧Iv (i + 1) ρ2 M2,fun σ' H' h => ⟨it.n - (i + 1),by omega,rfl,hlt,h⟩,fun x H3 y => ?_⟩
  obtain ⟨u,hu,l3,w3,r3⟩:=jy x H3 y
  refine hg A ι2 σ2 H3 ρ2 M2 x u _ _ w3 (e2.le l3) r3 (step u hu) fun ρ4 M4 ι4 σ4 H4 l4 w4 e4 q4 => ?_
  have l14:=(l2.trans l3).trans l4
  exact hb A ι4 σ4 H4 ρ4 M4 _ { E with nx:=Iv (i + 1),ct:=Iv (i + 1),bk:=E.nx } w4 e4 ⟨fun ι5 σ5 H5 ρ5 M5 l5 w5 e5 q5 => ⟨ι5,ρ5,M5,l14.trans l5,w5,e5,q5⟩,(r1.le l14).rt,(r1.le l14).nx,fun ι5 σ5 H5 ρ5 M5 l5 w5 e5 q5 => ⟨ι5,ρ5,M5,l14.trans l5,w5,e5,q5⟩⟩ q4
 ·have ei:i = it.n:=by omega
  subst ei
  obtain ⟨ok,fin⟩:=Id ρ2 M2 I2
  exact .inl ⟨(hJ A ι2 H2 M2 _ l2.lea w2 ok).2 rfl,r1.nx ι2 σ2 H2 ρ2 M2 l2 w2 e2 fin⟩
def MeL (r:V→List V→Hp→VK→Prop) (s:List U→List U→(U→List U→Prop)→Prop):Prop:=∀ (A:Addr→Prop) (ι:List Addr) (H:Hp) (M:MM) (k:Nat) (a:Addr) (xs ys:List V) (us ws:List U) (Qs:U→List U→Prop) (Q:VK),Wd A ι H M→ι[k]? = some a→H a = some (.lst xs)→M[k]? = some (.lst us)→RepUs A ι H xs us→RepUs A ι H ys ws→s us ws Qs →
 (∀ z us' v xs',RepUs A ι H xs' us'→RepU A ι H v z→Qs z us'→Q v (upd H a (.lst xs')))→r (.ref a) ys H Q
def uMe (s:List U→List U→(U→List U→Prop)→Prop) (uo:UE) (ul:UA):UE:=fun ρ M Q => uo ρ M fun o M1 => ∃ k,o = .m k∧(∃ zs,M1[k]? = some (.lst zs))∧ul ρ M1 fun ws M2 => ∃ us,M2[k]? = some (.lst us)∧s us ws fun z us' => Q z (M2.set k (.lst us'))
theorem le_me {r:V→List V→Hp→VK→Prop} {s:List U→List U→(U→List U→Prop)→Prop} (h:MeL r s) (ha:LE ta ua) (hl:LA n tl ul):LE (tLM r ta tl) (uMe s ua ul):=fun A ι σ H ρ M Qu Q w e q k =>
 ha A ι σ H ρ M _ _ w e q fun o M1 ι1 v H1 l1 w1 r1 ⟨kk,eo,⟨zs,hz⟩,q1⟩ => by
  subst eo
  cases r1 with
  | m ek =>
  rename_i a
  obtain ⟨xs1,h1,_⟩:=w1.obj kk a _ ek hz
  refine ⟨a,xs1,rfl,h1,hl A ι1 σ H1 ρ M1 _ _ w1 (e.le l1) q1 fun ws M2 ι2 ys H2 l2 w2 hn r2 q2 => ?_⟩
  obtain ⟨us,hus,q2⟩:=q2
  have ek2:ι2[kk]? = some a:=by
   obtain ⟨nn,rfl,_⟩:=l2.ext
   rw [List.getElem?_append_left (List.getElem?_eq_some_iff.mp ek).1]; exact ek
  obtain ⟨xs2,h3,h4⟩:=w2.obj kk a _ ek2 hus
  have hm:=List.mem_of_getElem? ek2
  exact h A ι2 H2 M2 kk a xs2 ys us ws _ Q w2 ek2 h3 hus h4 r2 q2 fun z us' zv xs' rx rz qz => k z _ ι2 zv _ ((l1.trans l2).trans (.put hm)) (w2.put (mo:=.lst us') ek2 ⟨xs',upd_same,RepUs.le (.put hm) rx⟩) (rz.le (.put hm)) qz
def Jd:List U→List U→(U→List U→Prop)→Prop:=fun us ws Q => ∃ y,ws = [y]∧us.length < sizeLine∧Q (.p .non) (us ++ [y])
theorem jQ:MeL VG Jd:=fun A ι H M k a xs ys us ws Qs Q w ek h1 h2 rx ry ⟨y,ey,hz,q⟩ kk => by
 subst ey
 cases ry with
 | cons r q' =>
 cases q'
 exact ⟨a,xs,_,rfl,rfl,h1,by rw [rx.len]; exact hz,kk _ _ _ _ (rx.app (.cons r .nil)) (.p .non) q⟩
def spU (G:List U→MM→UK→Prop):Sp:=fun vs H Q _ => ∃ A ι M us Qu,Wd A ι H M∧RepUs A ι H vs us∧G us M Qu∧∀ u M' ι' v H',Le ι H ι' H'→Wd A ι' H' M'→RepU A ι' H' v u→Qu u M'→Q v H'
def uCall (G:List U→MM→UK→Prop) (ul:UA):UE:=fun ρ M Q => ul ρ M fun us M1 => G us M1 Q
theorem le_callU {G:List U→MM→UK→Prop} {E:XK} (ha:LA n tl ul):LE (vL (spU G) [] E tl) (uCall G ul):=fun A ι σ H ρ M Qu Q w e q k =>
 ha A ι σ H ρ M _ _ w e q fun us M1 ι1 vs H1 l1 w1 hn r1 q1 => by
  rw [List.append_nil]
  exact ⟨A,ι1,M1,us,_,w1,r1,q1,fun u M2 ι2 v H2 l2 w2 r2 q2 => k u M2 ι2 v H2 (l1.trans l2) w2 r2 q2⟩
def spP (G:List T→(T→Prop)→Prop):Sp:=fun vs H Q _ => ∃ A ts Qt,(∀ x,A x→H x≠none)∧RepTs A H vs ts∧G ts Qt∧∀ t v H',Same H H'→RepT A H' v t→Qt t→Q v H'
def XY (G:List T→(T→Prop)→Prop) (ul:UA):UE:=fun ρ M Q => ul ρ M fun us M1 => ∃ ts,zJ us = some ts∧G ts fun t => Q (.p t) M1
def uCallS (G:List T→(T→Prop)→Prop) (ul:UA):UE:=fun ρ M Q => ul ρ M fun us M1 => ∃ ts,sns M1 us = some ts∧G ts fun t => (∃ x,vt t = some x)∧Q (.p t) M1
theorem Same.le (s:Same H H'):Le ι H ι H':=⟨⟨[],by simp,by simp⟩,fun x o e _ => s x o e,fun x e => by
 cases q:H x with
 | none => exact absurd q e
 | some o => rw [s x o q]; simp⟩
theorem Wd.same (w:Wd A ι H M) (s:Same H H'):Wd A ι H' M :=
 ⟨w.nd,w.len,fun x hx => (Same.le (ι:=ι) s).al x (w.dom x hx),w.na,fun k a ob e1 e2 => (w.obj k a ob e1 e2).le' s.le (by
  obtain ⟨o,ho⟩:=(w.obj k a ob e1 e2).some
  rw [ho,s _ _ ho]) fun x ex => by rw [ex,s _ _ ex]⟩
theorem Wd.domAv (w:Wd A ι H M):∀ x,Av A ι x→H x≠none:=fun x h => by
 rcases h with h | h
 ·exact w.dom x h
 ·obtain ⟨o,ho⟩:=w.mem_some h
  rw [ho]; simp
theorem le_callP {G:List T→(T→Prop)→Prop} {E:XK} (ha:LA n tl ul):LE (vL (spP G) [] E tl) (XY G ul):=fun A ι σ H ρ M Qu Q w e q k =>
 ha A ι σ H ρ M _ _ w e q fun us M1 ι1 vs H1 l1 w1 hn r1 ⟨ts,et,q1⟩ => by
  rw [List.append_nil]
  rw [xj et] at r1
  exact ⟨Av A ι1,ts,_,w1.domAv,r1.pures,q1,fun t v H2 s r2 q2 => k _ M1 ι1 v H2 (l1.trans s.le) (w1.same s) (.p r2) q2⟩
def frzs (f:U→Option T):List U→Option (List T)
 | [] => some []
 | u :: r => match f u,frzs f r with
  | some t,some ts => some (t :: ts)
  | _,_ => none
def frzN:Nat→MM→U→Option T
 | _,_, .p t => some t
 | 0,_, .m _ => none
 | _,_, .x _ _ _ => none
 | n + 1,M, .m k => match M[k]? with
  | some (.lst us) => (frzs (frzN n M) us).map T.lst
  | some (.tup us) => (frzs (frzN n M) us).map T.tup
  | _ => none
theorem ZR {f:U→Option T} {vs:List V} {us:List U} {ts:List T} (r:RepUs A ι H vs us) (h:∀ v u t,RepU A ι H v u→f u = some t→RepT A H v t) (e:frzs f us = some ts):RepTs A H vs ts:=by
 induction r generalizing ts with
 | nil => simp [frzs] at e; subst e; exact .nil
 | cons r q ih =>
  simp only [frzs] at e
  split at e
  ·rename_i h1 h2
   simp at e; subst e
   exact .cons (h _ _ _ r h1) (ih h2)
  ·cases e
theorem kA (w:Wd A ι H M):∀ {n:Nat} {v:V} {u:U} {t:T},RepU A ι H v u→frzN n M u = some t→RepT A H v t
 | n,v, .p t',t, .p r,e => by
  cases n <;> simp [frzN] at e <;> subst e <;> exact r.mono fun x o hx ex => ⟨ex,fun z => hx (.inl z)⟩
 | 0,v, .m k,t,r,e => by simp [frzN] at e
 | n,v, .x a d q,t,r,e => by cases n <;> simp [frzN] at e
 | n + 1,v, .m k,t,r,e => by
  cases r with
  | m q =>
  obtain ⟨o,h1,h2⟩:=w.al q
  have hna:=w.na _ (List.mem_of_getElem? q)
  simp only [frzN,h1] at e
  cases o with
  | lst us =>
   simp at e
   obtain ⟨ts,e1,rfl⟩:=e
   obtain ⟨vs,h3,h4⟩:=h2
   exact .lstP hna h3 (ZR h4 (fun v u t r e => kA w r e) e1)
  | tup us =>
   simp at e
   obtain ⟨ts,e1,rfl⟩:=e
   obtain ⟨vs,h3,h4⟩:=h2
   exact .tupP hna h3 (ZR h4 (fun v u t r e => kA w r e) e1)
  | ins => simp at e
  | dK => simp at e
@[simp] theorem frzN_p {n:Nat} {M:MM} {t:T}:frzN n M (.p t) = some t:=by cases n <;> rfl
def xP (N:List Str) (us:List U):UEnv:=us.map some ++ List.replicate (N.length - us.length) none
theorem jc {N:List Str} {vs:List V} {us:List U} (r:RepUs A ι H vs us):EnvR A ι H (start N vs) (xP N us):=by
 unfold start xP
 refine Paired.app ?_ ?_
 ·exact Paired.mapR (f:=some) (F:=fun s u => ∃ v,s = some v∧RepU A ι H v u) (fun a b q u e => by cases e; exact q) (by
   induction r with
   | nil => exact .nil
   | cons r q ih => exact .cons ⟨_,rfl,r⟩ ih)
 ·rw [r.len]
  generalize N.length - us.length = m
  induction m with
  | zero => exact .nil
  | succ m ih => exact .cons (fun u e => by cases e) ih
end
section
variable {P:Program} {w:World} {K:PySem.W.Frag} {mg:Str→Option Value} {base:Heap}
theorem Fun.okU {x qual:Str} {st:Stmt} {f:Addr} {fd:FuncData} {N ps:List Str} {k:Nat} {G:List U→MM→UK→Prop} (F:Fun K x qual st f fd) (S:FnScope N ps (qc st)) (len:∀ us M Qu,G us M Qu→us.length = ps.length)
  (hbody:∀ (cdv:Value) (A:Around) (outer:List Env) (s:Shared) (H:Hp) (E:XK),Room k (A.deeper (envOfC qual (qc st) s.heap.objs.size f cdv)) →
   ∃ t,PSs (cxOf CX0 P w K mg base N qual (qc st) f cdv A outer s H E).nox (qg st) t∧∃ u,LS t u∧∀ us M Qu,G us M Qu→u { nx:=fun _ M' => Qu (.p .non) M',rt:=Qu } (xP N us) M):FnOk P w K mg base CX0 (k + 1) f fd ps (spU G):=by
 refine F.ok S (fun vs H Q E h => ?_) (fun cdv A outer s H vs Q E hr h => ?_)
 ·obtain ⟨A,ι,M,us,Qu,w1,r,g,_⟩:=h
  rw [r.len]; exact len us M Qu g
 ·obtain ⟨B,ι,M,us,Qu,w1,r,g,kk⟩:=h
  obtain ⟨t,ht,u,hu,hb⟩:=hbody cdv A outer s H E hr
  refine ⟨t,ht,hu B ι _ H _ M _ { nx:=fun _ M' => Qu (.p .non) M',rt:=Qu } w1 (jc r) ⟨fun ι1 σ1 H1 ρ1 M1 l1 w1 e1 q1 => kk _ M1 ι1 _ H1 l1 w1 (.p .non) q1,fun ι1 v H1 z M1 l1 w1 r1 q1 => kk z M1 ι1 v H1 l1 w1 r1 q1,fun _ _ _ _ _ _ _ _ q => q.elim,fun _ _ _ _ _ _ _ _ q => q.elim⟩ (hb us M Qu g)⟩
theorem Fun.okP {x qual:Str} {st:Stmt} {f:Addr} {fd:FuncData} {N ps:List Str} {k:Nat} {G:List T→(T→Prop)→Prop} (F:Fun K x qual st f fd) (S:FnScope N ps (qc st)) (len:∀ ts Qt,G ts Qt→ts.length = ps.length)
  (hbody:∀ (cdv:Value) (A:Around) (outer:List Env) (s:Shared) (H:Hp) (E:XK),Room k (A.deeper (envOfC qual (qc st) s.heap.objs.size f cdv)) →
   ∃ t,PSs (cxOf CX0 P w K mg base N qual (qc st) f cdv A outer s H E).nox (qg st) t∧∃ u,LS t u∧∀ ts Qt,G ts Qt→u { nx:=fun _ _ => Qt .non,rt:=fun z M' => ∃ t,frzN 4 M' z = some t∧Qt t } (xP N (ts.map U.p)) []):FnOk P w K mg base CX0 (k + 1) f fd ps (spP G):=by
 refine F.ok S (fun vs H Q E h => ?_) (fun cdv A outer s H vs Q E hr h => ?_)
 ·obtain ⟨A,ts,Qt,hd,r,g,_⟩:=h
  rw [r.len]; exact len ts Qt g
 ·obtain ⟨B,ts,Qt,hd,r,g,kk⟩:=h
  obtain ⟨t,ht,u,hu,hb⟩:=hbody cdv A outer s H E hr
  have w0:Wd B [] H []:=⟨List.nodup_nil,rfl,hd,fun x hx => by simp at hx,fun k a o e _ => by simp at e⟩
  have same:∀ {ι1:List Addr} {H1:Hp},Le [] H ι1 H1→Same H H1:=fun l b o e => l.fr b o e (by simp)
  have r0:RepUs B [] H vs (ts.map U.p):=RepTs.ups (Paired.mapP r fun _ _ q => q.mono fun x o hx ex => ⟨ex,fun z => z.elim hx (by simp)⟩)
  refine ⟨t,ht,hu B [] _ H _ [] _ { nx:=fun _ _ => Qt .non,rt:=fun z M' => ∃ t,frzN 4 M' z = some t∧Qt t } w0 (jc r0) ⟨fun ι1 σ1 H1 ρ1 M1 l1 w1 e1 q1 => kk _ _ H1 (same l1) .non q1,fun ι1 v H1 z M1 l1 w1 r1 ⟨t1,et,q1⟩ => kk t1 v H1 (same l1) (kA w1 r1 et) q1,fun _ _ _ _ _ _ _ _ q => q.elim,fun _ _ _ _ _ _ _ _ q => q.elim⟩ (hb ts Qt g)⟩
end
section
variable {ua ub:UE} {ut:UT} {ul:UA} {us us':US} {n:Nat} {M M1:MM} {u:U} {t:T} {ρ:UEnv} {Q:UK} {QB:Bool→MM→Prop} {E:UEnds} {ug:UG}
def OpS (s:T→T→(T→Prop)→Prop) (M:MM) (x y:U) (Q:UK):Prop:=∃ a b,sn M x = some a∧sn M y = some b∧s a b fun t => Q (.p t) M
theorem rd_op {s:T→T→(T→Prop)→Prop}:uOp s ua ub ρ M Q = ua ρ M fun x M1 => ub ρ M1 fun y M2 => OpS s M2 x y Q:=rfl
theorem rd_opS {s:T→T→(T→Prop)→Prop} {a b:T}:OpS s M (.p a) (.p b) Q = s a b fun t => Q (.p t) M :=
 propext ⟨fun ⟨_,_,e1,e2,h⟩ => by cases e1; cases e2; exact h,fun h => ⟨a,b,rfl,rfl,h⟩⟩
theorem rd_sI {C:Int→Int→Prop} {g:Int→Int→T} {i j:Int} {Q:T→Prop}:sI C g (.int i) (.int j) Q = (C i j∧Q (g i j)) :=
 propext ⟨fun ⟨_,_,e1,e2,h⟩ => by cases e1; cases e2; exact h,fun h => ⟨i,j,rfl,rfl,h⟩⟩
theorem rd_sI0 {g:Int→Int→T} {i j:Int} {Q:T→Prop}:sI0 g (.int i) (.int j) Q = Q (g i j) :=
 propext ⟨fun ⟨_,_,e1,e2,h⟩ => by cases e1; cases e2; exact h,fun h => ⟨i,j,rfl,rfl,h⟩⟩
theorem rd_eqI {i j:Int} {Q:T→Prop}:sEq false (.int i) (.int j) Q = Q (.bl (decide (i = j))):=by
 refine propext ⟨fun ⟨x,y,e1,e2,_,h⟩ => ?_,fun h => ⟨_,_,rfl,rfl,rfl, ?_⟩⟩
 ·simp [vt] at e1 e2; subst e1 e2; simpa using h
 ·simpa using h
theorem rd_neI {i j:Int} {Q:T→Prop}:sEq true (.int i) (.int j) Q = Q (.bl (!decide (i = j))):=by
 refine propext ⟨fun ⟨x,y,e1,e2,_,h⟩ => ?_,fun h => ⟨_,_,rfl,rfl,rfl, ?_⟩⟩
 ·simp [vt] at e1 e2; subst e1 e2; simpa using h
 ·simpa using h
theorem rd_eqS {i j:Str} {Q:T→Prop}:sEq false (.str i) (.str j) Q = Q (.bl (decide (i = j))):=by
 refine propext ⟨fun ⟨x,y,e1,e2,_,h⟩ => ?_,fun h => ⟨_,_,rfl,rfl,rfl, ?_⟩⟩
 ·simp [vt] at e1 e2; subst e1 e2; simpa using h
 ·simpa using h
theorem rd_neS {i j:Str} {Q:T→Prop}:sEq true (.str i) (.str j) Q = Q (.bl (!decide (i = j))):=by
 refine propext ⟨fun ⟨x,y,e1,e2,_,h⟩ => ?_,fun h => ⟨_,_,rfl,rfl,rfl, ?_⟩⟩
 ·simp [vt] at e1 e2; subst e1 e2; simpa using h
 ·simpa using h
theorem rd_eqB {i j:Bool} {Q:T→Prop}:sEq false (.bl i) (.bl j) Q = Q (.bl (decide (i = j))):=by
 refine propext ⟨fun ⟨x,y,e1,e2,_,h⟩ => ?_,fun h => ⟨_,_,rfl,rfl,rfl, ?_⟩⟩
 ·simp [vt] at e1 e2; subst e1 e2; simpa using h
 ·simpa using h
theorem rd_neB {i j:Bool} {Q:T→Prop}:sEq true (.bl i) (.bl j) Q = Q (.bl (!decide (i = j))):=by
 refine propext ⟨fun ⟨x,y,e1,e2,_,h⟩ => ?_,fun h => ⟨_,_,rfl,rfl,rfl, ?_⟩⟩
 ·simp [vt] at e1 e2; subst e1 e2; simpa using h
 ·simpa using h
def VarS (o:Option (Option U)) (M:MM) (Q:UK):Prop:=∃ u,o = some (some u)∧Q u M
theorem rd_var {i:Nat}:uVar i ρ M Q = VarS ρ[i]? M Q:=rfl
theorem rd_varS:VarS (some (some u)) M Q = Q u M:=propext ⟨fun ⟨_,e,h⟩ => by cases e; exact h,fun h => ⟨u,rfl,h⟩⟩
def IntS (x:U) (R:Int→Prop):Prop:=∃ i,x = .p (.int i)∧R i
theorem rd_intS {i:Int} {R:Int→Prop}:IntS (.p (.int i)) R = R i:=propext ⟨fun ⟨_,e,h⟩ => by cases e; exact h,fun h => ⟨i,rfl,h⟩⟩
def BlS (x:U) (R:Bool→Prop):Prop:=∃ b,x = .p (.bl b)∧R b
theorem rd_blS {b:Bool} {R:Bool→Prop}:BlS (.p (.bl b)) R = R b:=propext ⟨fun ⟨_,e,h⟩ => by cases e; exact h,fun h => ⟨b,rfl,h⟩⟩
theorem rd_b:uB ua ρ M QB = ua ρ M fun x M1 => BlS x fun b => QB b M1:=rfl
theorem rd_andV:uAndV ua ub ρ M Q = ua ρ M fun x M1 => BlS x fun c => if c = true then ub ρ M1 Q else Q (.p (.bl false)) M1:=rfl
theorem rd_orV:uOrV ua ub ρ M Q = ua ρ M fun x M1 => BlS x fun c => if c = true then Q (.p (.bl true)) M1 else ub ρ M1 Q:=rfl
theorem rd_notV:uNotV ua ρ M Q = ua ρ M fun x M1 => BlS x fun c => Q (.p (.bl (!c))) M1:=rfl
def PurS (us:List U) (R:List T→Prop):Prop:=∃ ts,zJ us = some ts∧R ts
theorem Ji {ts:List T} {R:List T→Prop}:PurS (ts.map U.p) R = R ts:=propext ⟨fun ⟨_,e,h⟩ => by rw [xG] at e; cases e; exact h,fun h => ⟨ts,xG ts,h⟩⟩
theorem rd_pur0 {R:List T→Prop}:PurS [] R = R []:=Ji (ts:=[])
theorem rd_purC {a:T} {us:List U} {R:List T→Prop}:PurS (.p a :: us) R = PurS us fun ts => R (a :: ts):=by
 refine propext ⟨fun ⟨ts,e,h⟩ => ?_,fun ⟨ts,e,h⟩ => ⟨a :: ts,by simp [zJ,e],h⟩⟩
 simp [zJ] at e
 obtain ⟨r,e1,rfl⟩:=e
 exact ⟨r,e1,h⟩
theorem rd_tup:uTup ul ρ M Q = ul ρ M fun us M1 => PurS us fun ts => Q (.p (.tup ts)) M1:=rfl
theorem rd_lst:uLst ul ρ M Q = ul ρ M fun us M1 => PurS us fun ts => Q (.p (.lst ts)) M1:=rfl
def IxS (it:MM→U→Option (List U)) (M:MM) (x y:U) (Q:UK):Prop:=∃ us i z,it M x = some us∧y = .p (.int i)∧atI us i = some z∧Q z M
theorem rd_ix {it:MM→U→Option (List U)}:uIx it ua ub ρ M Q = ua ρ M fun x M1 => ub ρ M1 fun y M2 => IxS it M2 x y Q:=rfl
theorem j3 {it:MM→U→Option (List U)} {x:U} {us:List U} {i:Int} {z:U} (h1:it M x = some us) (h2:atI us i = some z) (q:Q z M):IxS it M x (.p (.int i)) Q:=⟨us,i,z,h1,rfl,h2,q⟩
theorem KI {ts:List T} {i:Int} {t:T} (h:atI ts i = some t):atI (ts.map U.p) i = some (.p t):=by
 unfold atI at h ⊢
 rw [List.length_map]
 cases e:ixN ts.length i with
 | none => rw [e] at h; cases h
 | some j => rw [e] at h; simp at h ⊢; rw [h]
theorem jp {ts:List T} {i:Int} {t:T} (h:atI ts i = some t) (q:Q (.p t) M):IxS vf M (.p (.lst ts)) (.p (.int i)) Q:=j3 rfl (KI h) q
theorem zD {ts:List T} {i:Int} {t:T} (h:atI ts i = some t) (q:Q (.p t) M):IxS zK M (.p (.tup ts)) (.p (.int i)) Q:=j3 rfl (KI h) q
def SnsS (M:MM) (us:List U) (R:List T→Prop):Prop:=∃ ts,sns M us = some ts∧R ts
theorem rd_sns0 {R:List T→Prop}:SnsS M [] R = R []:=propext ⟨fun ⟨_,e,h⟩ => by cases e; exact h,fun h => ⟨[],rfl,h⟩⟩
theorem rd_snsC {a:T} {us:List U} {R:List T→Prop}:SnsS M (.p a :: us) R = SnsS M us fun ts => R (a :: ts):=by
 refine propext ⟨fun ⟨ts,e,h⟩ => ?_,fun ⟨ts,e,h⟩ => ⟨a :: ts,by simp [sns,sn,e],h⟩⟩
 simp only [sns,sn] at e
 cases q:sns M us with
 | none => rw [q] at e; cases e
 | some r => rw [q] at e; simp at e; subst e; exact ⟨r,q,h⟩
theorem rd_cb {s:List T→(T→Prop)→Prop}:uCb s ul ρ M Q = ul ρ M fun us M1 => SnsS M1 us fun ts => s ts fun t => Q (.p t) M1:=rfl
theorem rd_int' {i:Int} {Q:T→Prop}:sInt [.int i] Q = Q (.int i):=by
 refine propext ⟨fun h => ?_,fun h => Or.inl ⟨i,rfl,h⟩⟩
 rcases h with ⟨_,e,h⟩ | ⟨_,e,h⟩
 ·cases e; exact h
 ·cases e
theorem rd_intB {k:Bool} {Q:T→Prop}:sInt [.bl k] Q = Q (.int (if k then 1 else 0)):=by
 refine propext ⟨fun h => ?_,fun h => Or.inr ⟨k,rfl,h⟩⟩
 rcases h with ⟨_,e,h⟩ | ⟨_,e,h⟩
 ·cases e
 ·cases e; exact h
def LenS (it:MM→U→Option (List U)) (M:MM) (us:List U) (Q:UK):Prop:=∃ x ys,us = [x]∧it M x = some ys∧Q (.p (.int ys.length)) M
theorem rd_len {it:MM→U→Option (List U)}:uLen it ul ρ M Q = ul ρ M fun us M1 => LenS it M1 us Q:=rfl
theorem rd_lenP {ts:List T}:LenS vf M [.p (.lst ts)] Q = Q (.p (.int ts.length)) M :=
 propext ⟨fun ⟨_,_,e1,e2,h⟩ => by cases e1; cases e2; rw [List.length_map] at h; exact h,fun h => ⟨_,_,rfl,rfl,by rw [List.length_map]; exact h⟩⟩
theorem VS {k:Nat} {us:List U} (e:M[k]? = some (.lst us)) (h:Q (.p (.int us.length)) M):LenS vf M [.m k] Q:=⟨_,_,rfl,by simp [vf,e],h⟩
def SlS (M:MM) (x:U) (l h:Option Int) (Q:UK):Prop:=∃ ts,sn M x = some (.lst ts)∧Q (.p (.lst (cutT ts l h))) M
theorem rd_cat {xs ys:List T} {Q:T→Prop}:sCat (.lst xs) (.lst ys) Q = (xs.length + ys.length≤sizeLine∧Q (.lst (xs ++ ys))):=propext ⟨fun ⟨_,_,e1,e2,h⟩ => by cases e1; cases e2; exact h,fun h => ⟨xs,ys,rfl,rfl,h⟩⟩
def itU (x:U) (us:List U):UIt:=⟨us.length,fun M => vf M x = some us,fun i z => us[i]? = some z⟩
def IterS (M:MM) (x:U) (R:UIt→MM→Prop):Prop:=∃ us,vf M x = some us∧R (itU x us) M
theorem rd_iter {R:UIt→MM→Prop}:uIter ua ρ M R = ua ρ M fun x M1 => IterS M1 x R:=rfl
theorem rd_iterP {ts:List T} {R:UIt→MM→Prop}:IterS M (.p (.lst ts)) R = R (itU (.p (.lst ts)) (ts.map U.p)) M:=propext ⟨fun ⟨_,e,h⟩ => by cases e; exact h,fun h => ⟨_,rfl,h⟩⟩
theorem J6 {k:Nat} {us:List U} {R:UIt→MM→Prop} (e:M[k]? = some (.lst us)) (h:R (itU (.m k) us) M):IterS M (.m k) R:=⟨us,by simp [vf,e],h⟩
def itR0 (n:Nat):UIt:=⟨n,fun _ => True,fun i z => z = .p (.int i)⟩
def RngS (us:List U) (M:MM) (R:UIt→MM→Prop):Prop:=∃ j:Int,us = [.p (.int j)] ∧ -(2 ^ 62)≤j∧j < 2 ^ 62∧R (itR0 j.toNat) M
theorem rd_rng1 {R:UIt→MM→Prop}:uRng1 ul ρ M R = ul ρ M fun us M1 => RngS us M1 R:=rfl
theorem Jg {j:Int} {R:UIt→MM→Prop} (h1 : -(2 ^ 62)≤j) (h2:j < 2 ^ 62) (q:R (itR0 j.toNat) M):RngS [.p (.int j)] M R:=⟨j,rfl,h1,h2,q⟩
theorem QN {ts:List T} {ub:US} (Iv:Nat→UEnv→MM→Prop) (h0:Iv 0 ρ M) (hs:∀ i t ρ2 M2,ts[i]? = some t→Iv i ρ2 M2→ug (.p t) ρ2 M2 fun ρ3 M3 => ub { E with nx:=Iv (i + 1),ct:=Iv (i + 1),bk:=E.nx } ρ3 M3) (hd:∀ ρ2 M2,Iv ts.length ρ2 M2→E.nx ρ2 M2):UFor (itU (.p (.lst ts)) (ts.map U.p)) ug ub E ρ M:=by
 refine ⟨Iv,h0,fun i ρ2 M2 hi h => ⟨rfl,fun u hu => ?_⟩,fun ρ2 M2 h => ⟨rfl,hd ρ2 M2 (by simpa [itU] using h)⟩⟩
 have hu:(ts.map U.p)[i]? = some u:=hu
 rw [List.getElem?_map] at hu
 cases e:ts[i]? with
 | none => rw [e] at hu; cases hu
 | some t => rw [e] at hu; cases hu; exact hs i t ρ2 M2 e h
theorem Qe {m:Nat} {ub:US} (Iv:Nat→UEnv→MM→Prop) (h0:Iv 0 ρ M) (hs:∀ (i:Nat) ρ2 M2,i < m→Iv i ρ2 M2→ug (.p (.int i)) ρ2 M2 fun ρ3 M3 => ub { E with nx:=Iv (i + 1),ct:=Iv (i + 1),bk:=E.nx } ρ3 M3) (hd:∀ ρ2 M2,Iv m ρ2 M2→E.nx ρ2 M2):UFor (itR0 m) ug ub E ρ M :=
 ⟨Iv,h0,fun i ρ2 M2 hi h => ⟨trivial,fun u hu => by cases (show u = _ from hu); exact hs i ρ2 M2 hi h⟩,fun ρ2 M2 h => ⟨trivial,hd ρ2 M2 h⟩⟩
theorem kK {ts:List T} {ρ0:UEnv} (hz:ts.length≤sizeLine) (Iv:Nat→List T→MM→Prop) (h0:Iv 0 [] M) (hs:∀ i t acc M2,ts[i]? = some t→acc.length≤i→Iv i acc M2→ug (.p t) ρ0 M2 fun ρ4 M4 => ut ρ4 M4 fun b M5 => if b = true then ua ρ4 M5 fun z M6 => ∃ t,z = .p t∧Iv (i + 1) (acc ++ [t]) M6 else Iv (i + 1) acc M5) (hd:∀ acc M2,Iv ts.length acc M2→Q (.p (.lst acc)) M2):UComp (itU (.p (.lst ts)) (ts.map U.p)) ug ut ua ρ0 M Q:=by
 refine ⟨by simpa [itU] using hz,Iv,h0,fun i acc M2 hi ha h => ⟨rfl,fun u hu => ?_⟩,fun acc M2 h => ⟨rfl,hd acc M2 (by simpa [itU] using h)⟩⟩
 have hu:(ts.map U.p)[i]? = some u:=hu
 rw [List.getElem?_map] at hu
 cases e:ts[i]? with
 | none => rw [e] at hu; cases hu
 | some t => rw [e] at hu; cases hu; exact hs i t acc M2 e ha h
def T2S (M:MM) (u:U) (R:U→U→Prop):Prop:=∃ a b,zK M u = some [a,b]∧R a b
def T3S (M:MM) (u:U) (R:U→U→U→Prop):Prop:=∃ a b c,zK M u = some [a,b,c]∧R a b c
theorem rd_name2 {i j:Nat} {R:UEnv→MM→Prop}:XV i j u ρ M R = T2S M u fun a b => R ((ρ.set i (some a)).set j (some b)) M:=rfl
theorem rd_name3 {i j k:Nat} {R:UEnv→MM→Prop}:XU i j k u ρ M R = T3S M u fun a b c => R (((ρ.set i (some a)).set j (some b)).set k (some c)) M:=rfl
theorem rd_t2 {a b:T} {R:U→U→Prop}:T2S M (.p (.tup [a,b])) R = R (.p a) (.p b):=propext ⟨fun ⟨_,_,e,h⟩ => by cases e; exact h,fun h => ⟨_,_,rfl,h⟩⟩
theorem rd_t3 {a b c:T} {R:U→U→U→Prop}:T3S M (.p (.tup [a,b,c])) R = R (.p a) (.p b) (.p c):=propext ⟨fun ⟨_,_,_,e,h⟩ => by cases e; exact h,fun h => ⟨_,_,_,rfl,h⟩⟩
theorem rd_callP {G:List T→(T→Prop)→Prop}:XY G ul ρ M Q = ul ρ M fun us M1 => PurS us fun ts => G ts fun t => Q (.p t) M1:=rfl
theorem rd_callS {G:List T→(T→Prop)→Prop}:uCallS G ul ρ M Q = ul ρ M fun us M1 => SnsS M1 us fun ts => G ts fun t => (∃ x,vt t = some x)∧Q (.p t) M1:=rfl
theorem rd_callU {G:List U→MM→UK→Prop}:uCall G ul ρ M Q = ul ρ M fun us M1 => G us M1 Q:=rfl
def MeS (s:List U→List U→(U→List U→Prop)→Prop) (ul:UA) (ρ:UEnv) (M:MM) (o:U) (Q:UK):Prop:=∃ k,o = .m k∧(∃ zs,M[k]? = some (.lst zs))∧ul ρ M fun ws M2 => ∃ us,M2[k]? = some (.lst us)∧s us ws fun z us' => Q z (M2.set k (.lst us'))
theorem rd_me {s:List U→List U→(U→List U→Prop)→Prop}:uMe s ua ul ρ M Q = ua ρ M fun o M1 => MeS s ul ρ M1 o Q:=rfl
theorem Xy {s:List U→List U→(U→List U→Prop)→Prop} {k:Nat} {zs:List U} (e:M[k]? = some (.lst zs)) (h:ul ρ M fun ws M2 => ∃ us,M2[k]? = some (.lst us)∧s us ws fun z us' => Q z (M2.set k (.lst us'))):MeS s ul ρ M (.m k) Q:=⟨k,rfl,⟨zs,e⟩,h⟩
theorem rd_app {us:List U} {y:U} {Q:U→List U→Prop}:Jd us [y] Q = (us.length < sizeLine∧Q (.p .non) (us ++ [y])):=propext ⟨fun ⟨_,e,h⟩ => by cases e; exact h,fun h => ⟨y,rfl,h⟩⟩
theorem ss {α:Type} {a:α} {R:α→Prop}:(∃ x,some a = some x∧R x) = R a:=propext ⟨fun ⟨_,e,h⟩ => by cases e; exact h,fun h => ⟨a,rfl,h⟩⟩
end
inductive EqT:Nat→T→T→Bool→Prop
 | flat {n:Nat} {a b:T} {x y:V}:vt a = some x→vt b = some y→EqT n a b (eqV x y)
 | tup {n:Nat} {xs ys:List T} {e:Nat→Bool}:(∀ (j:Nat) x y,xs[j]? = some x→ys[j]? = some y→EqT n x y (e j))→EqT (n + 1) (.tup xs) (.tup ys) ((List.range (min xs.length ys.length)).all e && xs.length == ys.length)
 | lst {n:Nat} {xs ys:List T} {e:Nat→Bool}:xs.length = ys.length→(∀ (j:Nat) x y,xs[j]? = some x→ys[j]? = some y→EqT n x y (e j))→EqT (n + 1) (.lst xs) (.lst ys) ((List.range xs.length).all e)
 | lstN {n:Nat} {xs ys:List T}:xs.length≠ys.length→EqT (n + 1) (.lst xs) (.lst ys) false
section
variable {A:Addr→Prop} {H:Hp} {ι:List Addr} {M M':MM} {v:V} {u:U} {t:T} {K:PySem.W.Frag} {n:Nat}
theorem RepT.inj {a b:T} (r:RepT A H v a):RepT A H v b→a = b:=by
 induction r generalizing b with
 | non => intro q; cases q; rfl
 | bl => intro q; cases q; rfl
 | int => intro q; cases q; rfl
 | str => intro q; cases q; rfl
 | tup na e l r ih =>
  intro q
  cases q with
  | tup na' e' l' r' =>
   rw [e] at e'; cases e'
   congr 1
   refine List.ext_getElem (by omega) fun i h1 h2 => ?_
   have h3:=h1
   rw [← l] at h3
   exact ih i _ _ (List.getElem?_eq_getElem h3) (List.getElem?_eq_getElem h1) (r' i _ _ (List.getElem?_eq_getElem h3) (List.getElem?_eq_getElem h2))
  | lst na' e' l' r' => rw [e] at e'; cases e'
 | lst na e l r ih =>
  intro q
  cases q with
  | lst na' e' l' r' =>
   rw [e] at e'; cases e'
   congr 1
   refine List.ext_getElem (by omega) fun i h1 h2 => ?_
   have h3:=h1
   rw [← l] at h3
   exact ih i _ _ (List.getElem?_eq_getElem h3) (List.getElem?_eq_getElem h1) (r' i _ _ (List.getElem?_eq_getElem h3) (List.getElem?_eq_getElem h2))
  | tup na' e' l' r' => rw [e] at e'; cases e'
theorem eqV_self:∀ {x:V} {t:T},vt t = some x→eqV x x = true:=fun {x t} h => by cases kJ h <;> simp [eqV]
theorem EqT.self {a b:T} {r:Bool} (h:EqT n a b r):a = b→r = true:=by
 induction h with
 | flat h1 h2 => intro e; subst e; rw [h1] at h2; cases h2; exact eqV_self h1
 | @tup n xs ys e hh ih =>
  intro q
  cases q
  simp only [Nat.min_self,beq_self_eq_true,Bool.and_true,List.all_eq_true,List.mem_range]
  intro j hj
  exact ih j _ _ (List.getElem?_eq_getElem hj) (List.getElem?_eq_getElem hj) rfl
 | @lst n xs ys e hl hh ih =>
  intro q
  cases q
  simp only [List.all_eq_true,List.mem_range]
  intro j hj
  exact ih j _ _ (List.getElem?_eq_getElem hj) (List.getElem?_eq_getElem hj) rfl
 | lstN hl => intro q; cases q; exact absurd rfl hl
theorem EqT.de {a b:T} {r:Bool} (h:EqT n a b r):∀ {x y:V},RepT A H x a→RepT A H y b→DE K H n x y r:=by
 induction h with
 | @flat n a b x0 y0 h1 h2 =>
  intro x y r1 r2
  cases (RepV.of r1).sc (y:=.non) h1; cases (RepV.of r2).sc (y:=.non) h2
  exact .flat (by cases kJ h1 <;> rfl) (by cases kJ h2 <;> rfl)
 | @tup n xs ys e hh ih =>
  intro x y r1 r2
  obtain ⟨p,vs,rfl,_,h1,q1⟩:=r1.tup_inv
  obtain ⟨p2,vs2,rfl,_,h2,q2⟩:=r2.tup_inv
  by_cases hp:p = p2
  ·subst hp
   have:=(EqT.tup (n:=n) hh).self (r1.inj r2)
   rw [this]; exact .same
  ·have:=DE.tup (K:=K) (H:=H) (n:=n) (e:=e) hp (SqT.of h1) (SqT.of h2) fun j x y hx hy => by
    obtain ⟨a,ha,ra⟩:=Paired.getL q1 hx
    obtain ⟨b,hb,rb⟩:=Paired.getL q2 hy
    exact ih j a b ha hb ra rb
   rw [q1.len,q2.len] at this
   exact this
 | @lst n xs ys e hl hh ih =>
  intro x y r1 r2
  obtain ⟨p,vs,rfl,_,h1,q1⟩:=r1.lst_inv
  obtain ⟨p2,vs2,rfl,_,h2,q2⟩:=r2.lst_inv
  by_cases hp:p = p2
  ·subst hp
   have:=(EqT.lst (n:=n) hl hh).self (r1.inj r2)
   rw [this]; exact .same
  ·have:=DE.lst (K:=K) (H:=H) (n:=n) (e:=e) hp (SqL.of h1) (SqL.of h2) (by rw [q1.len,q2.len,hl]) fun j x y hx hy => by
    obtain ⟨a,ha,ra⟩:=Paired.getL q1 hx
    obtain ⟨b,hb,rb⟩:=Paired.getL q2 hy
    exact ih j a b ha hb ra rb
   rw [q1.len] at this
   exact this
 | @lstN n xs ys hl =>
  intro x y r1 r2
  obtain ⟨p,vs,rfl,_,h1,q1⟩:=r1.lst_inv
  obtain ⟨p2,vs2,rfl,_,h2,q2⟩:=r2.lst_inv
  by_cases hp:p = p2
  ·subst hp
   have:=r1.inj r2
   cases this
   exact absurd rfl hl
  ·exact .lstN hp (SqL.of h1) (SqL.of h2) (by rw [q1.len,q2.len]; exact hl)
def sEqL (neg:Bool):T→T→(T→Prop)→Prop:=fun a b Q => ∃ xs ys,a = .lst xs∧b = .lst ys∧((xs.length≠ys.length∧Q (.bl neg))∨(xs.length = ys.length∧∃ e:Nat→Bool,(∀ (j:Nat) x y,xs[j]? = some x→ys[j]? = some y→EqT 20 x y (e j))∧Q (.bl (if neg then !(List.range xs.length).all e else (List.range xs.length).all e))))
theorem Ju:OpL (rNeL K) (sEqL true):=fun A ι H M x y a b Qs Q w r1 r2 ⟨xs,ys,ea,eb,h⟩ k => by
 subst ea eb
 obtain ⟨p,vs,rfl,h1,q1⟩:=r1.lst_inv
 obtain ⟨p2,vs2,rfl,h2,q2⟩:=r2.lst_inv
 refine ⟨p,p2,vs,vs2,rfl,rfl,SqL.of h1,SqL.of h2, ?_⟩
 rcases h with ⟨hl,q⟩ | ⟨hl,e,he,q⟩
 ·exact .inl ⟨by rw [q1.len,q2.len]; exact hl,k _ ι _ H (.refl _ _) w (.bl _) q⟩
 ·refine .inr ⟨by rw [q1.len,q2.len]; exact hl,e,fun j x y hx hy => ?_,by rw [q1.len]; exact k _ ι _ H (.refl _ _) w (.bl _) q⟩
  obtain ⟨a,ha,ra⟩:=Paired.getL q1 hx
  obtain ⟨b,hb,rb⟩:=Paired.getL q2 hy
  exact (he j a b ha hb).de ra rb
abbrev J9 (ns:List Int):T:=.lst (ns.map T.int)
def frzB (b:Nat):Nat→MM→U→Option T
 | _,_, .p t => some t
 | 0,_, .m _ => none
 | _,_, .x _ _ _ => none
 | n + 1,M, .m k => if b≤k then match M[k]? with
  | some (.lst us) => (frzs (frzB b n M) us).map T.lst
  | some (.tup us) => (frzs (frzB b n M) us).map T.tup
  | _ => none else none
@[simp] theorem frzB_p {b n:Nat} {M:MM} {t:T}:frzB b n M (.p t) = some t:=by cases n <;> rfl
theorem Vh {A':Addr→Prop} {f:U→Option T} {vs:List V} {us:List U} {ts:List T} (r:RepUs A ι H vs us) (h:∀ v u t,RepU A ι H v u→f u = some t→RepT A' H v t) (e:frzs f us = some ts):RepTs A' H vs ts:=by
 induction r generalizing ts with
 | nil => simp [frzs] at e; subst e; exact .nil
 | cons r q ih =>
  simp only [frzs] at e
  split at e
  ·rename_i h1 h2
   simp at e; subst e
   exact .cons (h _ _ _ r h1) (ih h2)
  ·cases e
theorem Qz {m:List Addr} (w:Wd A (ι ++ m) H M):∀ {n:Nat} {v:V} {u:U} {t:T},RepU A (ι ++ m) H v u→frzB ι.length n M u = some t→RepT (Av A ι) H v t
 | n,v, .p t',t, .p r,e => by
  rw [frzB_p] at e; cases e
  exact r.mono fun x o hx ex => ⟨ex,fun z => hx (z.elim .inl fun z => .inr (List.mem_append_left _ z))⟩
 | 0,v, .m k,t,r,e => by simp [frzB] at e
 | n,v, .x a d q,t,r,e => by cases n <;> simp [frzB] at e
 | n + 1,v, .m k,t,r,e => by
  cases r with
  | m q =>
  rename_i a
  obtain ⟨o,h1,h2⟩:=w.al q
  simp only [frzB,h1] at e
  split at e
  ·rename_i hk
   have hna:¬ Av A ι a:=fun z => by
    rcases z with z | z
    ·exact w.na _ (List.mem_of_getElem? q) z
    ·rw [List.getElem?_append_right hk] at q
     have hd:=(List.nodup_append.mp w.nd).2.2
     exact hd a z a (List.mem_of_getElem? q) rfl
   cases o with
   | lst us =>
    simp at e
    obtain ⟨ts,e1,rfl⟩:=e
    obtain ⟨vs,h3,h4⟩:=h2
    exact .lstP hna h3 (Vh h4 (fun v u t r e => Qz w r e) e1)
   | tup us =>
    simp at e
    obtain ⟨ts,e1,rfl⟩:=e
    obtain ⟨vs,h3,h4⟩:=h2
    exact .tupP hna h3 (Vh h4 (fun v u t r e => Qz w r e) e1)
   | ins => simp at e
   | dK => simp at e
  ·cases e
def PurO (o:MO):Prop:=∃ ts:List T,o = .lst (ts.map U.p)
def xS (M M':MM):Prop:=∀ (i:Nat) o,i < M.length→M'[i]? = some o→M[i]? = some o∨PurO o
theorem RepU.less {m:List Addr} {v0:V} {H0:Hp} (r:RepU A (ι ++ m) H v u) (r0:RepU A ι H0 v0 u):RepU A ι H v u:=by
 cases r with
 | p r => exact .p (r.mono fun x o hx ex => ⟨ex,fun z => hx (z.elim .inl fun z => .inr (List.mem_append_left _ z))⟩)
 | m e =>
  cases r0 with
  | m e0 =>
   rw [List.getElem?_append_left (List.getElem?_eq_some_iff.mp e0).1] at e
   exact .m e
 | @x a d q h =>
  refine .x ?_
  cases q with
  | none => exact h
  | some n =>
   obtain ⟨x0,e,ni,hx⟩:=h
   exact ⟨x0,e,fun z => ni (List.mem_append_left _ z),hx⟩
theorem zR {α β:Type} {F G L:α→β→Prop} (h:∀ a a0 b,F a b→G a0 b→L a b):∀ {l l0:List α} {r:List β},Paired F l r→Paired G l0 r→Paired L l r
 | _,_,_, .nil, .nil => .nil
 | _,_,_, .cons p q, .cons p0 q0 => .cons (h _ _ _ p p0) (zR h q q0)
theorem ObjR.less {m:List Addr} {a a0:Addr} {o:MO} {H0:Hp} (r:ObjR A (ι ++ m) H a o) (r0:ObjR A ι H0 a0 o):ObjR A ι H a o:=by
 cases o with
 | lst => obtain ⟨vs,e,r⟩:=r; obtain ⟨_,_,r0⟩:=r0; exact ⟨vs,e,zR (fun _ _ _ p q => p.less q) r r0⟩
 | tup => obtain ⟨vs,e,r⟩:=r; obtain ⟨_,_,r0⟩:=r0; exact ⟨vs,e,zR (fun _ _ _ p q => p.less q) r r0⟩
 | ins => obtain ⟨dx,gs,e,ed,nd,r⟩:=r; obtain ⟨_,_,_,_,_,r0⟩:=r0; exact ⟨dx,gs,e,ed,fun z => nd (List.mem_append_left _ z),zR (fun _ _ _ p q => ⟨p.1,p.2.less q.2⟩) r r0⟩
 | dK => obtain ⟨gs,e,r⟩:=r; obtain ⟨_,_,r0⟩:=r0; exact ⟨gs,e,zR (fun _ _ _ p q => ⟨p.1,p.2.less q.2⟩) r r0⟩
theorem Wd.trim {m:List Addr} {H0:Hp} (w:Wd A (ι ++ m) H M') (w0:Wd A ι H0 M) (h:xS M M'):Wd A ι H (M'.take M.length):=by
 have hl:M.length≤M'.length:=by
  have:=w.len; rw [List.length_append,w0.len] at this; omega
 refine ⟨(List.nodup_append.mp w.nd).1,by rw [List.length_take,Nat.min_eq_left hl]; exact w0.len,w.dom,fun x hx => w.na x (List.mem_append_left _ hx),fun k a o e1 e2 => ?_⟩
 have hk:=(List.getElem?_eq_some_iff.mp e1).1
 rw [List.getElem?_take_of_lt (by rw [← w0.len]; exact hk)] at e2
 have r:=w.obj k a o (by rw [List.getElem?_append_left hk]; exact e1) e2
 rcases h k o (by rw [← w0.len]; exact hk) e2 with z | ⟨ts,rfl⟩
 ·exact r.less (w0.obj k a o e1 z)
 ·obtain ⟨vs,e,q⟩:=r
  refine ⟨vs,e, ?_⟩
  have q2:=q.pures
  exact RepTs.ups (Paired.mapP q2 fun _ _ q => q.mono fun x o hx ex => ⟨ex,fun z => hx (z.elim .inl fun z => .inr (List.mem_append_left _ z))⟩)
end
section
variable {P:Program} {w:World} {K:PySem.W.Frag} {mg:Str→Option Value} {base:Heap}
theorem Fun.okV {x qual:Str} {st:Stmt} {f:Addr} {fd:FuncData} {N ps:List Str} {k:Nat} {G:List U→MM→UK→Prop} (F:Fun K x qual st f fd) (S:FnScope N ps (qc st)) (len:∀ us M Qu,G us M Qu→us.length = ps.length)
  (hbody:∀ (cdv:Value) (A:Around) (outer:List Env) (s:Shared) (H:Hp) (E:XK),Room k (A.deeper (envOfC qual (qc st) s.heap.objs.size f cdv)) →
   ∃ t,PSs (cxOf CX0 P w K mg base N qual (qc st) f cdv A outer s H E).nox (qg st) t∧∃ u,LS t u∧∀ us M Qu,G us M Qu→u { nx:=fun _ M' => xS M M'∧Qu (.p .non) (M'.take M.length),rt:=fun z M' => xS M M'∧∃ t,frzB M.length 4 M' z = some t∧Qu (.p t) (M'.take M.length) } (xP N us) M):FnOk P w K mg base CX0 (k + 1) f fd ps (spU G):=by
 refine F.ok S (fun vs H Q E h => ?_) (fun cdv A outer s H vs Q E hr h => ?_)
 ·obtain ⟨A,ι,M,us,Qu,w1,r,g,_⟩:=h
  rw [r.len]; exact len us M Qu g
 ·obtain ⟨B,ι,M,us,Qu,w1,r,g,kk⟩:=h
  obtain ⟨t,ht,u,hu,hb⟩:=hbody cdv A outer s H E hr
  have less:∀ {ι1:List Addr} {H1:Hp},Le ι H ι1 H1→Le ι H ι H1:=fun l => ⟨⟨[],by simp,by simp⟩,l.fr,l.al⟩
  refine ⟨t,ht,hu B ι _ H _ M _ { nx:=fun _ M' => xS M M'∧Qu (.p .non) (M'.take M.length),rt:=fun z M' => xS M M'∧∃ t,frzB M.length 4 M' z = some t∧Qu (.p t) (M'.take M.length) } w1 (jc r) ⟨fun ι1 σ1 H1 ρ1 M1 l1 w2 e1 q1 => ?_,fun ι1 v H1 z M1 l1 w2 r1 q1 => ?_,fun _ _ _ _ _ _ _ _ q => q.elim,fun _ _ _ _ _ _ _ _ q => q.elim⟩ (hb us M Qu g)⟩
  ·obtain ⟨tr,q⟩:=q1
   obtain ⟨m,rfl,_⟩:=id l1.ext
   exact kk _ _ ι _ H1 (less l1) (w2.trim w1 tr) (.p .non) q
  ·obtain ⟨tr,t1,et,q⟩:=q1
   obtain ⟨m,rfl,_⟩:=id l1.ext
   rw [← w1.len] at et
   exact kk _ _ ι v H1 (less l1) (w2.trim w1 tr) (.p (Qz w2 r1 et)) q
end
section
variable {M:MM} {v:V} {ρ:UEnv}
def uPairs:List (UE × UE)→UEnv→MM→(List (U × U)→MM→Prop)→Prop
 | [],_,M,Q => Q [] M
 | (k,v) :: r,ρ,M,Q => k ρ M fun x M1 => v ρ M1 fun y M2 => uPairs r ρ M2 fun ps M3 => Q ((x,y) :: ps) M3
def uIfC (c:UT) (t1 t2:T):UE:=fun ρ M Q => c ρ M fun b M1 => Q (.p (if b = true then t1 else t2)) M1
theorem iteT_int {c:Prop} [Decidable c] {a b:Int}:(if c then T.int a else T.int b) = T.int (if c then a else b):=by split <;> rfl
theorem iteT_str {c:Prop} [Decidable c] {a b:Str}:(if c then T.str a else T.str b) = T.str (if c then a else b):=by split <;> rfl
end
section
variable {ta:TE} {ua ub:UE} {A:Addr→Prop} {H:Hp} {ι:List Addr} {M:MM} {v:V} {u:U} {t:T} {σ:St} {ρ:UEnv} {K:PySem.W.Frag}
def uIxK (ts:List T) (ub:UE):UE:=fun ρ M Q => ub ρ M fun y M1 => IntS y fun i => ∃ t,atI ts i = some t∧Q (.p t) M1
def uInK (neg:Bool) (vs:List V) (ua:UE):UE:=fun ρ M Q => ua ρ M fun x M1 => ∃ a,x = .p a∧∃ y,vt a = some y∧Q (.p (.bl (if neg then !inV y vs else inV y vs))) M1
inductive TyC where
 | int | bool | str | list | tuple
def TyC.name:TyC→String
 | .int => "int" | .bool => "bool" | .str => "str" | .list => "list" | .tuple => "tuple"
def isT:T→TyC→Bool
 | .int _, .int => true
 | .bl _, .int => true
 | .bl _, .bool => true
 | .str _, .str => true
 | .lst _, .list => true
 | .tup _, .tuple => true
 | _,_ => false
def isU (M:MM):U→TyC→Option Bool
 | .p t,c => some (isT t c)
 | .m k,c => match M[k]? with
  | some (.lst _) => some (isT (.lst []) c)
  | some (.tup _) => some (isT (.tup []) c)
  | _ => none
 | .x _ _ _,_ => none
theorem J7 {c:TyC} {b:Bool} (w:Wd A ι H M) (r:RepU A ι H v u) (e:isU M u c = some b):∃ t,TyOf K H v (.type t)∧PySem.W.kitOne K (.type t) (.type c.name) = some b:=by
 cases r with
 | p r =>
  simp only [isU,Option.some.injEq] at e
  subst e
  cases r with
  | non => exact ⟨_, .non,by cases c <;> rfl⟩
  | bl b => exact ⟨_, .bl b,by cases c <;> rfl⟩
  | int i => exact ⟨_, .int i,by cases c <;> rfl⟩
  | str x => exact ⟨_, .str x,by cases c <;> rfl⟩
  | tup na e l r => exact ⟨_, .tup e,by cases c <;> rfl⟩
  | lst na e l r => exact ⟨_, .lst e,by cases c <;> rfl⟩
 | m q =>
  obtain ⟨o,h1,h2⟩:=w.al q
  simp only [isU,h1] at e
  cases o with
  | lst us => simp only [Option.some.injEq] at e; subst e; obtain ⟨vs,h3,_⟩:=h2; exact ⟨_, .lst h3,by cases c <;> rfl⟩
  | tup us => simp only [Option.some.injEq] at e; subst e; obtain ⟨vs,h3,_⟩:=h2; exact ⟨_, .tup h3,by cases c <;> rfl⟩
  | ins => simp at e
  | dK => simp at e
 | x h => simp [isU] at e
def uIsi (c:TyC) (ua:UE):UE:=fun ρ M Q => ua ρ M fun x M1 => ∃ b,isU M1 x c = some b∧Q (.p (.bl b)) M1
theorem le_isi (c:TyC) (ha:LE ta ua):LE (tCB (rIsi K) (vo ta (vo (tC (.ty c.name)) tNil))) (uIsi c ua):=fun A ι σ H ρ M Qu Q w e q k =>
 ha A ι σ H ρ M _ _ w e q fun x M1 ι1 v1 H1 l1 w1 r1 ⟨b,eb,q1⟩ => by
  obtain ⟨t,h1,h2⟩:=J7 (K:=K) w1 r1 eb
  exact ⟨v1,c.name,t,b,rfl,h1,h2,k _ M1 ι1 _ H1 l1 w1 (.p (.bl _)) q1⟩
def uIsi2 (c d:TyC) (ua:UE):UE:=fun ρ M Q => ua ρ M fun x M1 => ∃ b,isU M1 x c = some b∧∃ b',isU M1 x d = some b'∧Q (.p (.bl (b || b'))) M1
def sEqTu (neg:Bool):T→T→(T→Prop)→Prop:=fun a b Q => ∃ xs ys,∃ e:Nat→Bool,a = .tup xs∧b = .tup ys∧(∀ (j:Nat) x y,xs[j]? = some x→ys[j]? = some y→EqT 20 x y (e j))∧Q (.bl (if neg then !((List.range (min xs.length ys.length)).all e && xs.length == ys.length) else ((List.range (min xs.length ys.length)).all e && xs.length == ys.length)))
theorem opl_eqT:OpL (rEqT K) (sEqTu false):=fun A ι H M x y a b Qs Q w r1 r2 ⟨xs,ys,e,ea,eb,he,q⟩ k => by
 subst ea eb
 obtain ⟨p,vs,rfl,h1,q1⟩:=r1.tup_inv
 obtain ⟨p2,vs2,rfl,h2,q2⟩:=r2.tup_inv
 refine ⟨p,p2,vs,vs2,e,rfl,rfl,SqT.of h1,SqT.of h2,fun j x y hx hy => ?_,by rw [q1.len,q2.len]; exact k _ ι _ H (.refl _ _) w (.bl _) q⟩
 obtain ⟨a,ha,ra⟩:=Paired.getL q1 hx
 obtain ⟨b,hb,rb⟩:=Paired.getL q2 hy
 exact (he j a b ha hb).de ra rb
def uDNew:UE:=fun _ M Q => Q (.m M.length) (M ++ [.dK []])
end
section
variable {ul:UA} {n:Nat} {M:MM} {u:U} {ρ:UEnv}
theorem eqBls {neg:Bool} {ns ms:List Bool} {Q:T→Prop} (q:Q (.bl (if neg then !decide (ns = ms) else decide (ns = ms)))):sEqL neg (.lst (ns.map T.bl)) (.lst (ms.map T.bl)) Q:=by
 refine ⟨_,_,rfl,rfl, ?_⟩
 simp only [List.length_map]
 by_cases hl:ns.length = ms.length
 ·refine .inr ⟨hl,fun j => ns[j]? == ms[j]?,fun j x y hx hy => ?_,by rw [KL hl]; exact q⟩
  rw [List.getElem?_map] at hx hy
  cases e1:ns[j]? with
  | none => rw [e1] at hx; cases hx
  | some i =>
   cases e2:ms[j]? with
   | none => rw [e2] at hy; cases hy
   | some k =>
    rw [e1] at hx; rw [e2] at hy
    cases hx; cases hy
    have:=EqT.flat (n:=20) (a:=.bl i) (b:=.bl k) rfl rfl
    have e3:eqV (.bl i) (.bl k) = (ns[j]? == ms[j]?):=by rw [e1,e2]; cases i <;> cases k <;> rfl
    rw [e3] at this
    exact this
 ·refine .inl ⟨hl, ?_⟩
  have:decide (ns = ms) = false:=decide_eq_false fun z => hl (by rw [z])
  rw [this] at q
  cases neg <;> simpa using q
theorem gdIx {it:MM→U→Option (List U)} {x y:U} {Q:UK} (h:IxS it M x y Q):IxS it M x y Q:=h
theorem gdT2 {u:U} {R:U→U→Prop} (h:T2S M u R):T2S M u R:=h
theorem gdT3 {u:U} {R:U→U→U→Prop} (h:T3S M u R):T3S M u R:=h
theorem gdMe {s:List U→List U→(U→List U→Prop)→Prop} {o:U} {Q:UK} (h:MeS s ul ρ M o Q):MeS s ul ρ M o Q:=h
theorem gdLen {it:MM→U→Option (List U)} {us:List U} {Q:UK} (h:LenS it M us Q):LenS it M us Q:=h
end
section
variable {ta tb tv:TE} {ua ub uv:UE} {tl:TA} {ul:UA} {n:Nat} {A:Addr→Prop} {H:Hp} {ι:List Addr} {M:MM} {v:V} {u:U} {t:T} {σ:St} {ρ:UEnv} {K:PySem.W.Frag} {f m:Str} {C:Addr}
abbrev FR (A:Addr→Prop) (ι:List Addr) (H:Hp):List (Str × V)→List (Str × U)→Prop:=Paired (fun (g:Str × V) (f:Str × U) => g.1 = f.1∧RepU A ι H g.2 f.2)
theorem Zz {gs:List (Str × V)} {fs:List (Str × U)} {u:U} (r:FR A ι H gs fs) (e:fs.lookup f = some u):∃ v,gs.lookup f = some v∧RepU A ι H v u:=by
 induction r with
 | nil => cases e
 | @cons g h gs fs a _ ih =>
  obtain ⟨g1,g2⟩:=g
  obtain ⟨h1,h2⟩:=h
  obtain ⟨e1,r1⟩:=a
  simp only at e1 r1
  subst e1
  rw [List.lookup_cons] at e ⊢
  cases hk:f == g1 with
  | true => rw [hk] at e; cases e; exact ⟨_,rfl,r1⟩
  | false => rw [hk] at e; exact ih e
theorem Va {gs:List (Str × V)} {fs:List (Str × U)} (r:FR A ι H gs fs) (e:fs.lookup f = none):gs.lookup f = none:=by
 induction r with
 | nil => rfl
 | @cons g h gs fs a _ ih =>
  obtain ⟨g1,g2⟩:=g
  obtain ⟨h1,h2⟩:=h
  obtain ⟨e1,r1⟩:=a
  simp only at e1 r1
  subst e1
  rw [List.lookup_cons] at e ⊢
  cases hk:f == g1 with
  | true => rw [hk] at e; cases e
  | false => rw [hk] at e; exact ih e
def Xl (f:Str) (v:U):List (Str × U)→List (Str × U)
 | [] => [(f,v)]
 | (g,x) :: r => if g = f then (g,v) :: r else (g,x) :: Xl f v r
theorem putF_rep {gs:List (Str × V)} {fs:List (Str × U)} (r:FR A ι H gs fs) (rv:RepU A ι H v u):FR A ι H (putF f v gs) (Xl f u fs):=by
 induction r with
 | nil => exact .cons ⟨rfl,rv⟩ .nil
 | @cons g h gs fs a rr ih =>
  obtain ⟨g1,g2⟩:=g
  obtain ⟨h1,h2⟩:=h
  obtain ⟨e1,r1⟩:=a
  simp only at e1 r1
  subst e1
  unfold putF Xl
  by_cases hk:g1 = f
  ·rw [if_pos hk,if_pos hk]; exact .cons ⟨rfl,rv⟩ rr
  ·rw [if_neg hk,if_neg hk]; exact .cons ⟨rfl,r1⟩ ih
def FldS (K:PySem.W.Frag) (f:Str) (x:U) (M:MM) (Q:UK):Prop:=∃ k C fs u,x = .m k∧M[k]? = some (.ins C fs)∧Cls K C∧NoAttr K C f∧fs.lookup f = some u∧Q u M
def uFld (K:PySem.W.Frag) (ua:UE) (f:Str):UE:=fun ρ M Q => ua ρ M fun x M1 => FldS K f x M1 Q
theorem le_fld (ha:LE ta ua):LE (tFld K ta f) (uFld K ua f):=fun A ι σ H ρ M Qu Q w e q k =>
 ha A ι σ H ρ M _ _ w e q fun x M1 ι1 v1 H1 l1 w1 r1 ⟨kk,C,fs,u,ex,em,c,na,lk,q1⟩ => by
  subst ex
  cases r1 with
  | m ek =>
  obtain ⟨dx,gs,h1,h2,h3,h4⟩:=w1.obj kk _ _ ek em
  obtain ⟨v,hv,rv⟩:=Zz h4 lk
  exact ⟨_,C,dx,gs,v,rfl,h1,c,na,hv,k _ M1 ι1 v H1 l1 w1 rv q1⟩
def Zf (K:PySem.W.Frag) (f:Str) (x y:U) (M:MM) (R:MM→Prop):Prop:=∃ k C fs,x = .m k∧M[k]? = some (.ins C fs)∧Cls K C∧NoAttr K C f∧fs.length < 1000∧R (M.set k (.ins C (Xl f y fs)))
def VA (K:PySem.W.Frag) (ua uv:UE) (f:Str):US:=fun E ρ M => uv ρ M fun y M1 => ua ρ M1 fun x M2 => Zf K f x y M2 fun M3 => E.nx ρ M3
theorem ls_fld (ha:LE ta ua) (hv:LE tv uv):LS (sFld K ta tv f) (VA K ua uv f):=fun A ι σ H ρ M D E w e r q =>
 hv A ι σ H ρ M _ _ w e q fun y M1 ι1 vy H1 l1 w1 r1 q1 => ha A ι1 σ H1 ρ M1 _ _ w1 (e.le l1) q1 fun x M2 ι2 vx H2 l2 w2 r2 ⟨kk,C,fs,ex,em,c,na,hz,q2⟩ => by
  subst ex
  cases r2 with
  | m ek =>
  rename_i a
  obtain ⟨dx,gs,h1,h2,h3,h4⟩:=w2.obj kk _ _ ek em
  have hmem:=List.mem_of_getElem? ek
  have l4:=l1.trans l2
  have hne:dx≠a:=fun z => by rw [z,h1] at h2; cases h2
  refine ⟨a,C,dx,gs,rfl,h1,c,na,by rw [h4.len]; exact hz,r.nx ι2 σ _ ρ _ (l4.trans (.put hmem)) (w2.put (mo:=.ins C (Xl f y fs)) ek ⟨dx,_,upd_same,by rw [upd_ne hne]; exact h2,h3,Paired.mapP (putF_rep h4 (r1.le l2)) fun _ _ q => ⟨q.1,q.2.le (.put hmem)⟩⟩) (e.le (l4.trans (.put hmem))) q2⟩
def KN (C:Addr) (m:Str) (x:U) (M:MM) (R:Prop):Prop:=∃ k fs,x = .m k∧M[k]? = some (.ins C fs)∧fs.lookup m = none∧R
def uMeth (C:Addr) (m:Str) (G:List U→MM→UK→Prop) (ua:UE) (ul:UA):UE:=fun ρ M Q => ua ρ M fun x M1 => KN C m x M1 (ul ρ M1 fun us M2 => G (x :: us) M2 Q)
theorem le_meth {G:List U→MM→UK→Prop} {E:XK} (ha:LE ta ua) (hl:LA n tl ul):LE (X3 C m (spU G) [] E ta tl) (uMeth C m G ua ul):=fun A ι σ H ρ M Qu Q w e q k =>
 ha A ι σ H ρ M _ _ w e q fun x M1 ι1 v1 H1 l1 w1 r1 ⟨kk,fs,ex,em,lk,q1⟩ => by
  subst ex
  have r1':=r1
  cases r1' with
  | m ek =>
  obtain ⟨dx,gs,h1,h2,h3,h4⟩:=w1.obj kk _ _ ek em
  refine ⟨_,dx,gs,rfl,h1,Va h4 lk,hl A ι1 σ H1 ρ M1 _ _ w1 (e.le l1) q1 fun us M2 ι2 vs H2 l2 w2 hn r2 q2 => ?_⟩
  rw [List.append_nil]
  exact ⟨A,ι2,M2,_,_,w2, .cons (r1.le l2) r2,q2,fun u M3 ι3 v H3 l3 w3 r3 q3 => k u M3 ι3 v H3 ((l1.trans l2).trans l3) w3 r3 q3⟩
def uMake (C:Addr) (G:List U→MM→UK→Prop) (ul:UA):UE:=fun ρ M Q => ul ρ M fun us M1 => G (.m M1.length :: us) (M1 ++ [.ins C []]) fun v M2 => v = .p .non∧Q (.m M1.length) M2
theorem le_make {G:List U→MM→UK→Prop} {E:XK} (hl:LA n tl ul):LE (Xb C (spU G) [] E tl) (uMake C G ul):=fun A ι σ H ρ M Qu Q w e q k =>
 hl A ι σ H ρ M _ _ w e q fun us M1 ι1 vs H1 l1 w1 hn r1 q1 x dx hx hdx hne => by
  have hx2:upd H1 dx (.own x) x = none:=by rw [upd_ne (Ne.symm hne)]; exact hx
  have l2:Le ι1 H1 ι1 (upd H1 dx (.own x)):=.fresh hdx
  have w2:=w1.fresh (o:=.own x) hdx
  have l3:Le ι1 (upd H1 dx (.own x)) (ι1 ++ [x]) (upd (upd H1 dx (.own x)) x (.ins C dx [])):=.push hx2
  have w3:Wd A (ι1 ++ [x]) (upd (upd H1 dx (.own x)) x (.ins C dx [])) (M1 ++ [.ins C []]):=w2.push (mo:=.ins C []) hx2 ⟨dx, [],upd_same,by rw [upd_ne hne,upd_same],fun z => by
   rcases List.mem_append.mp z with z | z
   ·exact w1.nin hdx z
   ·exact hne (List.mem_singleton.mp z), .nil⟩
  have rx:RepU A (ι1 ++ [x]) (upd (upd H1 dx (.own x)) x (.ins C dx [])) (.ref x) (.m M1.length):=.m (by rw [← w1.len]; exact vF)
  rw [List.append_nil]
  refine ⟨A,ι1 ++ [x],_,_,_,w3, .cons rx (r1.le (l2.trans l3)),q1,fun u M4 ι4 v4 H4 l4 w4 r4 q4 => ?_⟩
  obtain ⟨eu,q4⟩:=q4
  subst eu
  cases r4 with
  | p r4 =>
  cases r4
  exact ⟨rfl,k _ M4 ι4 _ H4 (l1.trans ((l2.trans l3).trans l4)) w4 (rx.le l4) q4⟩
def RepNS (M:MM) (x y:U) (Q:UK):Prop:=∃ xs k,x = .p (.lst xs)∧y = .p (.int k) ∧ -(2 ^ 63)≤k∧k < 2 ^ 63∧xs.length * k.toNat≤sizeLine∧Q (.m M.length) (M ++ [.lst ((List.replicate k.toNat xs).flatten.map U.p)])
def Vz (ua ub:UE):UE:=fun ρ M Q => ua ρ M fun x M1 => ub ρ M1 fun y M2 => RepNS M2 x y Q
theorem J1 (ha:LE ta ua) (hb:LE tb ub):LE (tOp rRep ta tb) (Vz ua ub):=fun A ι σ H ρ M Qu Q w e q k =>
 ha A ι σ H ρ M _ _ w e q fun x M1 ι1 v H1 l1 w1 r1 q1 => hb A ι1 σ H1 ρ M1 _ _ w1 (e.le l1) q1 fun y M2 ι2 v2 H2 l2 w2 r2 ⟨xs,kk,ex,ey,k0,k1,hz,q2⟩ => by
  subst ex ey
  have r1':=r1.le l2
  cases r1' with
  | p r1 =>
  cases r2 with
  | p r2 =>
  cases r2
  obtain ⟨p,vs,rfl,na,h1,h2⟩:=r1.lst_inv
  refine ⟨p,kk,vs,rfl,rfl,h1,k0,k1,by rw [h2.len]; exact hz,fun l hl => ?_⟩
  have:=VQ w2 hl (RepTs.ups (kR h2 kk.toNat))
  exact k _ _ _ _ _ ((l1.trans l2).trans (.push hl)) this.1 this.2 q2
def flT:T→Bool
 | .int _ => true
 | .str _ => true
 | _ => false
def sEqW:T→T→(T→Prop)→Prop:=fun a b Q => sEq false a b Q∨sEqTu false a b Q∨(∃ xs,flT a = true∧b = .tup xs∧Q (.bl false))∨∃ xs,flT b = true∧a = .tup xs∧Q (.bl false)
theorem Kj {A:Addr→Prop} {H:Hp} {v:V} {t:T} (h:flT t = true) (r:RepV A H v t):kW v = true:=by
 cases t with
 | int i => rw [r.int_inv]; rfl
 | str i => rw [r.str_inv]; rfl
 | _ => cases h
theorem Jv:OpL (fun x y H Q => rEq x y H Q∨rEqT K x y H Q∨rEqFT K x y H Q∨rEqTF K x y H Q) sEqW:=fun A ι H M x y a b Qs Q w r1 r2 h k => by
 rcases h with h | h | ⟨xs,hf,eb,q⟩ | ⟨xs,hf,ea,q⟩
 ·exact .inl (ve A ι H M x y a b Qs Q w r1 r2 h k)
 ·exact .inr (.inl (opl_eqT A ι H M x y a b Qs Q w r1 r2 h k))
 ·subst eb
  obtain ⟨p,vs,rfl,h1,q1⟩:=r2.tup_inv
  exact .inr (.inr (.inl ⟨p,vs,Kj hf r1,rfl,SqT.of h1,k _ ι _ H (.refl _ _) w (.bl _) q⟩))
 ·subst ea
  obtain ⟨p,vs,rfl,h1,q1⟩:=r1.tup_inv
  exact .inr (.inr (.inr ⟨p,vs,Kj hf r2,rfl,SqT.of h1,k _ ι _ H (.refl _ _) w (.bl _) q⟩))
def SubS (M:MM) (o i u:U) (R:MM→Prop):Prop:=∃ k us z j,o = .m k∧M[k]? = some (.lst us)∧i = .p (.int z)∧ixN us.length z = some j∧R (M.set k (.lst (us.set j u)))
theorem rd_sub {Q:UEnv→MM→Prop}:uSub ua ub u ρ M Q = ua ρ M fun o M1 => ub ρ M1 fun i M2 => SubS M2 o i u fun M3 => Q ρ M3:=rfl
theorem rep4 {vs:List V} {a b c d:U} (r:RepUs A ι H vs [a,b,c,d]):∃ x y z s,vs = [x,y,z,s]∧RepU A ι H x a∧RepU A ι H y b∧RepU A ι H z c∧RepU A ι H s d:=by
 cases r with
 | cons r q =>
  obtain ⟨y,z,s,rfl,r2,r3,r4⟩:=rep3 q
  exact ⟨_,_,_,_,rfl,r,r2,r3,r4⟩
def XT (i j k l:Nat):UG:=fun u ρ M Q => ∃ a b c d,zK M u = some [a,b,c,d]∧Q ((((ρ.set i (some a)).set j (some b)).set k (some c)).set l (some d)) M
theorem lg_name4 (i j l o:Nat):LG (gTup K 4 (vJ (qI i) (vJ (qI j) (vJ (qI l) (vJ (qI o) gNil))))) (XT i j l o):=fun A ι σ H ρ M v u Qu Q w e r ⟨a,b,c,d,ei,q⟩ k => by
 obtain ⟨p,vs,rfl,h1,h2⟩:=xJ w r ei
 obtain ⟨x,y,z,s,rfl,r1,r2,r3,r4⟩:=rep4 h2
 exact ⟨p,_,rfl,SqT.of h1,rfl,_,_,rfl,_,_,rfl,_,_,rfl,_,_,rfl,rfl,k _ M ι _ H (.refl _ _) w ((((e.put i r1).put j r2).put l r3).put o r4) q⟩
def T4S (M:MM) (u:U) (R:U→U→U→U→Prop):Prop:=∃ a b c d,zK M u = some [a,b,c,d]∧R a b c d
theorem rd_name4 {i j k l:Nat} {R:UEnv→MM→Prop}:XT i j k l u ρ M R = T4S M u fun a b c d => R ((((ρ.set i (some a)).set j (some b)).set k (some c)).set l (some d)) M:=rfl
theorem rd_t4 {a b c d:T} {R:U→U→U→U→Prop}:T4S M (.p (.tup [a,b,c,d])) R = R (.p a) (.p b) (.p c) (.p d):=propext ⟨fun ⟨_,_,_,_,e,h⟩ => by cases e; exact h,fun h => ⟨_,_,_,_,rfl,h⟩⟩
def P2S (us:List U) (R:U→U→Prop):Prop:=∃ a b,us = [a,b]∧R a b
def P3S (us:List U) (R:U→U→U→Prop):Prop:=∃ a b c,us = [a,b,c]∧R a b c
def uPar (i j:Nat) (ul:UA):US:=fun E ρ M => ul ρ M fun us M1 => P2S us fun a b => E.nx ((ρ.set i (some a)).set j (some b)) M1
def uPar3 (i j k:Nat) (ul:UA):US:=fun E ρ M => ul ρ M fun us M1 => P3S us fun a b c => E.nx (((ρ.set i (some a)).set j (some b)).set k (some c)) M1
theorem ls_par {i j:Nat} (hl:LA n tl ul):LS (tPar i j tl) (uPar i j ul):=fun A ι σ H ρ M D E w e r q =>
 hl A ι σ H ρ M _ _ w e q fun us M1 ι1 vs H1 l1 w1 hn r1 ⟨a,b,eu,q1⟩ => by
  subst eu
  obtain ⟨x,y,rfl,ra,rb⟩:=rep2 r1
  exact ⟨x,y,rfl,r.nx ι1 _ H1 _ M1 l1 w1 (((e.le l1).put i ra).put j rb) q1⟩
theorem rd_par {i j:Nat} {E:UEnds}:uPar i j ul E ρ M = ul ρ M fun us M1 => P2S us fun a b => E.nx ((ρ.set i (some a)).set j (some b)) M1:=rfl
theorem rd_par3 {i j k:Nat} {E:UEnds}:uPar3 i j k ul E ρ M = ul ρ M fun us M1 => P3S us fun a b c => E.nx (((ρ.set i (some a)).set j (some b)).set k (some c)) M1:=rfl
theorem rd_p2 {a b:U} {R:U→U→Prop}:P2S [a,b] R = R a b:=propext ⟨fun ⟨_,_,e,h⟩ => by cases e; exact h,fun h => ⟨a,b,rfl,h⟩⟩
theorem rd_p3 {a b c:U} {R:U→U→U→Prop}:P3S [a,b,c] R = R a b c:=propext ⟨fun ⟨_,_,_,e,h⟩ => by cases e; exact h,fun h => ⟨a,b,c,rfl,h⟩⟩
theorem rd_fld {Q:UK}:uFld K ua f ρ M Q = ua ρ M fun x M1 => FldS K f x M1 Q:=rfl
theorem Jj {E:UEnds}:VA K ua uv f E ρ M = uv ρ M fun y M1 => ua ρ M1 fun x M2 => Zf K f x y M2 fun M3 => E.nx ρ M3:=rfl
theorem rd_meth {G:List U→MM→UK→Prop} {Q:UK}:uMeth C m G ua ul ρ M Q = ua ρ M fun x M1 => KN C m x M1 (ul ρ M1 fun us M2 => G (x :: us) M2 Q):=rfl
theorem rd_make {G:List U→MM→UK→Prop} {Q:UK}:uMake C G ul ρ M Q = ul ρ M fun us M1 => G (.m M1.length :: us) (M1 ++ [.ins C []]) fun v M2 => v = .p .non∧Q (.m M1.length) M2:=rfl
theorem Jh {Q:UK}:Vz ua ub ρ M Q = ua ρ M fun x M1 => ub ρ M1 fun y M2 => RepNS M2 x y Q:=rfl
theorem QD {k:Nat} {fs:List (Str × U)} {u:U} {Q:UK} (c:Cls K C) (na:NoAttr K C f) (e:M[k]? = some (.ins C fs)) (lk:fs.lookup f = some u) (q:Q u M):FldS K f (.m k) M Q:=⟨k,C,fs,u,rfl,e,c,na,lk,q⟩
theorem xw {k:Nat} {fs:List (Str × U)} {y:U} {R:MM→Prop} (c:Cls K C) (na:NoAttr K C f) (e:M[k]? = some (.ins C fs)) (hz:fs.length < 1000) (q:R (M.set k (.ins C (Xl f y fs)))):Zf K f (.m k) y M R:=⟨k,C,fs,rfl,e,c,na,hz,q⟩
theorem meth_at {k:Nat} {fs:List (Str × U)} {R:Prop} (e:M[k]? = some (.ins C fs)) (lk:fs.lookup m = none) (q:R):KN C m (.m k) M R:=⟨k,fs,rfl,e,lk,q⟩
theorem VE {xs:List T} {k:Int} {Q:UK} (k0 : -(2 ^ 63)≤k) (k1:k < 2 ^ 63) (hz:xs.length * k.toNat≤sizeLine) (q:Q (.m M.length) (M ++ [.lst ((List.replicate k.toNat xs).flatten.map U.p)])):RepNS M (.p (.lst xs)) (.p (.int k)) Q:=⟨xs,k,rfl,rfl,k0,k1,hz,q⟩
end
section
variable {P:Program} {w:World} {K:PySem.W.Frag} {mg:Str→Option Value} {base:Heap}
def gNo:List U→MM→UK→Prop:=fun _ _ _ => False
theorem FnOk.no {k:Nat} {f:Addr} {fd:FuncData} {ps:List Str}:FnOk P w K mg base CX0 k f fd ps (spU gNo) :=
 ⟨fun vs H Q E ⟨_,_,_,_,_,_,_,h,_⟩ => h.elim,fun _ _ _ _ _ _ _ _ _ _ _ _ _ ⟨_,_,_,_,_,_,_,h,_⟩ => h.elim⟩
end
structure ZE (a:TE) (b:UE):Prop where
 h:LE a b
structure ZT (a:TT) (b:UT):Prop where
 h:LT a b
structure ZA (n:Nat) (a:TA) (b:UA):Prop where
 h:LA n a b
structure ZI (a:TI) (b:UI):Prop where
 h:LI a b
structure ZG (a:TG) (b:UG):Prop where
 h:LG a b
structure ZX (bs:List Bool) (n:Nat) (a:TG) (b:UG):Prop where
 h:LGx bs n a b
structure ZS (a:TS) (b:US):Prop where
 h:LS a b
section
theorem qb (i:Nat):ZE (tVar i) (uVar i):=⟨le_var i⟩
end
section
theorem ce_c {v:V} {t:T} (h:Sc v t):ZE (tC v) (uC t):=⟨le_c h⟩
end
section
theorem qf  : ZA 0 tNil uNil:=⟨la_nil ⟩
end
section
variable {ta:TE} {ua:UE} {tl:TA} {ul:UA} {n:Nat}
theorem qa (ha:ZE ta ua) (hl:ZA n tl ul):ZA (n + 1) (vo ta tl) (uCons ua ul):=⟨la_cons ha.h hl.h⟩
end
section
variable {ta tb:TE} {ua ub:UE}
theorem qE {r:R2} {s:T→T→(T→Prop)→Prop} (h:OpL r s) (ha:ZE ta ua) (hb:ZE tb ub):ZE (tOp r ta tb) (uOp s ua ub):=⟨le_op h ha.h hb.h⟩
end
section
variable {ta:TE} {ua:UE}
theorem ct_b (ha:ZE ta ua):ZT (tB ta) (uB ua):=⟨lt_b ha.h⟩
end
section
variable {ta:TE} {ua:UE}
theorem qw (ha:ZE ta ua):ZT (vS ta) (uB ua):=⟨lt_test ha.h⟩
end
section
variable {tt tt':TT} {ut ut':UT}
theorem Ks (ha:ZT tt ut) (hb:ZT tt' ut'):ZT (tAnd tt tt') (uAnd ut ut'):=⟨lt_and ha.h hb.h⟩
end
section
variable {tt tt':TT} {ut ut':UT}
theorem ct_or (ha:ZT tt ut) (hb:ZT tt' ut'):ZT (tOr tt tt') (uOr ut ut'):=⟨lt_or ha.h hb.h⟩
end
section
variable {tt:TT} {ut:UT}
theorem jX (ha:ZT tt ut):ZT (tNot tt) (uNot ut):=⟨lt_not ha.h⟩
end
section
variable {ta tb:TE} {ua ub:UE}
theorem Zc (ha:ZE ta ua) (hb:ZE tb ub):ZE (vV ta tb) (uAndV ua ub):=⟨le_andV ha.h hb.h⟩
end
section
variable {ta tb:TE} {ua ub:UE}
theorem ce_orV (ha:ZE ta ua) (hb:ZE tb ub):ZE (tOrV ta tb) (uOrV ua ub):=⟨le_orV ha.h hb.h⟩
end
section
variable {ta tb:TE} {ua ub:UE} {tt:TT} {ut:UT}
theorem Zb (hc:ZT tt ut) (ha:ZE ta ua) (hb:ZE tb ub):ZE (tIf tt ta tb) (uIf ut ua ub):=⟨le_if hc.h ha.h hb.h⟩
end
section
variable {tl:TA} {ul:UA} {n:Nat}
theorem vm (ha:ZA n tl ul) (hn:n≤1000:=by decide):ZE (tTup tl) (uTup ul):=⟨le_tup ha.h hn⟩
end
section
variable {tl:TA} {ul:UA} {n:Nat}
theorem v9 (ha:ZA n tl ul) (hn:n≤1000:=by decide):ZE (tLst tl) (uLst ul):=⟨le_lst ha.h hn⟩
end
section
variable {tl:TA} {ul:UA} {n:Nat}
theorem Qa (ha:ZA n tl ul) (hn:n≤1000:=by decide):ZE (tLst tl) (uNew ul):=⟨le_new ha.h hn⟩
end
section
variable {ta tb:TE} {ua ub:UE}
theorem qK {K:PySem.W.Frag} (ha:ZE ta ua) (hb:ZE tb ub):ZE (tOp (rIxL K) ta tb) (uIx vf ua ub):=⟨le_ixL ha.h hb.h⟩
end
section
variable {ta tb:TE} {ua ub:UE}
theorem qD {K:PySem.W.Frag} (ha:ZE ta ua) (hb:ZE tb ub):ZE (tOp (rIxT K) ta tb) (uIx zK ua ub):=⟨le_ixT ha.h hb.h⟩
end
section
variable {tl:TA} {ul:UA} {n:Nat}
theorem ce_cb {r:List V→Hp→VK→Prop} {s:List T→(T→Prop)→Prop} (h:CbL r s) (ha:ZA n tl ul):ZE (tCB r tl) (uCb s ul):=⟨le_cb h ha.h⟩
end
section
variable {tl:TA} {ul:UA} {n:Nat}
theorem ce_len (ha:ZA n tl ul):ZE (tCB rLenL tl) (uLen vf ul):=⟨le_len ha.h⟩
end
section
variable {ta:TE} {ua:UE} {K:PySem.W.Frag}
theorem QL (ha:ZE ta ua):ZI (XC K ta) (uIter ua):=⟨li_list ha.h⟩
end
section
variable {tl:TA} {ul:UA} {n:Nat}
theorem Za (ha:ZA n tl ul):ZI (Ka tl) (uRng1 ul):=⟨li_rng1 ha.h⟩
end
section
theorem qX (i:Nat):ZG (qI i) (XW i):=⟨lg_name i⟩
end
section
variable {K:PySem.W.Frag}
theorem Z3 (i j:Nat):ZG (gTup K 2 (vJ (qI i) (vJ (qI j) gNil))) (XV i j):=⟨lg_name2 i j⟩
end
section
variable {K:PySem.W.Frag}
theorem cg_name3 (i j l:Nat):ZG (gTup K 3 (vJ (qI i) (vJ (qI j) (vJ (qI l) gNil)))) (XU i j l):=⟨lg_name3 i j l⟩
end
section
variable {ta tb:TE} {ua ub:UE}
theorem zp (ha:ZE ta ua) (hb:ZE tb ub):ZG (gSub ta tb rSetL) (uSub ua ub):=⟨lg_sub ha.h hb.h⟩
end
section
variable {n:Nat}
theorem Z2 {bs:List Bool} (i:Nat) (h:Zk bs n i = true:=by rfl):ZX bs n (qI i) (XW i):=⟨lgx_name i h⟩
end
section
variable {M:MM}
theorem ct_yes  : ZT tYes (fun _ M Q => Q true M):=⟨lt_yes ⟩
end
section
variable {te:TE} {ue:UE} {tt:TT} {ut:UT} {n:Nat}
theorem KC {wi:TI} {ui:UI} {bs:List Bool} {g:TG} {ug:UG} (hi:ZI wi ui) (hg:ZX bs n g ug) (ht:ZT tt ut) (he:ZE te ue):ZE (vK wi bs n g tt te) (uComp ui bs n ug ut ue):=⟨le_comp hi.h hg.h ht.h he.h⟩
end
section
theorem qB  : ZS vT uNext:=⟨ls_next ⟩
end
section
variable {ts ts':TS} {us us':US}
theorem qo (ha:ZS ts us) (hb:ZS ts' us'):ZS (tSeq ts ts') (uSeq us us'):=⟨ls_seq ha.h hb.h⟩
end
section
variable {ta:TE} {ua:UE}
theorem V9 (ha:ZE ta ua):ZS (vU ta) (uDrop ua):=⟨ls_drop ha.h⟩
end
section
variable {ta:TE} {ua:UE}
theorem qM (ha:ZE ta ua):ZS (tRet ta) (uRet ua):=⟨ls_ret ha.h⟩
end
section
variable {tt:TT} {ut:UT}
variable {ts ts':TS} {us us':US}
theorem vi (hc:ZT tt ut) (ha:ZS ts us) (hb:ZS ts' us'):ZS (tIfS tt ts ts') (uIfS ut us us'):=⟨ls_if hc.h ha.h hb.h⟩
end
section
variable {ta:TE} {ua:UE}
theorem qQ {g:TG} {ug:UG} (ha:ZE ta ua) (hg:ZG g ug):ZS (tAsg ta g) (uAsg ua ug):=⟨ls_asg ha.h hg.h⟩
end
section
variable {ts:TS} {us:US}
theorem Vn {wi:TI} {ui:UI} {g:TG} {ug:UG} (hi:ZI wi ui) (hg:ZG g ug) (hb:ZS ts us):ZS (tFor wi g ts) (uFor ui ug us):=⟨ls_for hi.h hg.h hb.h⟩
end
section
variable {ta:TE} {ua:UE} {tl:TA} {ul:UA} {n:Nat}
theorem ce_me {r:V→List V→Hp→VK→Prop} {s:List U→List U→(U→List U→Prop)→Prop} (h:MeL r s) (ha:ZE ta ua) (hl:ZA n tl ul):ZE (tLM r ta tl) (uMe s ua ul):=⟨le_me h ha.h hl.h⟩
end
section
variable {tl:TA} {ul:UA} {n:Nat}
theorem qJ {G:List U→MM→UK→Prop} {E:XK} (ha:ZA n tl ul):ZE (vL (spU G) [] E tl) (uCall G ul):=⟨le_callU ha.h⟩
end
section
variable {tl:TA} {ul:UA} {n:Nat}
theorem vW {G:List T→(T→Prop)→Prop} {E:XK} (ha:ZA n tl ul):ZE (vL (spP G) [] E tl) (XY G ul):=⟨le_callP ha.h⟩
end
section
variable {ta:TE} {ua:UE} {K:PySem.W.Frag}
theorem ce_isi (c:TyC) (ha:ZE ta ua):ZE (tCB (rIsi K) (vo ta (vo (tC (.ty c.name)) tNil))) (uIsi c ua):=⟨le_isi c ha.h⟩
end
section
variable {ta:TE} {ua:UE} {K:PySem.W.Frag} {f:Str}
theorem vn (ha:ZE ta ua):ZE (tFld K ta f) (uFld K ua f):=⟨le_fld ha.h⟩
end
section
variable {ta tv:TE} {ua uv:UE} {K:PySem.W.Frag} {f:Str}
theorem Vo (ha:ZE ta ua) (hv:ZE tv uv):ZS (sFld K ta tv f) (VA K ua uv f):=⟨ls_fld ha.h hv.h⟩
end
section
variable {ta:TE} {ua:UE} {tl:TA} {ul:UA} {n:Nat} {m:Str} {C:Addr}
theorem zI {G:List U→MM→UK→Prop} {E:XK} (ha:ZE ta ua) (hl:ZA n tl ul):ZE (X3 C m (spU G) [] E ta tl) (uMeth C m G ua ul):=⟨le_meth ha.h hl.h⟩
end
section
variable {tl:TA} {ul:UA} {n:Nat} {C:Addr}
theorem Ky {G:List U→MM→UK→Prop} {E:XK} (hl:ZA n tl ul):ZE (Xb C (spU G) [] E tl) (uMake C G ul):=⟨le_make hl.h⟩
end
section
variable {ta tb:TE} {ua ub:UE}
theorem Vq (ha:ZE ta ua) (hb:ZE tb ub):ZE (tOp rRep ta tb) (Vz ua ub):=⟨J1 ha.h hb.h⟩
end
section
variable {K:PySem.W.Frag}
theorem cg_name4 (i j l o:Nat):ZG (gTup K 4 (vJ (qI i) (vJ (qI j) (vJ (qI l) (vJ (qI o) gNil))))) (XT i j l o):=⟨lg_name4 i j l o⟩
end
section
variable {tl:TA} {ul:UA} {n:Nat}
theorem cs_par {i j:Nat} (hl:ZA n tl ul):ZS (tPar i j tl) (uPar i j ul):=⟨ls_par hl.h⟩
end
section
variable {P:Program} {w:World} {K:PySem.W.Frag} {mg:Str→Option Value} {base:Heap}
theorem Fun.okQ {x qual:Str} {st:Stmt} {f:Addr} {fd:FuncData} {N ps:List Str} {k:Nat} {sp:Sp} (F:Fun K x qual st f fd) (S:FnScope N ps (qc st)) (len:∀ vs H Q E,sp vs H Q E→vs.length = ps.length)
  (hbody:∀ (cdv:Value) (A:Around) (outer:List Env) (s:Shared) (H:Hp) (vs:List V) (Q:VK) (E:XK),Room k (A.deeper (envOfC qual (qc st) s.heap.objs.size f cdv))→sp vs H Q E →
   ∃ t,QSs (cxOf CX0 P w K mg base N qual (qc st) f cdv A outer s H E).nox (qg st) t∧t { nx:=fun _ H' => Q .non H',rt:=Q } (start N vs) H):FnOk P w K mg base CX0 (k + 1) f fd ps sp :=
 F.ok S len fun cdv A outer s H vs Q E hr hsp => by
  obtain ⟨t,h,q⟩:=hbody cdv A outer s H vs Q E hr hsp
  exact ⟨t,h.h,q⟩
theorem Fun.zU {x qual:Str} {st:Stmt} {f:Addr} {fd:FuncData} {N ps:List Str} {k:Nat} {G:List U→MM→UK→Prop} (F:Fun K x qual st f fd) (S:FnScope N ps (qc st)) (len:∀ us M Qu,G us M Qu→us.length = ps.length)
  (hbody:∀ (cdv:Value) (A:Around) (outer:List Env) (s:Shared) (H:Hp) (E:XK),Room k (A.deeper (envOfC qual (qc st) s.heap.objs.size f cdv)) →
   ∃ t,QSs (cxOf CX0 P w K mg base N qual (qc st) f cdv A outer s H E).nox (qg st) t∧∃ u,ZS t u∧∀ us M Qu,G us M Qu→u { nx:=fun _ M' => Qu (.p .non) M',rt:=Qu } (xP N us) M):FnOk P w K mg base CX0 (k + 1) f fd ps (spU G) :=
 F.okU S len fun cdv A outer s H E hr => by
  obtain ⟨t,h,u,hu,q⟩:=hbody cdv A outer s H E hr
  exact ⟨t,h.h,u,hu.h,q⟩
theorem Fun.zV {x qual:Str} {st:Stmt} {f:Addr} {fd:FuncData} {N ps:List Str} {k:Nat} {G:List U→MM→UK→Prop} (F:Fun K x qual st f fd) (S:FnScope N ps (qc st)) (len:∀ us M Qu,G us M Qu→us.length = ps.length)
  (hbody:∀ (cdv:Value) (A:Around) (outer:List Env) (s:Shared) (H:Hp) (E:XK),Room k (A.deeper (envOfC qual (qc st) s.heap.objs.size f cdv)) →
   ∃ t,QSs (cxOf CX0 P w K mg base N qual (qc st) f cdv A outer s H E).nox (qg st) t∧∃ u,ZS t u∧∀ us M M1 Qu,M1 = M→G us M Qu→u { nx:=fun _ M' => xS M M'∧Qu (.p .non) (M'.take M.length),rt:=fun z M' => xS M M'∧∃ t,frzB M.length 4 M' z = some t∧Qu (.p t) (M'.take M.length) } (xP N us) M1):FnOk P w K mg base CX0 (k + 1) f fd ps (spU G) :=
 F.okV S len fun cdv A outer s H E hr => by
  obtain ⟨t,h,u,hu,q⟩:=hbody cdv A outer s H E hr
  exact ⟨t,h.h,u,hu.h,fun us M Qu g => q us M M Qu rfl g⟩
theorem Fun.zP {x qual:Str} {st:Stmt} {f:Addr} {fd:FuncData} {N ps:List Str} {k:Nat} {G:List T→(T→Prop)→Prop} (F:Fun K x qual st f fd) (S:FnScope N ps (qc st)) (len:∀ ts Qt,G ts Qt→ts.length = ps.length)
  (hbody:∀ (cdv:Value) (A:Around) (outer:List Env) (s:Shared) (H:Hp) (E:XK),Room k (A.deeper (envOfC qual (qc st) s.heap.objs.size f cdv)) →
   ∃ t,QSs (cxOf CX0 P w K mg base N qual (qc st) f cdv A outer s H E).nox (qg st) t∧∃ u,ZS t u∧∀ ts Qt,G ts Qt→u { nx:=fun _ _ => Qt .non,rt:=fun z M' => ∃ t,frzN 4 M' z = some t∧Qt t } (xP N (ts.map U.p)) []):FnOk P w K mg base CX0 (k + 1) f fd ps (spP G) :=
 F.okP S len fun cdv A outer s H E hr => by
  obtain ⟨t,h,u,hu,q⟩:=hbody cdv A outer s H E hr
  exact ⟨t,h.h,u,hu.h,q⟩
end
abbrev UX:=Str→Option Int→MM→Prop
def pT:Option Int→T
 | none => .non
 | some n => .int n
theorem pT_rep {A:Addr→Prop} {H:Hp}:∀ p:Option Int,RepT A H (pV p) (pT p)
 | none => .non
 | some _ => .int _
theorem pT_inv {A:Addr→Prop} {H:Hp} {v:V}:∀ {p:Option Int},RepT A H v (pT p)→v = pV p
 | none,r => by cases r; rfl
 | some _,r => by cases r; rfl
abbrev UXe:=UEnv→MM→UK→UX→Prop
def spX (mg:Str→Option Value) (G:List U→MM→UK→UX→Prop):Sp:=fun vs H Q E => ∃ A ι M us Qu Xu,Wd A ι H M∧RepUs A ι H vs us∧G us M Qu Xu ∧
 (∀ u M' ι' v H',Le ι H ι' H'→Wd A ι' H' M'→RepU A ι' H' v u→Qu u M'→Q v H')∧∀ nm p C d M' ι' H',mg nm = some C→PartIs d H' p→Le ι H ι' H'→Wd A ι' H' M'→Xu nm p M'→E C d H'
structure ZXe (mg:Str→Option Value) (tx:TX) (ux:UXe):Prop where
 h:∀ (A:Addr→Prop) (ι:List Addr) (σ:St) (H:Hp) (ρ:UEnv) (M:MM) (Qu:UK) (Xu:UX) (Q:VK) (E:XK),Wd A ι H M→EnvR A ι H σ ρ→ux ρ M Qu Xu →
  (∀ u M' ι' v H',Le ι H ι' H'→Wd A ι' H' M'→RepU A ι' H' v u→Qu u M'→Q v H')→(∀ nm p C d M' ι' H',mg nm = some C→PartIs d H' p→Le ι H ι' H'→Wd A ι' H' M'→Xu nm p M'→E C d H')→tx σ H Q E
section
variable {mg:Str→Option Value} {tx:TX} {ux:UXe} {ta:TE} {ua:UE} {tl:TA} {ul:UA} {n:Nat} {tb:TS} {us ub:US} {C:Addr} {m:Str}
def QV (G:List U→MM→UK→UX→Prop) (ul:UA):UXe:=fun ρ M Q X => ul ρ M fun us M1 => G us M1 Q X
theorem zZ {G:List U→MM→UK→UX→Prop} (ha:ZA n tl ul):ZXe mg (tCallX (spX mg G) tl) (QV G ul):=⟨fun A ι σ H ρ M Qu Xu Q E w e q k kx =>
 ha.h A ι σ H ρ M _ _ w e q fun us M1 ι1 vs H1 l1 w1 hn r1 q1 =>
  ⟨A,ι1,M1,us,_,_,w1,r1,q1,fun u M2 ι2 v H2 l2 w2 r2 q2 => k u M2 ι2 v H2 (l1.trans l2) w2 r2 q2,fun nm p C d M2 ι2 H2 hm hp l2 w2 q2 => kx nm p C d M2 ι2 H2 hm hp (l1.trans l2) w2 q2⟩⟩
def QR (C:Addr) (m:Str) (G:List U→MM→UK→UX→Prop) (ua:UE) (ul:UA):UXe:=fun ρ M Q X => ua ρ M fun x M1 => KN C m x M1 (ul ρ M1 fun us M2 => G (x :: us) M2 Q X)
theorem zn {G:List U→MM→UK→UX→Prop} (ha:ZE ta ua) (hl:ZA n tl ul):ZXe mg (tMethX C m (spX mg G) ta tl) (QR C m G ua ul):=⟨fun A ι σ H ρ M Qu Xu Q E w e q k kx =>
 ha.h A ι σ H ρ M _ _ w e q fun x M1 ι1 v1 H1 l1 w1 r1 ⟨kk,fs,ex,em,lk,q1⟩ => by
  subst ex
  have r1':=r1
  cases r1' with
  | m ek =>
  obtain ⟨dx,gs,h1,h2,h3,h4⟩:=w1.obj kk _ _ ek em
  refine ⟨_,dx,gs,rfl,h1,Va h4 lk,hl.h A ι1 σ H1 ρ M1 _ _ w1 (e.le l1) q1 fun us M2 ι2 vs H2 l2 w2 hn r2 q2 => ?_⟩
  exact ⟨A,ι2,M2,_,_,_,w2, .cons (r1.le l2) r2,q2,fun u M3 ι3 v H3 l3 w3 r3 q3 => k u M3 ι3 v H3 ((l1.trans l2).trans l3) w3 r3 q3,fun nm p C d M3 ι3 H3 hm hp l3 w3 q3 => kx nm p C d M3 ι3 H3 hm hp ((l1.trans l2).trans l3) w3 q3⟩⟩
def tagU (nm:Str) (p:Option Int) (ρ:UEnv):UEnv:=some (.p (.str nm)) :: some (.p (pT p)) :: ρ
theorem jx {A:Addr→Prop} {ι:List Addr} {H:Hp} {σ:St} {ρ:UEnv} {nm:Str} {p:Option Int} (e:EnvR A ι H σ ρ):EnvR A ι H (some (.str nm) :: some (pV p) :: σ) (tagU nm p ρ):=.cons (fun u q => by cases q; exact ⟨_,rfl, .p (.str _)⟩) (.cons (fun u q => by cases q; exact ⟨_,rfl, .p (pT_rep p)⟩) e)
def QU (ux:UXe):US:=fun E ρ M => ux ρ M (fun _ M1 => E.nx ρ M1) fun nm p M1 => E.bk (tagU nm p ρ) M1
theorem zM (h:ZXe mg tx ux):ZS (tDropX tx mg) (QU ux):=⟨fun A ι σ H ρ M D E w e r q =>
 h.h A ι σ H ρ M _ _ _ _ w e q (fun x M1 ι1 v H1 l1 w1 r1 q1 => r.nx ι1 σ H1 ρ M1 l1 w1 (e.le l1) q1) fun nm p C d M1 ι1 H1 hm hp l1 w1 q1 => ⟨nm,p,hm,hp,r.bk ι1 _ H1 _ M1 l1 w1 (jx (e.le l1)) q1⟩⟩
def XS (ux:UXe):US:=fun E ρ M => ux ρ M E.rt fun nm p M1 => E.bk (tagU nm p ρ) M1
theorem z0 (h:ZXe mg tx ux):ZS (tRetX tx mg) (XS ux):=⟨fun A ι σ H ρ M D E w e r q =>
 h.h A ι σ H ρ M _ _ _ _ w e q (fun x M1 ι1 v H1 l1 w1 r1 q1 => r.rt ι1 v H1 x M1 l1 w1 r1 q1) fun nm p C d M1 ι1 H1 hm hp l1 w1 q1 => ⟨nm,p,hm,hp,r.bk ι1 _ H1 _ M1 l1 w1 (jx (e.le l1)) q1⟩⟩
def XR (i:Nat) (ux:UXe):US:=fun E ρ M => ux ρ M (fun x M1 => E.nx (ρ.set i (some x)) M1) fun nm p M1 => E.bk (tagU nm p ρ) M1
theorem V8 {i:Nat} (h:ZXe mg tx ux):ZS (tSetX i tx mg) (XR i ux):=⟨fun A ι σ H ρ M D E w e r q =>
 h.h A ι σ H ρ M _ _ _ _ w e q (fun x M1 ι1 v H1 l1 w1 r1 q1 => r.nx ι1 _ H1 _ M1 l1 w1 ((e.le l1).put i r1) q1) fun nm p C d M1 ι1 H1 hm hp l1 w1 q1 => ⟨nm,p,hm,hp,r.bk ι1 _ H1 _ M1 l1 w1 (jx (e.le l1)) q1⟩⟩
def QQ (x:Str) (ul:UA):US:=fun E ρ M => ul ρ M fun us M1 => us.length≤sizeLine∧E.bk (tagU x none ρ) M1
theorem cs_raise {x:Str} (h:ZA n tl ul):ZS (tRaise x tl) (QQ x ul):=⟨fun A ι σ H ρ M D E w e r q =>
 h.h A ι σ H ρ M _ _ w e q fun us M1 ι1 vs H1 l1 w1 hn r1 ⟨hl,q1⟩ => ⟨by rw [r1.len]; exact hl,r.bk ι1 _ H1 _ M1 l1 w1 (jx (p:=none) (e.le l1)) q1⟩⟩
def kf (x:Str) (ul:UA):US:=fun E ρ M => ul ρ M fun us M1 => ∃ k,us = [.p (.int k)]∧xp k∧E.bk (tagU x (some k) ρ) M1
theorem kB {x:Str} (h:ZA n tl ul):ZS (X2 x tl) (kf x ul):=⟨fun A ι σ H ρ M D E w e r q =>
 h.h A ι σ H ρ M _ _ w e q fun us M1 ι1 vs H1 l1 w1 hn r1 ⟨k,eu,sk,q1⟩ => by
  subst eu
  cases r1 with
  | cons a b =>
  cases b
  cases a with
  | p a =>
  cases a
  exact ⟨k,rfl,sk,fun d hd => r.bk ι1 _ _ _ M1 (l1.trans (Le.fresh hd)) (w1.fresh hd) (jx (p:=some k) ((e.le l1).le (Le.fresh hd))) q1⟩⟩
def uTry (n:Nat) (ub:US) (l:List (Str × (Option Int→US))):US:=fun E ρ M => ub { E with bk:=fun τ M' => ∃ nm p ρ' u,τ = tagU nm p ρ'∧ρ'.length = n∧l.lookup nm = some u∧u p E ρ' M' } ρ M
structure ZHs (l:List (Str × (Option Int→TS))) (l':List (Str × (Option Int→US))):Prop where
 h:∀ nm u,l'.lookup nm = some u→∃ t,l.lookup nm = some t∧∀ p,LS (t p) (u p)
theorem zh_nil:ZHs [] []:=⟨fun nm u e => by simp at e⟩
theorem Qd {x:Str} {t:Option Int→TS} {u:Option Int→US} {l:List (Str × (Option Int→TS))} {l':List (Str × (Option Int→US))} (h:∀ p,ZS (t p) (u p)) (hr:ZHs l l'):ZHs ((x,t) :: l) ((x,u) :: l'):=⟨fun nm v e => by
 rw [List.lookup_cons] at e ⊢
 cases hx:(nm == x) with
 | true => rw [hx] at e; cases e; exact ⟨t,rfl,fun p => (h p).h⟩
 | false => rw [hx] at e; exact hr.h nm v e⟩
theorem cs_try {l:List (Str × (Option Int→TS))} {l':List (Str × (Option Int→US))} (hb:ZS tb ub) (hl:ZHs l l'):ZS (tTry n tb l) (uTry n ub l'):=⟨fun A ι σ H ρ M D E w e r q =>
 hb.h A ι σ H ρ M _ { E with bk:=fun τ M' => ∃ nm p ρ' u,τ = tagU nm p ρ'∧ρ'.length = n∧l'.lookup nm = some u∧u p E ρ' M' } w e ⟨r.nx,r.rt,fun ι1 σ1 H1 ρ1 M1 l1 w1 e1 q1 => by
  obtain ⟨nm,p,ρ',u,rfl,hn,hu,q1⟩:=q1
  obtain ⟨t,ht,lk⟩:=hl.h nm u hu
  cases e1 with
  | cons a b =>
  cases b with
  | cons a2 b =>
  obtain ⟨v,rfl,rv⟩:=a _ rfl
  obtain ⟨v2,rfl,rv2⟩:=a2 _ rfl
  cases rv with
  | p rv =>
  cases rv
  cases rv2 with
  | p rv2 =>
  cases pT_inv rv2
  exact ⟨nm,p,_,t,rfl,by rw [b.length]; exact hn,ht,lk p A ι1 _ H1 ρ' M1 D E w1 b (r.le l1) q1⟩,r.ct⟩ q⟩
def uAs (i j k:Nat) (c:Str) (q:Option Int):US:=fun E ρ M => ∃ n,q = some n∧E.nx (((ρ.set j (some (.p (.str c)))).set k (some (.p (.int n)))).set i none) M
theorem cs_as {i j k:Nat} {c:Str} {q:Option Int}:ZS (tAs i j k c q) (uAs i j k c q):=⟨fun A ι σ H ρ M D E w e r h => by
 obtain ⟨m,hq,h⟩:=h
 refine ⟨m,hq,r.nx ι _ H _ M (Le.refl _ _) w ?_ h⟩
 exact Paired.put (fun w z => by cases z) i (EnvR.put (EnvR.put e j (.p (.str c))) k (.p (.int m)))⟩
end
section
variable {P:Program} {w:World} {K:PySem.W.Frag} {mg:Str→Option Value} {base:Heap}
def endX (n:Nat) (Qu:UK) (Xu:UX):UEnds:={ nx:=fun _ M' => Qu (.p .non) M',rt:=Qu,bk:=fun τ M' => ∃ nm p ρ,τ = tagU nm p ρ∧ρ.length = n∧Xu nm p M' }
theorem Fun.zX {x qual:Str} {st:Stmt} {f:Addr} {fd:FuncData} {N ps:List Str} {k:Nat} {G:List U→MM→UK→UX→Prop} (F:Fun K x qual st f fd) (S:FnScope N ps (qc st)) (len:∀ us M Qu Xu,G us M Qu Xu→us.length = ps.length)
  (hbody:∀ (cdv:Value) (A:Around) (outer:List Env) (s:Shared) (H:Hp) (E:XK),Room k (A.deeper (envOfC qual (qc st) s.heap.objs.size f cdv)) →
   ∃ t,QXs True (cxOf (CXe P w) P w K mg base N qual (qc st) f cdv A outer s H E) (qg st) t∧∃ u,ZS t u∧∀ us M Qu Xu,G us M Qu Xu→u (endX N.length Qu Xu) (xP N us) M):FnOk P w K mg base (CXe P w) (k + 1) f fd ps (spX mg G):=by
 refine F.okX S (fun vs H Q E h => ?_) (fun cdv A outer s H vs Q E hr h => ?_)
 ·obtain ⟨A,ι,M,us,Qu,Xu,w1,r,g,_⟩:=h
  rw [r.len]; exact len us M Qu Xu g
 ·obtain ⟨B,ι,M,us,Qu,Xu,w1,r,g,kk,kx⟩:=h
  obtain ⟨t,ht,u,hu,hb⟩:=hbody cdv A outer s H E hr
  refine ⟨t,ht,hu.h B ι _ H _ M _ (endX N.length Qu Xu) w1 (jc r) ⟨fun ι1 σ1 H1 ρ1 M1 l1 w1 e1 q1 => kk _ M1 ι1 _ H1 l1 w1 (.p .non) q1,fun ι1 v H1 z M1 l1 w1 r1 q1 => kk z M1 ι1 v H1 l1 w1 r1 q1,fun ι1 σ1 H1 ρ1 M1 l1 w1 e1 q1 => ?_,fun _ _ _ _ _ _ _ _ q => q.elim⟩ (hb us M Qu Xu g)⟩
  obtain ⟨nm,p,ρ,rfl,hn,q1⟩:=q1
  cases e1 with
  | cons a b =>
  cases b with
  | cons a2 b =>
  obtain ⟨v,rfl,rv⟩:=a _ rfl
  obtain ⟨v2,rfl,rv2⟩:=a2 _ rfl
  cases rv with
  | p rv =>
  cases rv
  cases rv2 with
  | p rv2 =>
  cases pT_inv rv2
  exact ⟨nm,p,_,rfl,by rw [b.length]; exact hn,fun C d hm hp => kx nm p C d M1 ι1 H1 hm hp l1 w1 q1⟩
end
theorem hh_nil {X:Cx} {hs:List ExceptHandler}:∀ nm t C,([]:List (Str × (Option Int→TS))).lookup nm = some t→X.mg nm = some C→∀ p,QH X hs C p (t p):=fun nm t C e _ => by simp at e
theorem Qw {X:Cx} {hs:List ExceptHandler} {x:Str} {C:Value} {t:Option Int→TS} {l:List (Str × (Option Int→TS))} (hb:X.mg x = some C) (h:∀ p,QH X hs C p (t p)) (hr:∀ nm t C,l.lookup nm = some t→X.mg nm = some C→∀ p,QH X hs C p (t p)) :
  ∀ nm t' C',((x,t) :: l).lookup nm = some t'→X.mg nm = some C'→∀ p,QH X hs C' p (t' p):=fun nm t' C' e hm => by
 rw [List.lookup_cons] at e
 cases hx:(nm == x) with
 | true =>
  rw [hx] at e
  cases e
  rw [eq_of_beq hx,hb] at hm
  cases hm
  exact h
 | false => rw [hx] at e; exact hr nm t' C' e hm
end L2
namespace PySem
open Sem (wp)
open Builtin
section
variable {prog:Program} {w:World} {A:Around} {E:Value→Shared→Prop} {h:Heap} {g:Array GenState} {d:Drawn} {t:Nat} {os:OsState} {C x dx:Addr}
theorem jb {b:Value} {Q:Option Value→Shared→Prop} (X:h.CmpInst x C [.type "object"]) (hs:isSame (.ref x) b = pure false) (hq:Q none ⟨h,g,d,t,os⟩):wpAny (model prog w) A (tryCompare (.ref x) "__eq__" b) Q E ⟨h,g,d,t,os⟩:=by
 obtain ⟨o,nm,q,N,bs,hdct,sn,sub,ab,col,dd,k0,k1,k2,k3,k5,newId,mN,hx,hc,hC,hn,he,_⟩:=id X
 have FB:=F.cmp_object
 simp only [tryCompare]
 refine wpAny_bind (wpAny_callSpecialIfBound?_inst hx hc hC hn he FB.mro FB.eq (wpAny_call (codeAny_call_builtin FB.eq.plain F.cmpEntry_eq
  (wpAny_check_slot_inst F.cmpKind_eq F.cmpSplit_eq (F.cmpArgs_eq _ _) FB.hasObject hx hc hC ?_))))
 unfold Builtin.«object.__eq__»
 repeat (first | rw [hs] | wp_step)
 exact hq
theorem Q0 {n:Int} {u:Tok} {Q:Option Value→Shared→Prop} (X:h.CmpInst x C [.type "object"]) (ho:h.get? x = some (W.instObj C dx)) (hq:Q none ⟨h,g,d,t,os⟩):wpAny (model prog w) A (tryCompare (.int n u) "__eq__" (.ref x)) Q E ⟨h,g,d,t,os⟩:=by
 obtain ⟨o,nm,q,N,bs,hdct,sn,sub,ab,col,dd,k0,k1,k2,k3,k5,newId,mN,hx,hc,hC,hn,he,_⟩:=id X
 cases Option.some.inj (hx.symm.trans ho)
 have FS:Slot "int" "__eq__" "int.__eq__" := F.slot_int_eq
 have hcI:(Value.ref C :: [Value.type "object"]).contains (.type "int") = false:=by simp
 refine wpAny_tryCompare_declines (T := "int") rfl FS (wpAny_call (codeAny_call_builtin FS.plain F.entry_int_eq (FS.check _ _ _ _ _ _ _ _ rfl (F.args_int_eq_2 _ _) ?_)))
 unfold Builtin.«int.__eq__»
 repeat (first | (with_reducible refine wpAny_loadPart_at hx ?_; rw [hc]) | (with_reducible refine wpAny_isSubtype_exc hC ?_; rw [hcI]) | wp_step)
 exact ⟨rfl,hq⟩
theorem V4 {n:Int} {u:Tok} {Q:Value→Shared→Prop} (X:h.CmpInst x C [.type "object"]) (ho:h.get? x = some (W.instObj C dx)) (hu:A.units < cLine) (hq:Q (.bool false) ⟨h,g,d,t,os⟩):wpAny (model prog w) A (compareOp .Eq (.ref x) (.int n u)) Q E ⟨h,g,d,t,os⟩:=by
 obtain ⟨o,nm,q,N,bs,hdct,sn,sub,ab,col,dd,k0,k1,k2,k3,k5,newId,mN,hx,hc,hC,hn,he,_⟩:=id X
 have hs:isSame (.ref x) (.int n u) = pure false:=by rfl
 have hsub:isSubtype (.type "int") (.ref C) = pure false:=by rw [isSubtype_type]; rfl
 show wpAny _ _ (richCompare .Eq _ _) _ _ _
 simp only [richCompare,cmpInfo_Eq]
 repeat (first | with_reducible refine wpAny_cRoomFor hu ?_ | (with_reducible refine wpAny_loadPart_at hx ?_; rw [hc]) | rw [hsub] | with_reducible refine jb X hs ?_ | with_reducible refine Q0 X ho ?_ | rw [hs] | wp_step)
 exact hq
theorem V1 {n:Int} {u:Tok} {Q:Value→Shared→Prop} (X:h.CmpInst x C [.type "object"]) (ho:h.get? x = some (W.instObj C dx)) (hu:A.units < cLine) (hq:Q (.bool false) ⟨h,g,d,t,os⟩):wpAny (model prog w) A (compareOp .Eq (.int n u) (.ref x)) Q E ⟨h,g,d,t,os⟩:=by
 obtain ⟨o,nm,q,N,bs,hdct,sn,sub,ab,col,dd,k0,k1,k2,k3,k5,newId,mN,hx,hc,hC,hn,he,_⟩:=id X
 have hs:isSame (.int n u) (.ref x) = pure false:=by rfl
 have hs2:isSame (.ref x) (.int n u) = pure false:=by rfl
 have hcI:(Value.ref C :: [Value.type "object"]).contains (.type "int") = false:=by simp
 show wpAny _ _ (richCompare .Eq _ _) _ _ _
 simp only [richCompare,cmpInfo_Eq]
 repeat (first | with_reducible refine wpAny_cRoomFor hu ?_ | (with_reducible refine wpAny_loadPart_at hx ?_; rw [hc]) | (with_reducible refine wpAny_isSubtype_exc hC ?_; rw [hcI]) | with_reducible refine jb X hs2 ?_ | with_reducible refine Q0 X ho ?_ | rw [hs] | wp_step)
 exact hq
theorem QZ {n:Str} {u:Tok} {Q:Option Value→Shared→Prop} (X:h.CmpInst x C [.type "object"]) (ho:h.get? x = some (W.instObj C dx)) (hq:Q none ⟨h,g,d,t,os⟩):wpAny (model prog w) A (tryCompare (.str n u) "__eq__" (.ref x)) Q E ⟨h,g,d,t,os⟩:=by
 obtain ⟨o,nm,q,N,bs,hdct,sn,sub,ab,col,dd,k0,k1,k2,k3,k5,newId,mN,hx,hc,hC,hn,he,_⟩:=id X
 cases Option.some.inj (hx.symm.trans ho)
 have FS:Slot "str" "__eq__" "str.__eq__" := F.slot_str_eq
 have hcI:(Value.ref C :: [Value.type "object"]).contains (.type "str") = false:=by simp
 refine wpAny_tryCompare_declines (T := "str") rfl FS (wpAny_call (codeAny_call_builtin FS.plain F.entry_str_eq (FS.check _ _ _ _ _ _ _ _ rfl (F.args_str_eq_2 _ _) ?_)))
 unfold Builtin.«str.__eq__»
 repeat (first | (with_reducible refine wpAny_loadPart_at hx ?_; rw [hc]) | (with_reducible refine wpAny_isSubtype_exc hC ?_; rw [hcI]) | wp_step)
 exact ⟨rfl,hq⟩
theorem V3 {n:Str} {u:Tok} {Q:Value→Shared→Prop} (X:h.CmpInst x C [.type "object"]) (ho:h.get? x = some (W.instObj C dx)) (hu:A.units < cLine) (hq:Q (.bool false) ⟨h,g,d,t,os⟩):wpAny (model prog w) A (compareOp .Eq (.ref x) (.str n u)) Q E ⟨h,g,d,t,os⟩:=by
 obtain ⟨o,nm,q,N,bs,hdct,sn,sub,ab,col,dd,k0,k1,k2,k3,k5,newId,mN,hx,hc,hC,hn,he,_⟩:=id X
 have hs:isSame (.ref x) (.str n u) = pure false:=by rfl
 have hsub:isSubtype (.type "str") (.ref C) = pure false:=by rw [isSubtype_type]; rfl
 show wpAny _ _ (richCompare .Eq _ _) _ _ _
 simp only [richCompare,cmpInfo_Eq]
 repeat (first | with_reducible refine wpAny_cRoomFor hu ?_ | (with_reducible refine wpAny_loadPart_at hx ?_; rw [hc]) | rw [hsub] | with_reducible refine jb X hs ?_ | with_reducible refine QZ X ho ?_ | rw [hs] | wp_step)
 exact hq
theorem V0 {n:Str} {u:Tok} {Q:Value→Shared→Prop} (X:h.CmpInst x C [.type "object"]) (ho:h.get? x = some (W.instObj C dx)) (hu:A.units < cLine) (hq:Q (.bool false) ⟨h,g,d,t,os⟩):wpAny (model prog w) A (compareOp .Eq (.str n u) (.ref x)) Q E ⟨h,g,d,t,os⟩:=by
 obtain ⟨o,nm,q,N,bs,hdct,sn,sub,ab,col,dd,k0,k1,k2,k3,k5,newId,mN,hx,hc,hC,hn,he,_⟩:=id X
 have hs:isSame (.str n u) (.ref x) = pure false:=by rfl
 have hs2:isSame (.ref x) (.str n u) = pure false:=by rfl
 have hcI:(Value.ref C :: [Value.type "object"]).contains (.type "str") = false:=by simp
 show wpAny _ _ (richCompare .Eq _ _) _ _ _
 simp only [richCompare,cmpInfo_Eq]
 repeat (first | with_reducible refine wpAny_cRoomFor hu ?_ | (with_reducible refine wpAny_loadPart_at hx ?_; rw [hc]) | (with_reducible refine wpAny_isSubtype_exc hC ?_; rw [hcI]) | with_reducible refine jb X hs2 ?_ | with_reducible refine QZ X ho ?_ | rw [hs] | wp_step)
 exact hq
theorem kL {y:Addr} {oy:Obj} {Q:Option Value→Shared→Prop} (X:h.CmpInst x C [.type "object"]) (hxy:x≠y) (hy:h.get? y = some oy) (hq:Q none ⟨h,g,d,t,os⟩):wpAny (model prog w) A (tryCompare (.ref x) "__eq__" (.ref y)) Q E ⟨h,g,d,t,os⟩:=tryCompare_eq_other F.cmp_object X hy hxy hq
theorem QY {y:Addr} {its:Array Value} {Q:Option Value→Shared→Prop} (X:h.CmpInst x C [.type "object"]) (ho:h.get? x = some (W.instObj C dx)) (Y:PyProof.Rows.IsTup h y its) (hq:Q none ⟨h,g,d,t,os⟩):wpAny (model prog w) A (tryCompare (.ref y) "__eq__" (.ref x)) Q E ⟨h,g,d,t,os⟩:=by
 obtain ⟨o,nm,q,N,bs,hdct,sn,sub,ab,col,dd,k0,k1,k2,k3,k5,newId,mN,hx,hc,hC,hn,he,_⟩:=id X
 cases Option.some.inj (hx.symm.trans ho)
 obtain ⟨oy,hy,hcy,ny,hdy⟩:=Y
 have FS:Slot "tuple" "__eq__" "tuple.__eq__" := F.slot_tuple_eq
 have hcI:(Value.ref C :: [Value.type "object"]).contains (.type "tuple") = false:=by simp
 have hT:(⟨h,g,d,t,os⟩:Shared).TypeIs (.ref y) "tuple" := ⟨_,hy,hcy⟩
 refine wpAny_tryCompare_declines (T := "tuple") hT FS (wpAny_call (codeAny_call_builtin FS.plain F.entry_tuple_eq (FS.check _ _ _ _ _ _ _ _ hT (F.args_tuple_eq_2 _ _) ?_)))
 unfold Builtin.«tuple.__eq__»
 repeat (first | (with_reducible refine wpAny_loadPart_at hx ?_; rw [hc]) | (with_reducible refine wpAny_loadPart_at hy ?_; rw [hcy,hdy]) | (with_reducible refine wpAny_loadPart_at hy ?_; rw [hdy])  | (with_reducible refine wpAny_loadPart_at hy ?_; rw [hcy]) | (with_reducible refine wpAny_isSubtype_exc hC ?_; rw [hcI]) | wp_step)
 exact ⟨rfl,hq⟩
theorem V2 {y:Addr} {its:Array Value} {Q:Value→Shared→Prop} (X:h.CmpInst x C [.type "object"]) (ho:h.get? x = some (W.instObj C dx)) (Y:PyProof.Rows.IsTup h y its) (hu:A.units < cLine) (hq:Q (.bool false) ⟨h,g,d,t,os⟩):wpAny (model prog w) A (compareOp .Eq (.ref x) (.ref y)) Q E ⟨h,g,d,t,os⟩:=by
 obtain ⟨o,nm,q,N,bs,hdct,sn,sub,ab,col,dd,k0,k1,k2,k3,k5,newId,mN,hx,hc,hC,hn,he,_⟩:=id X
 cases Option.some.inj (hx.symm.trans ho)
 obtain ⟨oy,hy,hcy,ny,hdy⟩:=id Y
 have hxy:x≠y:=fun z => by subst z; rw [ho] at hy; cases hy; cases hcy
 have hnt:(W.instObj C dx).cls ≠ .type "tuple" := by intro z; cases z
 have hsub:isSubtype (.type "tuple") (.ref C) = pure false:=by rw [isSubtype_type]; rfl
 show wpAny _ _ (richCompare .Eq _ _) _ _ _
 simp only [richCompare,cmpInfo_Eq,oneThing_ref]
 repeat (first | with_reducible refine wpAny_cRoomFor hu ?_ | (with_reducible refine wpAny_loadPart_at hx ?_; rw [hc]) | (with_reducible refine wpAny_loadPart_at hy ?_; rw [hcy]) | rw [hsub] | with_reducible refine kL X hxy hy ?_ | with_reducible refine QY X ho Y ?_ | with_reducible refine wpAny_isSame_ref_other hxy hx hy hnt ?_ | wp_step)
 exact hq
theorem VZ {y:Addr} {its:Array Value} {Q:Value→Shared→Prop} (X:h.CmpInst x C [.type "object"]) (ho:h.get? x = some (W.instObj C dx)) (Y:PyProof.Rows.IsTup h y its) (hu:A.units < cLine) (hq:Q (.bool false) ⟨h,g,d,t,os⟩):wpAny (model prog w) A (compareOp .Eq (.ref y) (.ref x)) Q E ⟨h,g,d,t,os⟩:=by
 obtain ⟨o,nm,q,N,bs,hdct,sn,sub,ab,col,dd,k0,k1,k2,k3,k5,newId,mN,hx,hc,hC,hn,he,_⟩:=id X
 cases Option.some.inj (hx.symm.trans ho)
 obtain ⟨oy,hy,hcy,ny,hdy⟩:=id Y
 have hxy:x≠y:=fun z => by subst z; rw [ho] at hy; cases hy; cases hcy
 have hnt:(W.instObj C dx).cls ≠ .type "tuple" := by intro z; cases z
 have hcI:(Value.ref C :: [Value.type "object"]).contains (.type "tuple") = false:=by simp
 show wpAny _ _ (richCompare .Eq _ _) _ _ _
 simp only [richCompare,cmpInfo_Eq,oneThing_ref]
 repeat (first | with_reducible refine wpAny_cRoomFor hu ?_ | (with_reducible refine wpAny_loadPart_at hx ?_; rw [hc]) | (with_reducible refine wpAny_loadPart_at hy ?_; rw [hcy]) | (with_reducible refine wpAny_isSubtype_exc hC ?_; rw [hcI]) | with_reducible refine kL X hxy hy ?_ | with_reducible refine QY X ho Y ?_ | with_reducible refine wpAny_isSame_ref_other' hxy.symm hy hx hnt ?_ | wp_step)
 rw [if_neg (by simpa using hxy.symm)]
 refine wpAny_bind (wpAny_load hy (wpAny_bind (wpAny_load hx ?_)))
 rw [hcy,hdy]
 exact wpAny_pure (wpAny_pure hq)
end
end PySem
namespace L2
open PySem PySem.Spec PyProof.Rows
def XG (K:PySem.W.Frag) (C:Addr):Bool:=match K.lookup C with
 | some ⟨.type "type", _, .cls cd,sl⟩ => (match cd.mro,sl.toList with
  | [.ref C', .type "object"], [_,_,_,_,some (.builtin n),_] => C' == C && !cd.hasDel && PySem.W.nsOkIn K cd.ns && PySem.W.nsIn K cd.ns "__eq__" == some none && PySem.W.nsIn K cd.ns "__ne__" == some none
  | _,_ => false)
 | _ => false
theorem jw {K:PySem.W.Frag} {h:Heap} {C x dx:Addr} (X:K.In h) (q:XG K C = true) (hx:h.get? x = some (PySem.W.instObj C dx)):h.CmpInst x C [.type "object"]:=by
 unfold XG at q
 split at q
 ·rename_i dd cd sl ho
  split at q
  ·rename_i C' k0 k1 k2 k3 n k5 hm hs
   obtain ⟨nm,bs,mro,ns,qn,hd,sn,sub,ab,col,del⟩:=cd
   simp only [Bool.and_eq_true,beq_iff_eq,Bool.not_eq_true'] at q hm
   obtain ⟨⟨⟨⟨z1,z3⟩,z5⟩,z6⟩,z7⟩:=q
   subst z1; subst hm; subst z3
   obtain ⟨l⟩:=sl
   have hs:l = _:=hs
   subst hs
   exact ⟨_,nm,qn,ns,bs,hd,sn,sub,ab,col,dd,k0,k1,k2,k3,k5,n,_,hx,rfl,X _ _ ho, .of_isNs (PySem.W.isNs_of_in X z5),PySem.W.nsMap_none_of_in X z5 z6,PySem.W.nsMap_none_of_in X z5 z7⟩
  ·cases q
 ·cases q
abbrev XM (H:Hp) (C a:Addr):Prop:=∃ dx fs,H a = some (.ins C dx fs)
def rEqI (K:PySem.W.Frag) (C:Addr):R2:=fun x y H Q =>
 (∃ a b,x = .ref a∧y = .ref b∧XM H C a∧XM H C b∧Q (.bl (a == b)) H) ∨
 (∃ a,x = .ref a∧XM H C a∧(kW y = true∨∃ b xs,y = .ref b∧SqT K H b xs)∧Q (.bl false) H) ∨
 (∃ a,y = .ref a∧XM H C a∧(kW x = true∨∃ b xs,x = .ref b∧SqT K H b xs)∧Q (.bl false) H)
theorem op_eqI {X:Cx} {K:PySem.W.Frag} {C:Addr} (hK:X.K = K) (hc:XG K C = true) (hu:X.A.units + 64 < cLine):OpR X (compareOp .Eq) (rEqI K C):=by
 subst hK
 intro pins s σ H x y v u Q I rx ry h
 have ins:∀ a,XM H C a→∃ dx,s.heap.get? a = some (PySem.W.instObj C dx):=fun a ⟨dx,fs,e⟩ => by
  obtain ⟨_,_,_,e,_⟩:=I.hok a _ e
  exact ⟨dx,e⟩
 obtain ⟨hp,g,d,t,os⟩:=s
 rcases h with ⟨a,b,rfl,rfl,ia,ib,q⟩ | ⟨a,rfl,ia,hy,q⟩ | ⟨a,rfl,ia,hx,q⟩
 ·obtain rfl:v = Value.ref a:=rx
  obtain rfl:u = Value.ref b:=ry
  obtain ⟨da,ea⟩:=ins a ia
  obtain ⟨db,eb⟩:=ins b ib
  by_cases z:a = b
  ·subst z
   rw [beq_self_eq_true] at q
   exact compareOp_eq_same F.cmp_object (jw I.kIn hc ea) (by omega) ⟨.bl true,H,I,rfl,q⟩
  ·rw [beq_eq_false_iff_ne.mpr z] at q
   exact compareOp_eq_other F.cmp_object F.cmp_object (jw I.kIn hc ea) (jw I.kIn hc eb) z (by omega) ⟨.bl false,H,I,rfl,q⟩
 ·obtain rfl:v = Value.ref a:=rx
  obtain ⟨da,ea⟩:=ins a ia
  rcases hy with hf | ⟨b,xs,rfl,hb⟩
  ·cases y with
   | int i => obtain ⟨t',rfl⟩:=ry; exact V4 (jw I.kIn hc ea) ea (by omega) ⟨.bl false,H,I,rfl,q⟩
   | str i => obtain ⟨t',rfl⟩:=ry; exact V3 (jw I.kIn hc ea) ea (by omega) ⟨.bl false,H,I,rfl,q⟩
   | _ => exact absurd (show false = true from hf) Bool.false_ne_true
  ·obtain rfl:u = Value.ref b:=ry
   obtain ⟨its,r1,p1,_⟩:=I.tuple hb
   exact V2 (jw I.kIn hc ea) ea p1 (by omega) ⟨.bl false,H,I,rfl,q⟩
 ·obtain rfl:u = Value.ref a:=ry
  obtain ⟨da,ea⟩:=ins a ia
  rcases hx with hf | ⟨b,xs,rfl,hb⟩
  ·cases x with
   | int i => obtain ⟨t',rfl⟩:=rx; exact V1 (jw I.kIn hc ea) ea (by omega) ⟨.bl false,H,I,rfl,q⟩
   | str i => obtain ⟨t',rfl⟩:=rx; exact V0 (jw I.kIn hc ea) ea (by omega) ⟨.bl false,H,I,rfl,q⟩
   | _ => exact absurd (show false = true from hf) Bool.false_ne_true
  ·obtain rfl:v = Value.ref b:=rx
   obtain ⟨its,r1,p1,_⟩:=I.tuple hb
   exact VZ (jw I.kIn hc ea) ea p1 (by omega) ⟨.bl false,H,I,rfl,q⟩
abbrev rEqU (K:PySem.W.Frag) (C:Addr):R2:=fun x y H Q => (rEq x y H Q∨rEqT K x y H Q∨rEqFT K x y H Q∨rEqTF K x y H Q)∨rEqI K C x y H Q
theorem op_eqU {X:Cx} {K:PySem.W.Frag} {C:Addr} (hK:X.K = K) (hc:XG K C = true) (hu:X.A.units + 64 < cLine):OpR X (compareOp .Eq) (rEqU K C):=fun pins s σ H x y v u Q I rx ry h => by
 rcases h with h | h
 ·exact op_eqW hK hu pins s σ H x y v u Q I rx ry h
 ·exact op_eqI hK hc hu pins s σ H x y v u Q I rx ry h
def ku (C:Addr) (M:MM) (k:Nat):Prop:=∃ fs,M[k]? = some (.ins C fs)
def Ki:T→Bool
 | .int _ => true
 | .str _ => true
 | .tup _ => true
 | _ => false
def EqUS (C:Addr) (M:MM) (x y:U) (Q:UK):Prop :=
 (∃ a b,sn M x = some a∧sn M y = some b∧sEqW a b fun t => Q (.p t) M) ∨
 (∃ i j,x = .m i∧y = .m j∧ku C M i∧ku C M j∧Q (.p (.bl (i == j))) M) ∨
 (∃ i b,x = .m i∧y = .p b∧ku C M i∧Ki b = true∧Q (.p (.bl false)) M) ∨
 (∃ i a,x = .p a∧y = .m i∧ku C M i∧Ki a = true∧Q (.p (.bl false)) M)
def uEqU (C:Addr) (ua ub:UE):UE:=fun ρ M Q => ua ρ M fun x M1 => ub ρ M1 fun y M2 => EqUS C M2 x y Q
section
variable {K:PySem.W.Frag} {C:Addr} {ta tb:TE} {ua ub:UE}
theorem Vj {A:Addr→Prop} {H:Hp} {v:V} {t:T} (h:Ki t = true) (r:RepT A H v t):kW v = true∨∃ b xs,v = .ref b∧SqT K H b xs:=by
 cases t with
 | int i => cases r; exact .inl rfl
 | str i => cases r; exact .inl rfl
 | tup xs =>
  obtain ⟨p,vs,rfl,_,h1,_⟩:=r.tup_inv
  exact .inr ⟨p,vs,rfl,SqT.of h1⟩
 | _ => cases h
theorem ZF {A:Addr→Prop} {ι:List Addr} {H:Hp} {M:MM} {k:Nat} {a:Addr} (w:Wd A ι H M) (e:ι[k]? = some a) (h:ku C M k):XM H C a:=by
 obtain ⟨fs,h⟩:=h
 obtain ⟨dx,gs,h1,_⟩:=w.obj k a _ e h
 exact ⟨dx,gs,h1⟩
theorem le_eqU (ha:LE ta ua) (hb:LE tb ub):LE (tOp (rEqU K C) ta tb) (uEqU C ua ub):=fun A ι σ H ρ M Qu Q w e q k =>
 ha A ι σ H ρ M _ _ w e q fun x M1 ι1 v H1 l1 w1 r1 q1 => hb A ι1 σ H1 ρ M1 _ _ w1 (e.le l1) q1 fun y M2 ι2 v2 H2 l2 w2 r2 h => by
  have r1:=r1.le l2
  rcases h with ⟨a,b,sa,sb,h⟩ | ⟨i,j,rfl,rfl,hi,hj,h⟩ | ⟨i,b,rfl,rfl,hi,hf,h⟩ | ⟨i,a,rfl,rfl,hi,hf,h⟩
  ·exact .inl (Jv A ι2 H2 M2 v v2 a b _ Q w2 (r1.sn w2 sa) (r2.sn w2 sb) h fun t ι3 z H3 l3 w3 r3 q3 => k _ M2 ι3 z H3 ((l1.trans l2).trans l3) w3 (.p r3) q3)
  ·cases r1 with
   | m ei =>
   cases r2 with
   | m ej =>
   rename_i p q
   refine .inr (.inl ⟨p,q,rfl,rfl,ZF w2 ei hi,ZF w2 ej hj, ?_⟩)
   have eb:(p == q) = (i == j):=by
    by_cases z:i = j
    ·subst z
     rw [ei] at ej; cases ej
     rw [beq_self_eq_true,beq_self_eq_true]
    ·rw [beq_eq_false_iff_ne.mpr z]
     refine beq_eq_false_iff_ne.mpr fun zz => z ?_
     subst zz
     obtain ⟨h1,e1⟩:=List.getElem?_eq_some_iff.mp ei
     obtain ⟨h2,e2⟩:=List.getElem?_eq_some_iff.mp ej
     exact (List.getElem_inj w2.nd).mp (e1.trans e2.symm)
   rw [eb]
   exact k _ _ _ _ _ (l1.trans l2) w2 (.p (.bl _)) h
  ·cases r1 with
   | m ei =>
   cases r2 with
   | p r2 =>
   exact .inr (.inr (.inl ⟨_,rfl,ZF w2 ei hi,Vj hf r2,k _ _ _ _ _ (l1.trans l2) w2 (.p (.bl _)) h⟩))
  ·cases r2 with
   | m ei =>
   cases r1 with
   | p r1 =>
   exact .inr (.inr (.inr ⟨_,rfl,ZF w2 ei hi,Vj hf r1,k _ _ _ _ _ (l1.trans l2) w2 (.p (.bl _)) h⟩))
theorem ce_eqU (ha:ZE ta ua) (hb:ZE tb ub):ZE (tOp (rEqU K C) ta tb) (uEqU C ua ub):=⟨le_eqU ha.h hb.h⟩
theorem Zn {ρ:UEnv} {M:MM} {Q:UK}:uEqU C ua ub ρ M Q = ua ρ M fun x M1 => ub ρ M1 fun y M2 => EqUS C M2 x y Q:=rfl
theorem eqU_pp {M:MM} {a b:T} {Q:UK} (h:sEqW a b fun t => Q (.p t) M) (sa:sn M (.p a) = some a:=by rfl) (sb:sn M (.p b) = some b:=by rfl):EqUS C M (.p a) (.p b) Q:=.inl ⟨a,b,sa,sb,h⟩
theorem eqU_mm {M:MM} {i j:Nat} {Q:UK} (hi:ku C M i) (hj:ku C M j) (h:Q (.p (.bl (i == j))) M):EqUS C M (.m i) (.m j) Q:=.inr (.inl ⟨i,j,rfl,rfl,hi,hj,h⟩)
theorem eqU_mp {M:MM} {i:Nat} {b:T} {Q:UK} (hi:ku C M i) (hf:Ki b = true) (h:Q (.p (.bl false)) M):EqUS C M (.m i) (.p b) Q:=.inr (.inr (.inl ⟨i,b,rfl,rfl,hi,hf,h⟩))
theorem eqU_pm {M:MM} {i:Nat} {a:T} {Q:UK} (hi:ku C M i) (hf:Ki a = true) (h:Q (.p (.bl false)) M):EqUS C M (.p a) (.m i) Q:=.inr (.inr (.inr ⟨i,a,rfl,rfl,hi,hf,h⟩))
end
structure InsTy (K:PySem.W.Frag) (C:Addr):Prop where
 cls:Cls K C
 ha:PySem.W.findIn K (.ref C) "__class__" = some (some (.builtin "object.__class__"))
 hn:PySem.W.specialIn K (.builtin "object.__class__") "__get__" = some (some (.builtin "getset_descriptor.__get__"))
 htk:PySem.W.takesIn K (.builtin "object.__class__") = some true
 hm:PySem.W.mroIn K C (.type "object") = some true
 no:∀ c:TyC,PySem.W.kitOne K (.ref C) (.type c.name) = some false
abbrev rIsiV (K:PySem.W.Frag):List V→Hp→VK→Prop:=fun xs H Q => ∃ x n t b,xs = [x, .ty n]∧TyOf K H x t∧PySem.W.kitOne K t (.type n) = some b∧Q (.bl b) H
def isV (C:Addr) (M:MM):U→TyC→Option Bool
 | .p t,c => some (isT t c)
 | .m k,c => match M[k]? with
  | some (.lst _) => some (isT (.lst []) c)
  | some (.tup _) => some (isT (.tup []) c)
  | some (.ins C' _) => if C' = C then some false else none
  | _ => none
 | .x _ _ _,_ => none
section
variable {K:PySem.W.Frag} {C:Addr} {ta:TE} {ua:UE} {A:Addr→Prop} {ι:List Addr} {H:Hp} {M:MM} {v:V} {u:U}
theorem isV_rep (I:InsTy K C) {c:TyC} {b:Bool} (w:Wd A ι H M) (r:RepU A ι H v u) (e:isV C M u c = some b):∃ t,TyOf K H v t∧PySem.W.kitOne K t (.type c.name) = some b:=by
 by_cases h:isU M u c = some b
 ·obtain ⟨t,h1,h2⟩:=J7 (K:=K) w r h
  exact ⟨_,h1,h2⟩
 ·cases r with
  | p r => exact absurd e h
  | x h => simp [isV] at e
  | m q =>
   obtain ⟨o,h1,h2⟩:=w.al q
   simp only [isV,h1] at e
   simp only [isU,h1] at h
   cases o with
   | lst us => exact absurd e h
   | tup us => exact absurd e h
   | dK => simp at e
   | ins C' fs =>
    dsimp only at e
    split at e
    ·rename_i z
     subst z
     cases e
     obtain ⟨dx,gs,h3,_⟩:=h2
     exact ⟨_, .ins h3 I.cls I.ha I.hn I.htk I.hm,I.no c⟩
    ·cases e
def uIsV (C:Addr) (c:TyC) (ua:UE):UE:=fun ρ M Q => ua ρ M fun x M1 => ∃ b,isV C M1 x c = some b∧Q (.p (.bl b)) M1
theorem le_isV (I:InsTy K C) (c:TyC) (ha:LE ta ua):LE (tCB (rIsiV K) (vo ta (vo (tC (.ty c.name)) tNil))) (uIsV C c ua):=fun A ι σ H ρ M Qu Q w e q k =>
 ha A ι σ H ρ M _ _ w e q fun x M1 ι1 v1 H1 l1 w1 r1 ⟨b,eb,q1⟩ => by
  obtain ⟨t,h1,h2⟩:=isV_rep I w1 r1 eb
  exact ⟨v1,c.name,t,b,rfl,h1,h2,k _ M1 ι1 _ H1 l1 w1 (.p (.bl _)) q1⟩
theorem KB (I:InsTy K C) (c:TyC) (ha:ZE ta ua):ZE (tCB (rIsiV K) (vo ta (vo (tC (.ty c.name)) tNil))) (uIsV C c ua):=⟨le_isV I c ha.h⟩
theorem jf {c:TyC} {ρ:UEnv} {Q:UK}:uIsV C c ua ρ M Q = ua ρ M fun x M1 => ∃ b,isV C M1 x c = some b∧Q (.p (.bl b)) M1:=rfl
end
section
variable {r:Prop} {X:Cx} {e tg:Expr} {tx:TX} {g:TG} {f:Str} {pos:Pos}
def tFldX (K:PySem.W.Frag) (tx:TX) (f:Str):TX:=fun σ H Q E => tx σ H (fun x H1 => ∃ a C dx fs v,x = .ref a∧H1 a = some (.ins C dx fs)∧Cls K C∧NoAttr K C f∧fs.lookup f = some v∧Q v H1) E
theorem qx_fld (he:QXe X e tx) (hb:attributeBase e f X.env (eval e X.env) = eval e X.env:=by rfl):QXe X (.Attribute e f pos) (tFldX X.K tx f):=⟨fun pins s σ H Q E c I h => by
 refine kE hb (thn (he.h pins s σ H _ E c I h) fun u s1 ⟨x,H1,I1,rx,a,C,dx,fs,v,ex,ea,c',n,l,q⟩ => ?_)
 subst ex
 obtain rfl:u = Value.ref a:=rx
 exact kT I1 ea c' n l fun u' s2 I2 ru => ⟨v,H1,I2,ru,q⟩⟩
def tAsgX (tx:TX) (g:TG) (mg:Str→Option Value):TS:=fun D σ H => tx σ H (fun x H1 => g x σ H1 D.nx) (EX mg D σ)
theorem qx_asg (he:QXe X e tx) (hg:QG X.nox tg g) (hs:swapsWithSole [tg] e pos.line X.env = pure false:=by rfl) (hw:swappedStores [tg] e X.env = pure none:=by rfl) (h1:(assignEach [tg] X.env).map (·.2) = [assign tg X.env]:=by rfl) :
  QX r X (.Assign [tg] e pos) (tAsgX tx g X.mg):=⟨fun pins s σ H D k I h => by
 refine wpAny_Assign_stores (thn (he.h pins s σ H _ _ (k.1 σ) I h) fun v s1 ⟨x,H1,I1,r1,q1⟩ => ?_) hs hw
 rw [h1]
 refine wpAny_mono (hg.h pins s1 σ H1 x v _ (I1.wish _) r1 q1) (fun _ s2 ⟨σ',H',I2,q⟩ => ⟨σ',H',I2.unwish,q⟩) fun _ _ z => False.elim z⟩
end
section
variable {K:PySem.W.Frag} {mg:Str→Option Value} {tx:TX} {ux:UXe} {g:TG} {ug:UG} {f:Str}
def XX (K:PySem.W.Frag) (ux:UXe) (f:Str):UXe:=fun ρ M Q X => ux ρ M (fun x M1 => FldS K f x M1 Q) X
theorem cx_fld (h:ZXe mg tx ux):ZXe mg (tFldX K tx f) (XX K ux f):=⟨fun A ι σ H ρ M Qu Xu Q E w e q k kx =>
 h.h A ι σ H ρ M _ Xu _ E w e q (fun x M1 ι1 v H1 l1 w1 r1 ⟨kk,C,fs,u,ex,em,c,na,lk,q1⟩ => by
  subst ex
  cases r1 with
  | m ek =>
  obtain ⟨dx,gs,h1,h2,h3,h4⟩:=w1.obj kk _ _ ek em
  obtain ⟨v',hv,rv⟩:=Zz h4 lk
  exact ⟨_,C,dx,gs,v',rfl,h1,c,na,hv,k _ M1 ι1 v' H1 l1 w1 rv q1⟩) kx⟩
def XZ (ux:UXe) (ug:UG):US:=fun E ρ M => ux ρ M (fun x M1 => ug x ρ M1 E.nx) fun nm p M1 => E.bk (tagU nm p ρ) M1
theorem Ku (h:ZXe mg tx ux) (hg:ZG g ug):ZS (tAsgX tx g mg) (XZ ux ug):=⟨fun A ι σ H ρ M D E w e r q =>
 h.h A ι σ H ρ M _ _ _ _ w e q (fun x M1 ι1 v H1 l1 w1 r1 q1 => hg.h A ι1 σ H1 ρ M1 v x _ _ w1 (e.le l1) r1 q1 fun ρ2 M2 ι2 σ2 H2 l2 w2 e2 q2 => r.nx ι2 σ2 H2 ρ2 M2 (l1.trans l2) w2 e2 q2) fun nm p C d M1 ι1 H1 hm hp l1 w1 q1 => ⟨nm,p,hm,hp,r.bk ι1 _ H1 _ M1 l1 w1 (jx (e.le l1)) q1⟩⟩
end
abbrev Cx.named (X:Cx) (a:Addr) (oe:Obj):Cx:={ X.caught a with pn:=X.pn ++ [(a,oe)] }
structure ExcOb (C:Addr) (d:Option Addr) (oe:Obj):Prop where
 c:oe.cls = .ref C
 d:oe.dict = d
 v:∃ vs,oe.data = .fields vs
def tAsG (i:Nat) (tb:Addr→Option Addr→TS) (q:Option Int):TS:=fun D σ H => ∀ a d,PartIs d H q→tb a d { D with nx:=fun σ' H' => D.nx (σ'.set i none) H',bk:=fun _ _ => False,ct:=fun σ' H' => D.ct (σ'.set i none) H' } (σ.set i (some (.ref a))) H
section
variable {X:Cx} {outer:List Env} {C:Addr} {Cx:Value} {x e:Str} {p pos:Pos} {hs:List ExceptHandler} {i:Nat}
theorem qh_gen {b0:Stmt} {suite:List Stmt} {tb:Addr→Option Addr→TS} {q:Option Int} (Y:Body X outer) (hm:X.mg x = some Cx) (he:PySem.W.exmOne X.K (.ref C) Cx = some true) (hN:X.N.Nodup) (hi:X.N[i]? = some e) (hie:X.env.scope.names.lookup e = some .local)
  (hb:∀ a d oe,ExcOb C d oe→QSs (X.named a oe) (b0 :: suite) (tb a d)) (hg:Gl X x:=by rfl) (hdb:(x == ("__debug__" : Str)) = false:=by decide) :
  QH X (.ExceptHandler (some (.Name x p)) (some e) (b0 :: suite) pos :: hs) (.ref C) q (tAsG i tb q):=⟨fun pins σ H1 s1 d H' s a D I F hq h => by
 have J:=F.inv I
 refine wpAny_handleBy_cons (codeAny_handlers_test (zB (X:=X.caught a) (J.caught a) hg hm ?_ hdb)) (by intro q; cases q)
 refine PySem.W.exm_one J.kIn F.ty he _ _ _ s (fun _ _ z => z) ?_
 show codeAny _ _ _ _ s
 refine codeAny_handlers_suite_as ?_
 obtain ⟨B,a0,fl,st⟩:=F.step
 refine wpAny_mono (DK.any (zE _ _) (lands_againW fl (Q:=fun _ s2 => (Heap.FlyingW B X.stack a (.ref C) a0 s2.heap∧s.heap.UpToSlots s2.heap)∧∃ h',s2 = { s with heap:=h' }) (E:=fun _ _ => False) fun h' x1 x4 => ⟨⟨x1,x4⟩,h',rfl⟩)) (fun _ s2 z => ?_) fun _ _ q => q.1.elim
 obtain ⟨⟨⟨fl',up⟩,h',rfl⟩,kd⟩:=z
 have F2:=st h' fl' up kd
 obtain ⟨n1,n2,oe,vs,hoe,hcl,hdi,hda⟩:=F2.new
 have J2:=F2.pinned Y I hoe hda
 refine wpAny_mono (E:=fun _ _ => False) (zL J2 hN hi (.inl hie) (v:=.ref a) (u:=.ref a) rfl (Q:=fun _ s3 => Inv X (pins ++ [(a,oe)]) (σ.set i (some (.ref a))) H' s3) (fun s3 I3 => I3) (.inr hie)) (fun _ s3 I3 => ?_) fun _ _ z => z.elim
 have I4:=I3.caught a
 have I5:Inv (X.named a oe) pins (σ.set i (some (.ref a))) H' s3:=⟨⟨I4.ok.mod,I4.ok.kind,I4.ok.glob,I4.ok.blt,I4.ok.above,I4.ok.inj,I4.ok.has,I4.ok.cab,I4.ok.hd,I4.ok.frames,I4.ok.stk,I4.ok.exf,I4.ok.bs,I4.ok.bsz,I4.ok.noex,I4.ok.exfs,I4.ok.funs,I4.ok.frf⟩,I4.os,I4.bare,I4.base,I4.loc,I4.cell,I4.free,I4.freeC,fun p hp => I4.pin p (by
  rcases List.mem_append.mp hp with z | z
  ·rcases List.mem_append.mp z with z | z
   ·exact List.mem_append_left _ z
   ·exact List.mem_append_right _ (List.mem_append_right _ z)
  ·exact List.mem_append_right _ (List.mem_append_left _ z)),I4.hok,I4.len⟩
 have back:∀ {σ' H2 s4},Inv (X.named a oe) pins σ' H2 s4→Inv X pins σ' H2 s4:=fun I6 => ⟨I.ok,I6.os,I6.bare,I6.base,I6.loc,I6.cell,I6.free,I6.freeC,fun p hp => I6.pin p (by
  rcases List.mem_append.mp hp with z | z
  ·exact List.mem_append_left _ (List.mem_append_left _ z)
  ·exact List.mem_append_right _ z),I6.hok,I6.len⟩
 refine wpAny_mono ((hb a d oe ⟨hcl,hdi,vs,hda⟩).h pins s3 _ H' _ I5 (h a d hq)) (fun f s4 z => ?_) fun _ _ z => z.elim
 cases f with
 | next =>
  obtain ⟨σ',H2,I6,q⟩:=z
  show wpAny _ _ _ _ _ _
  exact jm (back I6) hN hi hie fun s9 I9 => ⟨_,H2,I9,q⟩
 | cont =>
  obtain ⟨σ',H2,I6,q⟩:=z
  show wpAny _ _ _ _ _ _
  exact jm (back I6) hN hi hie fun s9 I9 => ⟨_,H2,I9,q⟩
 | brk =>
  obtain ⟨σ',H2,I6,q⟩:=z
  exact q.elim
 | ret u =>
  obtain ⟨v,σ',H2,I6,r,q⟩:=z
  show wpAny _ _ _ _ _ _
  exact jm (back I6) hN hi hie fun s9 I9 => ⟨v,_,H2,I9,r,q⟩⟩
end
def tPartE (a:Addr) (d:Option Addr) (ta:TE):TE:=fun σ H Q => ta σ H fun v H1 => v = .ref a∧∃ n x0,d = some x0∧H1 x0 = some (.xd [("part", .int n)])∧Q (.int n) H1
theorem qe_part {X:Cx} {C g a:Addr} {d:Option Addr} {oe:Obj} {o:Expr} {ta:TE} {pos:Pos} (ck:ExcK X.K C g) (na:NoAttr X.K C "part") (ob:ExcOb C d oe) (hp:(a,oe) ∈ X.pn) (ho:QE X o ta) (hab:attributeBase o "part" X.env (eval o X.env) = eval o X.env:=by rfl):QE X (.Attribute o "part" pos) (tPartE a d ta):=⟨fun pins s σ H Q I h => by
 refine kE hab (thn (ho.h pins s σ H _ I h) fun u s1 ⟨v,H1,I1,r,ev,n,x0,ed,hx0,q⟩ => ?_)
 subst ev
 obtain rfl:u = Value.ref a:=r
 obtain ⟨mA,hns,hrel⟩:=I1.hok x0 _ hx0
 obtain ⟨od,hod,hlk⟩:=xu hns
 have hpin:=(I1.pin (a,oe) (List.mem_append_left _ hp)).1
 have hv:∃ t,mA "part" = some (.int n t):=by
  have:=hrel "part"
  obtain ⟨u,hu,t,rfl⟩:=RelO.some_of (v:=.int n) (o:=mA "part") (by simpa using this)
  exact ⟨t,hu⟩
 obtain ⟨tn,hv⟩:=hv
 obtain ⟨vs,hda⟩:=ob.v
 refine PySem.W.getX_value (v:=.int n tn) (C:=C) (od:=some od) I1.kIn ⟨hpin,ob.c,by unfold PySem.W.notCls; rw [hda],by rw [ob.d,ed]; exact hod⟩ ck.ga ck.gt ck.mr ?_ rfl ?_
 ·exact PySem.W.findObj_own ck.hd na rfl (by rw [hlk,hv])
 ·exact ⟨.int n,H1,I1.tok _,⟨_,rfl⟩,q⟩⟩
section
variable {A:Addr→Prop} {ι:List Addr} {H:Hp} {M:MM} {ta:TE} {ua:UE} {a:Addr} {d:Option Addr} {i:Nat}
theorem Wd.not_xd (w:Wd A ι H M) {a:Addr} {fs:List (Str × V)} (h:a ∈ ι):H a≠some (.xd fs):=fun z => by
 obtain ⟨k,e⟩:=List.getElem?_of_mem h
 obtain ⟨o,_,r⟩:=w.al e
 cases o with
 | lst => obtain ⟨vs,e,_⟩:=r; rw [z] at e; cases e
 | tup => obtain ⟨vs,e,_⟩:=r; rw [z] at e; cases e
 | ins => obtain ⟨_,_,e,_⟩:=r; rw [z] at e; cases e
 | dK => obtain ⟨_,e,_⟩:=r; rw [z] at e; cases e
theorem PartIs.x (w:Wd A ι H M) {q:Option Int} (h:PartIs d H q):PartX ι H d q:=by
 cases q with
 | none => exact h
 | some n =>
  obtain ⟨x0,e,hx⟩:=h
  exact ⟨x0,e,fun z => w.not_xd z hx,hx⟩
def uPartE (a:Addr) (d:Option Addr) (ua:UE):UE:=fun ρ M Q => ua ρ M fun x M1 => ∃ n,x = .x a d (some n)∧Q (.p (.int n)) M1
theorem ce_part (ha:ZE ta ua):ZE (tPartE a d ta) (uPartE a d ua):=⟨fun A ι σ H ρ M Qu Q w e q k =>
 ha.h A ι σ H ρ M _ _ w e q fun x M1 ι1 v H1 l1 w1 r1 ⟨n,ex,q1⟩ => by
  subst ex
  cases r1 with
  | x h =>
   obtain ⟨x0,ed,ni,hx⟩:=h
   exact ⟨rfl,n,x0,ed,hx,k _ M1 ι1 _ H1 l1 w1 (.p (.int _)) q1⟩⟩
theorem rd_partE {ρ:UEnv} {Q:UK}:uPartE a d ua ρ M Q = ua ρ M fun x M1 => ∃ n,x = .x a d (some n)∧Q (.p (.int n)) M1:=rfl
def uAsG (i:Nat) (ub:Addr→Option Addr→US) (q:Option Int):US:=fun E ρ M => ∀ a d,ub a d { E with nx:=fun ρ' M' => E.nx (ρ'.set i none) M',bk:=fun _ _ => False,ct:=fun ρ' M' => E.ct (ρ'.set i none) M' } (ρ.set i (some (.x a d q))) M
theorem cs_asG {tb:Addr→Option Addr→TS} {ub:Addr→Option Addr→US} {q:Option Int} (h:∀ a d,ZS (tb a d) (ub a d)):ZS (tAsG i tb q) (uAsG i ub q):=⟨fun A ι σ H ρ M D E w e r z a d hp => by
 have gone:∀ {ι1:List Addr} {σ1:St} {H1:Hp} {ρ1:UEnv},EnvR A ι1 H1 σ1 ρ1→EnvR A ι1 H1 (σ1.set i none) (ρ1.set i none):=fun e1 => Paired.put (fun w z => by cases z) i e1
 exact (h a d).h A ι _ H _ M _ { E with nx:=fun ρ' M' => E.nx (ρ'.set i none) M',bk:=fun _ _ => False,ct:=fun ρ' M' => E.ct (ρ'.set i none) M' } w (EnvR.put e i (.x (hp.x w))) ⟨fun ι1 σ1 H1 ρ1 M1 l1 w1 e1 q1 => r.nx ι1 _ H1 _ M1 l1 w1 (gone e1) q1,r.rt,fun _ _ _ _ _ _ _ _ q => q.elim,fun ι1 σ1 H1 ρ1 M1 l1 w1 e1 q1 => r.ct ι1 _ H1 _ M1 l1 w1 (gone e1) q1⟩ (z a d)⟩
end
end L2
namespace PySem.W
open PySem PySem.Spec PyProof.Rows
section
variable {prog:Program} {w:World} {A:Around} {E:Value→Shared→Prop} {s:Shared} {K:Frag} {x C:Addr} {ox:Obj} {od:Option Obj}
theorem classX {Q:Option Value→Shared→Prop} (X:K.In s.heap) (I:InstAt s.heap x ox C od) (hga:findIn K (.ref C) "__getattribute__" = some (some (.builtin "BaseException.__getattribute__")))
  (hgt:findIn K (.ref C) "__getattr__" = some none) (hm:mroIn K C (.type "BaseException") = some true) (hdct:hasDictIn K C = true) (ha:findIn K (.ref C) "__class__" = some (some (.builtin "object.__class__")))
  (hn:specialIn K (.builtin "object.__class__") "__get__" = some (some (.builtin "getset_descriptor.__get__"))) (htk:takesIn K (.builtin "object.__class__") = some true) (hmo:mroIn K C (.type "object") = some true)
  (h:Q (some (.ref C)) { s with toks:=s.toks + 1 }):wpAny (model prog w) A (getAttr? (.ref x) "__class__") Q E s:=by
 have hf:findObj K C od "__class__" = some (.bind (.builtin "getset_descriptor.__get__") (.builtin "object.__class__")):=by
  obtain ⟨cd,hc,_⟩:=any_some hdct
  unfold findObj
  rw [hc,Option.bind_some,ha,Option.bind_some]
  simp [hn,htk]
 obtain ⟨hp,g,d,t,os⟩:=s
 have L0:=I.type (M:=model prog w)
 have L1:=looks_findIn (M:=model prog w) X hga
 have L2:=looks_findIn (M:=model prog w) X hgt
 have L3:=looks_find (M:=model prog w) X I hf
 have L4:=looks_mroIn (M:=model prog w) X hm
 have FB:=PySem.F.excAttr_ValueError
 have f3:=FB.ga.bind (.ref x)
 have hx2:(Value.builtin "BaseException.__getattribute__" == Value.builtin "object.__getattribute__") = false:=by decide +kernel
 have hx1:(onTheHeap (Value.ref C) && Value.builtin "BaseException.__getattribute__" == Value.builtin "object.__getattribute__") = false:=by rw [hx2]; rfl
 have ha2:=F.args_bexc_ga (.ref x) (.str "__class__" t)
 have hk:builtinKind "BaseException.__getattribute__" = some .slot:=by decide +kernel
 have hsplit:splitId "BaseException.__getattribute__" = some ("BaseException", "__getattribute__"):=by decide +kernel
 unfold getAttr? getAttrBy? getAttrBy
 refine wpAny_bind (wpAny_mkText (wpAny_bind (wpAny_attempt (wpAny_holding (wpAny_bind (L0.at (wpAny_bind (L1.at ?_))))))))
 repeat (any_goals (first | assumption | with_reducible refine L0.at ?_ | with_reducible refine L2.at ?_ | wp_step))
 refine codeAny_call_builtin FB.ga.plain F.entry_bexc_ga ?_
 simp only [checkBuiltinCall,hk,hsplit,List.cons_append,List.nil_append]
 refine wpAny_bind ?_
 unfold isInstance
 refine wpAny_bind (L0.at (L4.at ?_))
 repeat (any_goals (first | assumption | with_reducible refine L0.at ?_ | with_reducible refine L3.at ?_ | wp_step))
 refine class_get (s:=⟨hp,g,d,t + 1,os⟩) (ox:=ox) (od:=od) X I hmo ?_
 refine wpAny_pure ?_
 show wpAny _ _ (handedOut _) _ _ _
 rw [handedOut_of (by rfl)]
 exact wpAny_pure (wpAny_pure h)
theorem kitx_exc (hga:findIn K (.ref C) "__getattribute__" = some (some (.builtin "BaseException.__getattribute__")))
  (hgt:findIn K (.ref C) "__getattr__" = some none) (hm:mroIn K C (.type "BaseException") = some true) (hdct:hasDictIn K C = true) (ha:findIn K (.ref C) "__class__" = some (some (.builtin "object.__class__")))
  (hn:specialIn K (.builtin "object.__class__") "__get__" = some (some (.builtin "getset_descriptor.__get__"))) (htk:takesIn K (.builtin "object.__class__") = some true) (hmo:mroIn K C (.type "object") = some true) :
  KitX K (.ref x) (.ref C) (fun h => InstAt h x ox C od) where
 ty:=fun _ _ _ I => I.type
 it:=fun _ _ X _ => by
  obtain ⟨cdD,hcD,_⟩:=any_some hdct
  unfold clsIn at hcD
  split at hcD
  ·rename_i c' d' cd' sl' ho
   intro A' Q' E' s' k q
   unfold isType loadHead
   exact wpAny_bind (wpAny_loadPart (k _ _ (X _ _ ho)) (wpAny_pure q))
  ·cases hcD
 ne:=fun h tp dd its n sl X htp => by
  obtain ⟨cdD,hcD,_⟩:=any_some hdct
  refine Bool.eq_false_iff.mpr fun q => ?_
  have e:C = tp:=Value.ref.inj (beq_iff_eq.mp q)
  subst e
  unfold clsIn at hcD
  split at hcD
  ·rename_i c' d' cd' sl' ho
   have z:=(X _ _ ho).symm.trans htp
   cases z
  ·cases hcD
 ca:=fun X I k => classX X I hga hgt hm hdct ha hn htk hmo k
end
end PySem.W
namespace L2
open PySem PySem.Spec PyProof.Rows
structure ExcT (K:PySem.W.Frag) (C:Addr):Prop where
 ga:PySem.W.findIn K (.ref C) "__getattribute__" = some (some (.builtin "BaseException.__getattribute__"))
 gt:PySem.W.findIn K (.ref C) "__getattr__" = some none
 mr:PySem.W.mroIn K C (.type "BaseException") = some true
 hd:PySem.W.hasDictIn K C = true
 ha:PySem.W.findIn K (.ref C) "__class__" = some (some (.builtin "object.__class__"))
 hn:PySem.W.specialIn K (.builtin "object.__class__") "__get__" = some (some (.builtin "getset_descriptor.__get__"))
 htk:PySem.W.takesIn K (.builtin "object.__class__") = some true
 hmo:PySem.W.mroIn K C (.type "object") = some true
def clsV:V→Option Value
 | .ty n => some (.type n)
 | .ref D => some (.ref D)
 | _ => none
theorem ZW {c:V} {cv u:Value} (h:clsV c = some cv) (r:RelV c u):u = cv:=by
 cases c with
 | ty n => cases h; exact r
 | ref D => cases h; exact r
 | _ => cases h
abbrev rIsX (K:PySem.W.Frag) (C a:Addr) (d:Option Addr):List V→Hp→VK→Prop:=fun xs H Q => ∃ c cv b q,xs = [.ref a,c]∧clsV c = some cv∧PySem.W.kitOne K (.ref C) cv = some b∧PartIs d H q∧Q (.bl b) H
abbrev rIsXT (K:PySem.W.Frag) (C a:Addr) (d:Option Addr):List V→Hp→VK→Prop:=fun xs H Q => ∃ p cs cvs b q,xs = [.ref a, .ref p]∧H p = some (.tup cs)∧cs.map clsV = cvs.map some∧PySem.W.kitAny K (.ref C) cvs = some b∧PartIs d H q∧Q (.bl b) H
section
variable {X:Cx} {K:PySem.W.Frag} {C a:Addr} {d:Option Addr} {oe:Obj}
theorem exc_at {pins:List (Addr × Obj)} {σ:St} {H:Hp} {s:Shared} {q:Option Int} (I:Inv X pins σ H s) (ob:ExcOb C d oe) (hp:(a,oe) ∈ X.pn) (hq:PartIs d H q):∃ od,PySem.W.InstAt s.heap a oe C od:=by
 have hpin:=(I.pin (a,oe) (List.mem_append_left _ hp)).1
 obtain ⟨vs,hda⟩:=ob.v
 cases q with
 | none =>
  have hq:d = none:=hq
  exact ⟨none,hpin,ob.c,by unfold PySem.W.notCls; rw [hda],by rw [ob.d,hq]; trivial⟩
 | some n =>
  obtain ⟨x0,ed,hx0⟩:=hq
  obtain ⟨mA,hns,hrel⟩:=I.hok x0 _ hx0
  obtain ⟨od,hod,hlk⟩:=xu hns
  exact ⟨some od,hpin,ob.c,by unfold PySem.W.notCls; rw [hda],by rw [ob.d,ed]; exact hod⟩
theorem xN (hK:X.K = K) (t:ExcT K C) (ob:ExcOb C d oe) (hp:(a,oe) ∈ X.pn):xz X (.builtin "isinstance") (rIsX K C a d):=by
 subst hK
 intro pins s σ H xs us Q I r h
 obtain ⟨c,cv,b,q,rfl,hc,e,hq,k⟩:=h
 obtain ⟨u,v,rfl,ru,rv⟩:=XO r
 obtain rfl:u = Value.ref a:=ru
 obtain rfl:=ZW hc rv
 obtain ⟨od,J⟩:=exc_at I ob hp hq
 exact PySem.W.kia_one (PySem.W.kitx_exc t.ga t.gt t.mr t.hd t.ha t.hn t.htk t.hmo) I.kIn J e (fun z => nomatch z) fun tk => ⟨.bl b,H,I.tok tk,rfl,k⟩
theorem Vp:∀ {cs:List V} {cvs us:List Value},cs.map clsV = cvs.map some→Vals cs us→us = cvs
 | [], [],_,_, .nil => rfl
 | c :: cs,v :: cvs,_,h, .cons r q => by
  simp only [List.map_cons,List.cons.injEq] at h
  rw [ZW h.1 r,Vp h.2 q]
 | [],_ :: _,_,h,_ => by simp at h
 | _ :: _, [],_,h,_ => by simp at h
theorem Vs (hK:X.K = K) (t:ExcT K C) (ob:ExcOb C d oe) (hp:(a,oe) ∈ X.pn):xz X (.builtin "isinstance") (rIsXT K C a d):=by
 subst hK
 intro pins s σ H xs us Q I r h
 obtain ⟨p,cs,cvs,b,q,rfl,hpp,hc,e,hq,k⟩:=h
 obtain ⟨u,v,rfl,ru,rv⟩:=XO r
 obtain rfl:u = Value.ref a:=ru
 obtain rfl:v = Value.ref p:=rv
 obtain ⟨_,its,r1,o,ho,hcl,n,hd⟩:=(show ObjOk X.prog X.w H s.heap p (.tup cs) from I.hok p _ hpp)
 obtain rfl:=Vp hc r1
 obtain ⟨c,dd,dt,sl⟩:=o
 simp only at hcl hd
 subst hcl hd
 obtain ⟨od,J⟩:=exc_at I ob hp hq
 exact PySem.W.kia_tup (PySem.W.kitx_exc t.ga t.gt t.mr t.hd t.ha t.hn t.htk t.hmo) I.kIn J ho e (fun z => nomatch z) fun tk => ⟨.bl b,H,I.tok tk,rfl,k⟩
end
section
variable {K:PySem.W.Frag} {C a:Addr} {d:Option Addr} {ta:TE} {ua:UE}
def uIsX (a:Addr) (d:Option Addr) (b:Bool) (ua:UE):UE:=fun ρ M Q => ua ρ M fun x M1 => (∃ q,x = .x a d q)∧Q (.p (.bl b)) M1
theorem PartX.is {ι:List Addr} {H:Hp} {q:Option Int} (h:PartX ι H d q):PartIs d H q:=by
 cases q with
 | none => exact h
 | some n =>
  obtain ⟨x0,e,_,hx⟩:=h
  exact ⟨x0,e,hx⟩
theorem PartIs.fresh {H:Hp} {q:Option Int} {p:Addr} {o:HO} (h:PartIs d H q) (hp:H p = none):PartIs d (upd H p o) q:=by
 cases q with
 | none => exact h
 | some n =>
  obtain ⟨x0,e,hx⟩:=h
  exact ⟨x0,e,xo hp hx⟩
theorem Qb {c:V} {cv:Value} {b:Bool} (hc:clsV c = some cv) (hk:PySem.W.kitOne K (.ref C) cv = some b) (ha:ZE ta ua):ZE (tCB (rIsX K C a d) (vo ta (vo (tC c) tNil))) (uIsX a d b ua):=⟨fun A ι σ H ρ M Qu Q w e q k =>
 ha.h A ι σ H ρ M _ _ w e q fun x M1 ι1 v H1 l1 w1 r1 ⟨⟨qq,ex⟩,q1⟩ => by
  subst ex
  cases r1 with
  | x h => exact ⟨c,cv,b,qq,rfl,hc,hk,h.is,k _ M1 ι1 _ H1 l1 w1 (.p (.bl _)) q1⟩⟩
abbrev VB:List V→TA
 | [] => tNil
 | c :: cs => vo (tC c) (VB cs)
theorem kM {σ:St} {H:Hp} {R:List V→Hp→Prop}:∀ (cs:List V),R cs H→VB cs σ H R
 | [],h => h
 | c :: cs,h => kM (R:=fun vs H => R (c :: vs) H) cs h
theorem Kz {cs:List V} {cvs:List Value} {b:Bool} (hc:cs.map clsV = cvs.map some) (hk:PySem.W.kitAny K (.ref C) cvs = some b) (ha:ZE ta ua) (hl:cs.length≤100:=by decide):ZE (tCB (rIsXT K C a d) (vo ta (vo (tTup (VB cs)) tNil))) (uIsX a d b ua):=⟨fun A ι σ H ρ M Qu Q w e q k =>
 ha.h A ι σ H ρ M _ _ w e q fun x M1 ι1 v H1 l1 w1 r1 ⟨⟨qq,ex⟩,q1⟩ => by
  subst ex
  cases r1 with
  | x h =>
   refine kM cs ⟨Nat.le_trans hl (by show 100≤sizeLine; decide),fun p hp => ?_⟩
   exact ⟨p,cs,cvs,b,qq,rfl,upd_same,hc,hk,h.is.fresh hp,k _ M1 ι1 _ _ (l1.trans (.fresh hp)) (w1.fresh hp) (.p (.bl _)) q1⟩⟩
theorem rd_isX {b:Bool} {ρ:UEnv} {M:MM} {Q:UK}:uIsX a d b ua ρ M Q = ua ρ M fun x M1 => (∃ q,x = .x a d q)∧Q (.p (.bl b)) M1:=rfl
end
def tMkX (C:Addr) (t:TA):TE:=fun σ H Q => t σ H fun vs H1 => ∃ n,vs = [.int n]∧xp n∧∀ a d,H1 a = none→H1 d = none→d≠a→Q (.ref a) (upd (upd H1 d (.xd [("part", .int n)])) a (excO a C (some d)))
theorem qe_mkX {X:Cx} {x:Str} {C:Addr} {kk:Nat} {np pos:Pos} {e:Expr} {es:List Expr} {ta:TA} (O:ExcD X.prog X.w X.K X.mg X.base x C kk) (hk:PySem.W.keepIn X.K (.ref C) = true) (hr:Room (kk + 1) X.A) (ha:QA X (e :: es) ta) (hg:Gl X x:=by rfl)
  (hdb:(x == ("__debug__" : Str)) = false:=by decide) (he:starEach (e :: es) X.env = (false,eval e X.env) :: starEach es X.env:=by rfl) (hpl:(backTo pos (starEach es X.env)).any (·.1) = false:=by rfl) :
  QE X (.Call (.Name x np) (e :: es) [] pos) (tMkX C ta):=⟨fun pins s σ H Q I h => by
 obtain ⟨f,fd,ck,hb,F⟩:=O.ex
 refine wpAny_Call_Name_kw (zB I hg O.b ?_ hdb)
 refine PySem.W.callWith_K (h₀:=X.base) I.ok.mod.kin hk (thn (ha.h pos pins s σ H _ I h) fun us s1 ⟨vs,H1,I1,r,n,ev,hn,q⟩ => ⟨I1.kIn, ?_⟩) he hpl
 subst ev
 have hl1:us.length = 1:=by rw [← r.length]; rfl
 refine PySem.W.call_init (PySem.W.excI_of I1.kIn ck.i) (by show us.length≤_; rw [hl1,sizeLine_eq]; omega) fun h' e' hm => ?_
 obtain ⟨fr,J⟩:=I1.exc hm
 have r2:Vals [V.ref e',V.int n] (Value.ref e' :: us):=.cons rfl r
 refine wpAny_call (codeAny_mono (F.run _ X.stack _ _ ⟨Value.ref e' :: us, []⟩ (Value.ref e' :: us) _ (fun v H2 => v = .non∧∃ d,H1 d = none∧d≠e'∧H2 = upd (upd (upd H1 e' (excO e' C none)) d (.xd [("part", .int n)])) e' (excO e' C (some d))) E0 (hr.make C us [])
  (J.env0.make C us []) (by simpa using hb _ (Value.ref e' :: us) J.kIn (by simp [hl1])) r2 ⟨e',n,rfl,hn,upd_same,fun d hd => ⟨rfl,d, ?_, ?_,rfl⟩⟩) fun rr s' hq' => ?_)
 ·by_cases z:d = e'
  ·subst z; rw [upd_same] at hd; cases hd
  ·rwa [upd_ne z] at hd
 ·intro z; subst z; rw [upd_same] at hd; cases hd
 ·cases rr with
  | error e => exact False.elim hq'
  | ok fl =>
   cases fl with
   | ret u =>
    obtain ⟨v,H2,I3,rv,ev,d,hd1,hd2,eH⟩:=J.after hq'
    subst ev eH
    refine ⟨rv, .ref e',_,I3,rfl, ?_⟩
    have eU:upd (upd (upd H1 e' (excO e' C none)) d (.xd [("part", .int n)])) e' (excO e' C (some d)) = upd (upd H1 d (.xd [("part", .int n)])) e' (excO e' C (some d)):=by
     funext b
     unfold upd
     by_cases z:b = e'
     ·subst z; simp only [if_true]
     ·simp only [z,if_false]
    rw [eU]
    exact q e' d fr hd1 hd2
   | _ => exact False.elim hq'⟩
def tPartO (C:Addr) (ta:TE):TE:=fun σ H Q => ta σ H fun v H1 => ∃ a n x0,v = .ref a∧H1 a = some (excO a C (some x0))∧H1 x0 = some (.xd [("part", .int n)])∧Q (.int n) H1
theorem qe_partO {X:Cx} {C g:Addr} {o:Expr} {ta:TE} {pos:Pos} (ck:ExcK X.K C g) (na:NoAttr X.K C "part") (ho:QE X o ta) (hab:attributeBase o "part" X.env (eval o X.env) = eval o X.env:=by rfl):QE X (.Attribute o "part" pos) (tPartO C ta):=⟨fun pins s σ H Q I h => by
 refine kE hab (thn (ho.h pins s σ H _ I h) fun u s1 ⟨v,H1,I1,r,a,n,x0,ev,ha,hx0,q⟩ => ?_)
 subst ev
 obtain rfl:u = Value.ref a:=r
 obtain ⟨mA,hns,hrel⟩:=I1.hok x0 _ hx0
 obtain ⟨od,hod,hlk⟩:=xu hns
 obtain ⟨t,ht⟩:=ju I1.hok ha
 have hv:∃ t,mA "part" = some (.int n t):=by
  have:=hrel "part"
  obtain ⟨u,hu,t,rfl⟩:=RelO.some_of (v:=.int n) (o:=mA "part") (by simpa using this)
  exact ⟨t,hu⟩
 obtain ⟨tn,hv⟩:=hv
 refine PySem.W.getX_value (v:=.int n tn) (C:=C) (od:=some od) I1.kIn ⟨ht,rfl,rfl,hod⟩ ck.ga ck.gt ck.mr ?_ rfl ?_
 ·exact PySem.W.findObj_own ck.hd na rfl (by rw [hlk,hv])
 ·exact ⟨.int n,H1,I1.tok _,⟨_,rfl⟩,q⟩⟩
section
variable {A:Addr→Prop} {ι:List Addr} {H H':Hp} {M:MM} {K:PySem.W.Frag} {ta tb:TE} {ua ub:UE}
theorem Wd.ext (w:Wd A ι H M) (h:∀ x o,H x = some o→H' x = some o):Wd A ι H' M:=by
 have l:Le ι H ι H':=⟨⟨[],by simp,by simp⟩,fun x o e _ => h x o e,fun x e => by
  cases q:H x with
  | none => exact absurd q e
  | some o => rw [h x o q]; simp⟩
 refine ⟨w.nd,w.len,fun x hx => l.al x (w.dom x hx),w.na,fun k a o e1 e2 => ?_⟩
 have r:=w.obj k a o e1 e2
 obtain ⟨q,hq⟩:=r.some
 exact r.le' l (by rw [h a q hq,hq]) fun x hx => by rw [h x _ hx,hx]
def uCmpF (neg:Bool) (ua ub:UE):UE:=fun ρ M Q => ua ρ M fun x M1 => ub ρ M1 fun y M2 => ∃ a b,frzN 5 M2 x = some a∧frzN 5 M2 y = some b∧sEqL neg a b fun t => Q (.p t) M2
theorem le_cmpF {r:R2} {neg:Bool} (hop:OpL r (sEqL neg)) (ha:LE ta ua) (hb:LE tb ub):LE (tOp r ta tb) (uCmpF neg ua ub):=fun A ι σ H ρ M Qu Q w e q k =>
 ha A ι σ H ρ M _ _ w e q fun x M1 ι1 v H1 l1 w1 r1 q1 => hb A ι1 σ H1 ρ M1 _ _ w1 (e.le l1) q1 fun y M2 ι2 v2 H2 l2 w2 r2 ⟨a,b,ea,eb,q⟩ => by
  have r1':=kA w2 (r1.le l2) ea
  have r2':=kA w2 r2 eb
  have up:∀ {v t},RepT A H2 v t→RepT (Av A []) H2 v t:=fun r => r.mono fun x o hx e => ⟨e,fun z => hx (z.elim id fun z => by simp at z)⟩
  have w0:Wd A [] H2 []:=⟨List.nodup_nil,rfl,w2.dom,by simp,by simp⟩
  refine hop A [] H2 [] v v2 a b (fun t => ∃ c,t = .bl c∧Qu (.p t) M2) Q w0 (.of (up r1')) (.of (up r2')) ?_ fun t ι3 z H3 l3 w3 r3 ⟨c,et,q3⟩ => ?_
  ·obtain ⟨xs,ys,ex,ey,h⟩:=q
   refine ⟨xs,ys,ex,ey, ?_⟩
   rcases h with ⟨hl,q⟩ | ⟨hl,ee,he,q⟩
   ·exact .inl ⟨hl,_,rfl,q⟩
   ·exact .inr ⟨hl,ee,he,_,rfl,q⟩
  ·subst et
   cases r3
   have le23:Le ι2 H2 ι2 H3:=⟨⟨[],by simp,by simp⟩,fun x o e _ => l3.fr x o e (by simp),l3.al⟩
   exact k _ M2 ι2 _ H3 ((l1.trans l2).trans le23) (w2.ext fun x o e => l3.fr x o e (by simp)) (.p (.bl _)) q3
theorem ce_neF (ha:ZE ta ua) (hb:ZE tb ub):ZE (tOp (rNeL K) ta tb) (uCmpF true ua ub):=⟨le_cmpF Ju ha.h hb.h⟩
theorem rd_cmpF {neg:Bool} {ρ:UEnv} {Q:UK}:uCmpF neg ua ub ρ M Q = ua ρ M fun x M1 => ub ρ M1 fun y M2 => ∃ a b,frzN 5 M2 x = some a∧frzN 5 M2 y = some b∧sEqL neg a b fun t => Q (.p t) M2:=rfl
def flD:Nat→T→Prop
 | 0,_ => False
 | n + 1, .tup xs => ∀ x ∈ xs,flD n x
 | n + 1, .lst xs => ∀ x ∈ xs,flD n x
 | _ + 1,_ => True
theorem QJ:∀ {n:Nat} {t:T},flD n t→∃ r,EqT n t t r
 | 0,_,h => h.elim
 | n + 1, .non,_ => ⟨_, .flat rfl rfl⟩
 | n + 1, .bl b,_ => ⟨_, .flat rfl rfl⟩
 | n + 1, .int i,_ => ⟨_, .flat rfl rfl⟩
 | n + 1, .str s,_ => ⟨_, .flat rfl rfl⟩
 | n + 1, .tup xs,h => by
  have:∀ j:Nat,∃ r,∀ x,xs[j]? = some x→EqT n x x r:=fun j => by
   cases e:xs[j]? with
   | none => exact ⟨true,fun x z => by cases z⟩
   | some x =>
    obtain ⟨r,hr⟩:=QJ (h x (List.mem_of_getElem? e))
    exact ⟨r,fun y z => by cases z; exact hr⟩
  exact ⟨_, .tup (e:=fun j => (this j).choose) fun j x y hx hy => by rw [hx] at hy; cases hy; exact (this j).choose_spec x hx⟩
 | n + 1, .lst xs,h => by
  have:∀ j:Nat,∃ r,∀ x,xs[j]? = some x→EqT n x x r:=fun j => by
   cases e:xs[j]? with
   | none => exact ⟨true,fun x z => by cases z⟩
   | some x =>
    obtain ⟨r,hr⟩:=QJ (h x (List.mem_of_getElem? e))
    exact ⟨r,fun y z => by cases z; exact hr⟩
  exact ⟨_, .lst (e:=fun j => (this j).choose) rfl fun j x y hx hy => by rw [hx] at hy; cases hy; exact (this j).choose_spec x hx⟩
theorem j9 {xs:List T} {neg:Bool} {Q:T→Prop} (h:∀ x ∈ xs,flD 20 x) (q:Q (.bl (!neg))):sEqL neg (.lst xs) (.lst xs) Q:=by
 have:∀ j:Nat,∃ r,∀ x,xs[j]? = some x→EqT 20 x x r:=fun j => by
  cases e:xs[j]? with
  | none => exact ⟨true,fun x z => by cases z⟩
  | some x =>
   obtain ⟨r,hr⟩:=QJ (h x (List.mem_of_getElem? e))
   exact ⟨r,fun y z => by cases z; exact hr⟩
 refine ⟨xs,xs,rfl,rfl, .inr ⟨rfl,fun j => (this j).choose,fun j x y hx hy => by rw [hx] at hy; cases hy; exact (this j).choose_spec x hx, ?_⟩⟩
 have e:(List.range xs.length).all (fun j => (this j).choose) = true:=by
  rw [List.all_eq_true]
  intro j hj
  have hj:=List.mem_range.mp hj
  exact ((this j).choose_spec _ (List.getElem?_eq_getElem hj)).self rfl
 rw [e]
 cases neg <;> exact q
end
theorem jo {X:Cx} {a:Addr} {oe:Obj}:(a,oe) ∈ (X.named a oe).pn:=List.mem_append_right _ (List.mem_singleton.mpr rfl)
theorem j2:bootBuiltins "ValueError" = some (.type "ValueError"):=by decide +kernel
def uMkPart (n:Int) (i:Nat):US:=fun E ρ M => xp n∧i < ρ.length∧E.rt (.p (.bl true)) M
theorem Kt {C:Addr} {n:Int} {i:Nat}:ZS (tSeq (tAsg (tMkX C (vo (tC (.int n)) tNil)) (qI i)) (tRet (tOp rEq (tPartO C (tVar i)) (tC (.int n))))) (uMkPart n i):=⟨fun A ι σ H ρ M D E w e r ⟨hn,hi,q⟩ => by
 show ∃ m, [V.int n] = [V.int m]∧xp m∧∀ a d,H a = none→H d = none→d≠a→_
 refine ⟨n,rfl,hn,fun a d ha hd hne => ?_⟩
 have hda:upd H d (.xd [("part", .int n)]) a = none:=by rw [upd_ne (Ne.symm hne)]; exact ha
 refine ⟨.ref a,List.getElem?_set_self (by rw [e.len]; exact hi),a,n,d,rfl,upd_same,by rw [upd_ne hne,upd_same], ?_⟩
 refine ⟨rfl, ?_⟩
 rw [decide_eq_true rfl]
 exact r.rt ι _ _ _ M ((Le.fresh hd).trans (.fresh hda)) ((w.fresh hd).fresh hda) (.p (.bl _)) q⟩
theorem Zi {k:Nat} {us:List U} {ρ0:UEnv} {M:MM} {ug:UG} {ut:UT} {ua:UE} {Q:UK} (hz:us.length≤sizeLine) (Iv:Nat→List T→MM→Prop) (h0:Iv 0 [] M) (hk:∀ i acc M2,Iv i acc M2→M2[k]? = some (.lst us))
  (hs:∀ i u acc M2,us[i]? = some u→acc.length≤i→Iv i acc M2→ug u ρ0 M2 fun ρ4 M4 => ut ρ4 M4 fun b M5 => if b = true then ua ρ4 M5 fun z M6 => ∃ t,z = .p t∧Iv (i + 1) (acc ++ [t]) M6 else Iv (i + 1) acc M5) (hd:∀ acc M2,Iv us.length acc M2→Q (.p (.lst acc)) M2):UComp (itU (.m k) us) ug ut ua ρ0 M Q :=
 ⟨by simpa [itU] using hz,Iv,h0,fun i acc M2 hi ha h => ⟨by show vf M2 (.m k) = _; simp [vf,hk i acc M2 h],fun u hu => hs i u acc M2 hu ha h⟩,fun acc M2 h => ⟨by show vf M2 (.m k) = _; simp [vf,hk _ acc M2 h],hd acc M2 h⟩⟩
end L2
namespace Hd
open PySem PySem.W PySem.Calls PyProof.Rows
def topT (tb:String→Option Builtin) (p:Program) (w:World) (m:Nat) (an:Option Value):Nat→SharedT→Thread→Option SharedT
 | 0,_,_ => none
 | k + 1,s,t => match through t with
  | true => some s
  | false => match stepOk m an t with
   | false => none
   | true => match stepT (denote tb) p w s t with
    | some (s1,t1) => topT tb p w m an k s1 t1
    | none => none
theorem Zj {tb:String→Option Builtin} {p:Program} {w:World} {m:Nat} {an:Option Value} :
  ∀ {k:Nat} {s r:SharedT} {t:Thread},topT tb p w m an k s t = some r→topRun tb p w m an k s.abs t = some r.abs
 | 0,_,_,_,h => by cases h
 | k + 1,s,r,t,h => by
  unfold topT at h
  unfold topRun
  cases ht:through t with
  | true => rw [ht] at h; cases h; rfl
  | false =>
   rw [ht] at h
   cases hk:stepOk m an t with
   | false => rw [hk] at h; cases h
   | true =>
    rw [hk] at h
    cases hs:stepT (denote tb) p w s t with
    | none => rw [hs] at h; cases h
    | some x =>
     obtain ⟨s1,t1⟩:=x
     rw [hs] at h
     rw [stepT_spec hs]
     exact Zj h
noncomputable def bootT (P:Params):BT :=
 .node (boot_o_0 P) (.node (boot_o_1 P) (.node (boot_o_3 P) (.node (boot_o_7 P) .nil .nil) .nil) (.node (boot_o_5 P) (.node (boot_o_9 P) .nil .nil) .nil))
  (.node (boot_o_2 P) (.node (boot_o_4 P) (.node (boot_o_8 P) .nil .nil) .nil) (.node (boot_o_6 P) (.node (boot_o_10 P) .nil .nil) .nil))
abbrev bootL:Life:={}
theorem KF (P:Params):boot_heap P = absHeap (bootT P) 11 bootL:=by kernel_rfl
noncomputable def S0 (w:World) (os:OsState):SharedT:=⟨bootT w.params,11,bootL, #[],boot_drawn,boot_toks,os⟩
noncomputable def Look (p q:Program) (loose:List Str) (Xt:Shared→Bool) {α:Type} (Yf:Shared→α) (w:World) (s:Shared) :=
 ((staticsOk (importedModules p.main.body) (boot_heap w.params) s.heap && namesBound p s.heap && gensDone s && laidKept (boot_heap w.params) s.heap),openSeen q loose (importedModules p.main.body) Xt true s,Yf s)
theorem left_of {p q:Program} {loose:List Str} {Xt:Shared→Bool} {α:Type} {Yf:Shared→α} {Ya:World→α} {N M:Nat}
  (e:opening p = plainProg p.main.scope.names) (hN:Nat.ble 600 N = true) (f:∀ s,fenceModules? p s = some s) (le:Nat.ble M N = true)
  (run:∀ w os,(topT treeTable p w 11 (some (.ref 6)) M (S0 w os) (topStub p)).map (fun s => Look p q loose Xt Yf w s.abs) = some (true,openGood q loose,Ya w))
  (hs:∀ P:Params,((boot_heap P).isNs mainGlobals,(boot_heap P).nsMap mainGlobals "__annotations__") = (true,some (.ref 6))):LeftO p q loose Xt Yf Ya N:=fun w => by
 obtain ⟨⟨h,gs,d,k,os⟩,e1,e2⟩:=Option.map_eq_some_iff.mp (boot_open e hN f w)
 obtain ⟨rfl,rfl,rfl,rfl⟩:h = boot_heap w.params∧gs = Array.mk []∧d = boot_drawn∧k = boot_toks:=by simpa using e2
 obtain ⟨z1,z3⟩:_∧_:=by simpa only [Prod.mk.injEq] using hs w.params
 obtain ⟨r,r1,r2⟩:=Option.map_eq_some_iff.mp (run w os)
 obtain ⟨l1,l2,l3⟩:_∧_∧_:=by simpa only [Look,Prod.mk.injEq] using r2
 have r3:=topRun_mono (N - M) _ _ _ _ (Zj r1)
 rw [show M + (N - M) = N by have:=Nat.le_of_ble_eq_true le; omega] at r3
 have a:(S0 w os).abs = ⟨boot_heap w.params, #[],boot_drawn,boot_toks,os⟩:=by rw [KF]; rfl
 rw [a] at r3
 have t:topFrom treeTable p w N ⟨boot_heap w.params, #[],boot_drawn,boot_toks,os⟩ = some r.abs:=by
  unfold topFrom
  dsimp only
  rw [z1,z3,show (boot_heap w.params).objs.size = 11 from rfl,r3]
  show (match staticsOk (importedModules p.main.body) (boot_heap w.params) r.abs.heap && namesBound p r.abs.heap && gensDone r.abs && laidKept (boot_heap w.params) r.abs.heap with | true => _ | false => _) = _
  rw [l1]
 unfold openEnds
 rw [e1]
 show (topFrom treeTable p w N _).map _ = _
 rw [t]
 exact congrArg some (Prod.ext l2 l3)
theorem boot_main (P:Params):((boot_heap P).isNs mainGlobals,(boot_heap P).nsMap mainGlobals "__annotations__") = (true,some (.ref 6)):=by kernel_rfl
end Hd
namespace Hd
open PySem PySem.W PySem.Calls PyProof.Rows
theorem close {r:OpenRow} {q:Program} {loose:List Str} {lv:List (Str × WData)} {H:Hook} {d:DefRec} {kwd:List (Str × Expr)} {N:Nat}
  (left:LeftO r.prog q loose (fun s => xlAt q lv s && recOk (RowW.records (OpenRow.toRowW r)) s) H.obs H.val N) (h1:defOf q r.name = some (d,kwd)) (h2:r.prog.theDef r.name = some (d.params,d.body,d.scope))
  (h3:kwWritten? d.params.kwonlyargs d.params.kw_defaults = some kwd) (h4:(!r.writes || r.records.isEmpty) = true) (h5:r.wellSaid = true) (h6:(chainsOk q && opensWell r.prog && (frees r.toRowW && r.within.isEmpty)) = true) (h7:r.prog.bare)
  (hw:r.toRowW.promised) (hc:WalkO q loose (XL q lv) H.says r.toRowW d kwd fun f vs => PySem.call f vs):r.Holds :=
 holds_open left H.of H.keeps (fun s z => xl_of s (Bool.and_eq_true_iff.mp z).1) XL.keeps h1 h2 h3 (fun s z => recFacts_of (Bool.and_eq_true_iff.mp z).2) h4 h5 h6 h7 hw hc
end Hd
set_option maxHeartbeats 4000000
namespace Mw
open PySem L2 PyProof.Rows
def top (i:Nat):Stmt:=PySem.Challenge.pw_markwords_k05_refused.main.body.getD i (.Pass ⟨0,0,0,0⟩)
local macro_rules | `(tactic| walk_at "hp") => `(tactic| first | assumption | exact upd_same | (refine xo (by assumption) ?_; walk_at "hp") | (refine j5 (by first | assumption | (apply Ne.symm; assumption)) ?_; walk_at "hp"))
section
variable {P:Program} {w:World} {K:PySem.W.Frag} {mg:Str→Option Value} {base:Heap}
abbrev sBag:Stmt:=top 18
theorem scBag:FnScope ["script", "stir", "cell"] ["script"] (qc sBag):=⟨rfl,rfl,rfl,by decide +kernel,rfl,by decide +kernel,by decide +kernel⟩
abbrev VD:Stmt:=top 19
theorem scDraw:FnScope ["bag", "many", "found"] ["bag", "many"] (qc VD):=⟨rfl,rfl,rfl,by decide +kernel,rfl,by decide +kernel,by decide +kernel⟩
structure BagAt (H:Hp) (b:Addr):Prop where
 ex:∃ (c:Addr) (ns:List Int) (i a st n:Int),H b = some (.lst [.ref c, .int i, .int a, .int st, .int n])∧H c = some (.lst (ns.map V.int))∧0≤i∧i≤ns.length∧ns.length≤63∧(∀ x ∈ ns,0≤x)∧0≤a∧0≤st∧st < 2147483647
def spBag (K:PySem.W.Frag):Sp:=fun vs H Q _ => ∃ (a:Addr) (ns:List Int),vs = [.ref a]∧SqL K H a (ns.map V.int)∧ns.length≤63∧∀ (b:Addr) (H':Hp),H b = none→Same H H'→BagAt H' b→Q (.ref b) H'
theorem cut63 (ns:List Int) (h:ns.length≤63):cutV (ns.map V.int) none (some 63) = ns.map V.int:=by
 unfold cutV
 have e1:HT.sIx (ns.map V.int).length 0 none = 0:=rfl
 have e2:HT.sIx (ns.map V.int).length (ns.map V.int).length (some 63) = min 63 (ns.map V.int).length:=HT.sIx_nat _ _ 63
 rw [e1,e2]
 simp only [List.drop_zero,List.length_map]
 rw [List.take_of_length_le]
 simp; omega
theorem ZJ {ns:List Int} {i:Nat} {y:V} (h:(ns.map V.int)[i]? = some y):∃ z,y = V.int z∧ns[i]? = some z:=by
 rw [List.getElem?_map] at h
 cases e:ns[i]? with
 | none => rw [e] at h; cases h
 | some z => rw [e] at h; exact ⟨z,(Option.some.inj h).symm,rfl⟩
theorem ok_bag {f:Addr} {fd:FuncData} (F:Fun K "_law_bag" "_law_bag" sBag f fd) (N:Nms mg):FnOk P w K mg base CX0 1 f fd ["script"] (spBag K):=by
 refine F.okQ scBag (fun vs H Q E h => ?_) (fun cdv A outer s H vs Q E hr h => ?_)
 ·obtain ⟨a,ns,rfl,_⟩:=h
  rfl
 ·obtain ⟨a,ns,rfl,hS,hlen,k⟩:=h
  refine ⟨_,(qh (vq (i:=1) scBag.nd rfl (Or.inl rfl) qe)
  (qh (kP PassesOwn.never rfl (xF (K:=K) rfl (Zp (Zl (K:=K) rfl) (qv 0) Jn (Jm qe))) (zw (i:=2) scBag.nd rfl (Or.inl rfl))
   (qk (vq (i:=1) scBag.nd rfl (Or.inl rfl) (vp jV (vp xm (vp xm (vp kS (qv 1) qe) (vp jV (qv 2) qe)) qe) qe))))
  (qk (qF (vG (qa_c (qe_lc [false,false,false] [] (xF (K:=K) rfl (Zp (Zl (K:=K) rfl) (qv 0) Jn (Jm qe))) (fun _ _ _ => (zw (i:=2) scBag.nd rfl (Or.inl rfl))) (fun _ _ _ => Qm) (fun _ _ _ => (vp jV (qL call_abs (by rfl) N.abs b_abs (qa_c (qv 2) qd)) (vp Zr qe qe)))) (qa_c qe (qa_c qe (qa_c (qv 1) (qa_c qe qd)))))))))), ?_⟩
  refine ⟨_,rfl,_,rfl,a,_,rfl,hS,fun p hp => ?_⟩
  rw [cut63 ns hlen]
  refine ⟨p,rfl,⟨_,SqL.of upd_same⟩,for_list (K:=K) (a:=p) (xs:=ns.map V.int) (fun i σ H2 => ∃ (st:Int) (v:Option V),σ = [some (.ref a),some (.int st),v]∧0≤st∧st < 2147483647∧H2 = upd H p (.lst (ns.map V.int)))
   ⟨17,none,rfl,by decide,by decide,rfl⟩ (fun i σ H2 _ ⟨_,_,_,_,_,e⟩ => by rw [e]; exact SqL.of upd_same) ?_ ?_⟩
  ·rintro i y σ H2 hi ⟨st,v,rfl,h0,h1,rfl⟩
   obtain ⟨z,rfl,_⟩:=ZJ hi
   (simp only [L2.start,tSeq,vT,tAsg,tOp,tUn,tVar,tC,qI,gSub,tRet,za,tIfS,vU,tLM,tTru,vL,tBM,tBM0,tRev,vB,vK,vC,qO,qN,vc,qP,zc,tSl,qW,vY,rd_I,zh,rd_U,vb,zg,tCB,vo,tNil,tTup,tLst,tYes,tAnd,tOr,tNot,tB,tIf,vV,tOrV,zb,vS,zf,ze,zd,List.getElem?_cons_zero,List.getElem?_cons_succ,Option.some.injEq,exists_eq_left',List.set_cons_zero,List.set_cons_succ,vA,List.zip_cons_cons,List.zip_nil_left,List.zip_nil_right,List.map_cons,List.map_nil,List.length_cons,List.length_nil,List.replicate,List.append_nil,List.nil_append,List.cons_append,Bool.false_eq_true,if_true,if_false,decide_eq_true_eq,Nat.zero_add,qy,qx])
   refine ⟨.inr ⟨by decide,by decide⟩,by decide,by decide,_,_,rfl,Int.emod_nonneg _ (by decide),Int.emod_lt_of_pos _ (by decide),trivial⟩
  ·rintro σ H2 ⟨st,v,rfl,h0,h1,rfl⟩
   have hS2:SqL K (upd H p (.lst (ns.map V.int))) a (ns.map V.int):=((Same.refl H).upd hp).seq hS
   refine ⟨_,rfl,_,rfl,a,_,rfl,hS2,fun p2 hp2 => ?_⟩
   rw [cut63 ns hlen]
   obtain ⟨f2,n2⟩:=QC hp2
   refine ⟨p2,rfl,⟨_,SqL.of upd_same⟩,fun acc hacc => ?_⟩
   obtain ⟨g1,n3⟩:=QC hacc
   obtain ⟨g2,n4⟩:=QC g1
   refine Kv (xs:=ns.map V.int) (fun i H3 => ∃ ys:List Int,H3 acc = some (.lst (ys.map V.int))∧ys.length = i∧(∀ y ∈ ys,0≤y)∧H3 p2 = some (.lst (ns.map V.int))∧Same H H3) ?_ ?_ ?_ ?_
   ·exact ⟨[],upd_same,rfl,(fun _ h => nomatch h),xo hacc upd_same,(((Same.refl H).upd hp).upd f2).upd g2⟩
   ·rintro i H3 _ ⟨ys,_,_,_,e,_⟩
    exact SqL.of e
   ·rintro i y H3 hi ⟨ys,e1,e2,e3,e4,e5⟩
    obtain ⟨z,rfl,hz⟩:=ZJ hi
    have hil:i < ns.length:=(List.getElem?_eq_some_iff.mp hz).1
    (simp only [L2.start,tSeq,vT,tAsg,tOp,tUn,tVar,tC,qI,gSub,tRet,za,tIfS,vU,tLM,tTru,vL,tBM,tBM0,tRev,vB,vK,vC,qO,qN,vc,qP,zc,tSl,qW,vY,rd_I,zh,rd_U,vb,zg,tCB,vo,tNil,tTup,tLst,tYes,tAnd,tOr,tNot,tB,tIf,vV,tOrV,zb,vS,zf,ze,zd,List.getElem?_cons_zero,List.getElem?_cons_succ,Option.some.injEq,exists_eq_left',List.set_cons_zero,List.set_cons_succ,vA,List.zip_cons_cons,List.zip_nil_left,List.zip_nil_right,List.map_cons,List.map_nil,List.length_cons,List.length_nil,List.replicate,List.append_nil,List.nil_append,List.cons_append,Bool.false_eq_true,if_true,if_false,decide_eq_true_eq,Nat.zero_add,qy,qx])
    refine ⟨⟨by (repeat (first | exact ExtS.nl | refine ExtS.sm ?_ | refine ExtS.no ?_)),trivial⟩,⟨by decide,by decide,by decide⟩,by decide,ys.map V.int,e1,jd (by simp; omega),ys ++ [(if z < 0 then -z else z) % 10 ^ (60:Int).toNat], ?_,by simp [e2], ?_,j5 n3.symm e4,e5.upd g2⟩
    ·rw [upd_same,List.map_append]; rfl
    ·intro y hy
     rcases List.mem_append.mp hy with h | h
     ·exact e3 y h
     ·rw [List.mem_singleton.mp h]; exact Int.emod_nonneg _ (by decide)
   ·rintro H3 ⟨ys,e1,e2,e3,e4,e5⟩
    rw [List.length_map] at e2
    (simp only [L2.start,tSeq,vT,tAsg,tOp,tUn,tVar,tC,qI,gSub,tRet,za,tIfS,vU,tLM,tTru,vL,tBM,tBM0,tRev,vB,vK,vC,qO,qN,vc,qP,zc,tSl,qW,vY,rd_I,zh,rd_U,vb,zg,tCB,vo,tNil,tTup,tLst,tYes,tAnd,tOr,tNot,tB,tIf,vV,tOrV,zb,vS,zf,ze,zd,List.getElem?_cons_zero,List.getElem?_cons_succ,Option.some.injEq,exists_eq_left',List.set_cons_zero,List.set_cons_succ,vA,List.zip_cons_cons,List.zip_nil_left,List.zip_nil_right,List.map_cons,List.map_nil,List.length_cons,List.length_nil,List.replicate,List.append_nil,List.nil_append,List.cons_append,Bool.false_eq_true,if_true,if_false,decide_eq_true_eq,Nat.zero_add,qy,qx])
    refine ⟨by decide,fun b hb => ?_⟩
    refine k b _ (e5.free hb) (e5.upd (e5.free hb)) ⟨acc,ys,0,0,st,0,upd_same,xo hb e1,by decide,by omega,by omega,e3,by decide,h0,h1⟩
theorem KG {H:Hp} {b c:Addr} {ns:List Int} {i a st n:Int} (hb:H b = some (.lst [.ref c, .int i, .int a, .int st, .int n])) (hc:H c = some (.lst (ns.map V.int))):c≠b:=by
 intro e
 subst e
 rw [hb] at hc
 injection hc with hc
 injection hc with hc
 cases ns with
 | nil => cases hc
 | cons z r => cases hc
def jr (H:Hp) (b c:Addr):Prop:=∃ r,H b = some (.lst (.ref c :: r))
theorem Vc {H H':Hp} {b c:Addr} {r r':List V} (h:H b = some (.lst (.ref c :: r))) (h':H' b = some (.lst (.ref c :: r'))):∀ c',jr H b c'→jr H' b c':=fun c' ⟨q,e⟩ => by
 rw [h] at e
 injection e with e
 injection e with e
 injection e with e _
 injection e with e
 subst e
 exact ⟨r',h'⟩
theorem head_inj {H:Hp} {b c c':Addr} (h:jr H b c) (h':jr H b c'):c = c':=by
 obtain ⟨q,e⟩:=h
 obtain ⟨q',e'⟩:=h'
 rw [e] at e'
 injection e' with e'
 injection e' with e'
 injection e' with e' _
 injection e'
def spDraw2:Sp:=fun vs H Q _ => ∃ (b:Addr) (many:Int),vs = [.ref b, .int many]∧BagAt H b∧0 < many∧many.natAbs.log2 < 9000∧∀ (found:Int) (H':Hp),0≤found→found < many→BagAt H' b→(∀ x,x≠b→H' x = H x)→(∀ c,jr H b c→jr H' b c)→Q (.int found) H'
theorem BagAt.put {H:Hp} {b p c0:Addr} {o:HO} (h:BagAt H b) (hh:jr H b c0) (n1:p≠b) (n2:p≠c0):BagAt (L2.upd H p o) b:=by
 obtain ⟨c,ns,i,a,st,n,hb,hc,r⟩:=h.ex
 have e:c0 = c:=by
  obtain ⟨q,e⟩:=hh
  rw [hb] at e
  injection e with e
  injection e with e
  injection e with e _
  injection e with e
  exact e.symm
 subst e
 exact ⟨c0,ns,i,a,st,n,j5 n1.symm hb,j5 n2.symm hc,r⟩
theorem ok_draw2 {f:Addr} {fd:FuncData} (F:Fun K "_law_draw" "_law_draw" VD f fd) (N:Nms mg):FnOk P w K mg base CX0 1 f fd ["bag", "many"] spDraw2:=by
 refine F.okQ scDraw (fun vs H Q E h => ?_) (fun cdv A outer s H vs Q E hr h => ?_)
 ·obtain ⟨b,m,rfl,_⟩:=h
  rfl
 ·obtain ⟨b,many,rfl,⟨c,ns,i,a,st,n,hb,hc,i0,i1,hl,hns,a0,s0,s1⟩,m0,mb,k⟩:=h
  have hcb:=KG hb hc
  refine ⟨_,(qh (vz (Qk (Zo (qu op_eq (qr (qm (K:=K) rfl) (qv 0) qe (fun _ _ => rfl)) qe (qC _)) (Ql (qu VL (qr (qm (K:=K) rfl) (qv 0) qe (fun _ _ => rfl)) (qL kC (by rfl) N.len XH (qa_c (qr (qm (K:=K) rfl) (qv 0) qe (fun _ _ => rfl)) qd)) (qC _)))))
   (qh (vO (qr (qm (K:=K) rfl) (qr (qm (K:=K) rfl) (qv 0) qe (fun _ _ => rfl)) (qr (qm (K:=K) rfl) (qv 0) qe (fun _ _ => rfl)) (fun _ _ => rfl)) (vR (qv 0) qe va))
   (qk (vO (vp xm (qr (qm (K:=K) rfl) (qv 0) qe (fun _ _ => rfl)) qe) (vR (qv 0) qe va))))
   (qk (vz (qu op_eq (qr (qm (K:=K) rfl) (qv 0) qe (fun _ _ => rfl)) qe (qC _))
    (qh (vO (vp xm (qr (qm (K:=K) rfl) (qv 0) qe (fun _ _ => rfl)) qe) (vR (qv 0) qe va))
    (qh (vO (vp jV (vp xm (vp xm (vp xm (vp Zr (qr (qm (K:=K) rfl) (qv 0) qe (fun _ _ => rfl)) qe) (vp kS qe (qr (qm (K:=K) rfl) (qv 0) qe (fun _ _ => rfl)))) (vp kS qe (qr (qm (K:=K) rfl) (qv 0) qe (fun _ _ => rfl)))) qe) qe) (vR (qv 0) qe va))
    (qk (qF (vp jV (vp Zt (qr (qm (K:=K) rfl) (qv 0) qe (fun _ _ => rfl)) qe) (qv 1))))))
    qG)))
  (qh (vq (i:=2) scDraw.nd rfl (Or.inl rfl) (vp jV (qr (qm (K:=K) rfl) (qv 0) qe (fun _ _ => rfl)) (qv 1)))
  (qh (vO (vp Zt (qr (qm (K:=K) rfl) (qv 0) qe (fun _ _ => rfl)) (qv 1)) (vR (qv 0) qe va))
  (qk (qF (qv 2)))))), ?_⟩
  (repeat (first | (simp only [L2.start,tSeq,vT,tAsg,tOp,tUn,tVar,tC,qI,gSub,tRet,za,tIfS,vU,tLM,tTru,vL,tBM,tBM0,tRev,vB,vK,vC,qO,qN,vc,qP,zc,tSl,qW,vY,rd_I,zh,rd_U,vb,zg,tCB,vo,tNil,tTup,tLst,tYes,tAnd,tOr,tNot,tB,tIf,vV,tOrV,zb,vS,zf,ze,zd,List.getElem?_cons_zero,List.getElem?_cons_succ,Option.some.injEq,exists_eq_left',List.set_cons_zero,List.set_cons_succ,vA,List.zip_cons_cons,List.zip_nil_left,List.zip_nil_right,List.map_cons,List.map_nil,List.length_cons,List.length_nil,List.replicate,List.append_nil,List.nil_append,List.cons_append,Bool.false_eq_true,if_true,if_false,decide_eq_true_eq,Nat.zero_add,qy,qx]) | refine qH (by walk_at "hp") rfl ?_ | refine vI (by walk_at "hp") rfl ?_ | refine qH (by walk_at "hp") at0 ?_ | refine vh (by walk_at "hp") rfl ?_ | refine vH (by walk_at "hp") ?_ | refine qT (by walk_at "hp") ?_ | refine qS (by walk_at "hp") ?_ | refine zA (by walk_at "hp") ?_ | refine zC (by walk_at "hp") ?_ | refine v3 rfl ?_ | refine zy rfl ?_))
  have fin:∀ (z:Int) (H':Hp) (i' a' st' n':Int),0≤z→H' b = some (.lst [.ref c, .int i', .int (z / many), .int st', .int n'])→(∀ x,x≠b→H' x = H x)→0≤i'→i'≤ns.length→0≤st'→st' < 2147483647→Q (.int (z % many)) H':=fun z H' i' a' st' n' hz e1 e2 e3 e4 e5 e6 =>
   k _ _ (Int.emod_nonneg _ (by omega)) (Int.emod_lt_of_pos _ m0) ⟨c,ns,i',z / many,st',n',e1,by rw [e2 c hcb]; exact hc,e3,e4,hl,hns,Int.ediv_nonneg hz (by omega),e5,e6⟩ e2 (Vc hb e1)
  refine ite2 (fun ha => ?_) (fun ha => ?_)
  ·(repeat (first | (simp only [L2.start,tSeq,vT,tAsg,tOp,tUn,tVar,tC,qI,gSub,tRet,za,tIfS,vU,tLM,tTru,vL,tBM,tBM0,tRev,vB,vK,vC,qO,qN,vc,qP,zc,tSl,qW,vY,rd_I,zh,rd_U,vb,zg,tCB,vo,tNil,tTup,tLst,tYes,tAnd,tOr,tNot,tB,tIf,vV,tOrV,zb,vS,zf,ze,zd,List.getElem?_cons_zero,List.getElem?_cons_succ,Option.some.injEq,exists_eq_left',List.set_cons_zero,List.set_cons_succ,vA,List.zip_cons_cons,List.zip_nil_left,List.zip_nil_right,List.map_cons,List.map_nil,List.length_cons,List.length_nil,List.replicate,List.append_nil,List.nil_append,List.cons_append,Bool.false_eq_true,if_true,if_false,decide_eq_true_eq,Nat.zero_add,qy,qx]) | refine qH (by walk_at "hp") rfl ?_ | refine vI (by walk_at "hp") rfl ?_ | refine qH (by walk_at "hp") at0 ?_ | refine vh (by walk_at "hp") rfl ?_ | refine vH (by walk_at "hp") ?_ | refine qT (by walk_at "hp") ?_ | refine qS (by walk_at "hp") ?_ | refine zA (by walk_at "hp") ?_ | refine zC (by walk_at "hp") ?_ | refine v3 rfl ?_ | refine zy rfl ?_))
   refine ite2 (fun hi => ?_) (fun hi => ?_)
   ·rw [List.length_map] at hi
    obtain ⟨j,rfl⟩:∃ j:Nat,i = (j:Int):=⟨i.toNat,by omega⟩
    have hj:j < ns.length:=by omega
    (repeat (first | (simp only [L2.start,tSeq,vT,tAsg,tOp,tUn,tVar,tC,qI,gSub,tRet,za,tIfS,vU,tLM,tTru,vL,tBM,tBM0,tRev,vB,vK,vC,qO,qN,vc,qP,zc,tSl,qW,vY,rd_I,zh,rd_U,vb,zg,tCB,vo,tNil,tTup,tLst,tYes,tAnd,tOr,tNot,tB,tIf,vV,tOrV,zb,vS,zf,ze,zd,List.getElem?_cons_zero,List.getElem?_cons_succ,Option.some.injEq,exists_eq_left',List.set_cons_zero,List.set_cons_succ,vA,List.zip_cons_cons,List.zip_nil_left,List.zip_nil_right,List.map_cons,List.map_nil,List.length_cons,List.length_nil,List.replicate,List.append_nil,List.nil_append,List.cons_append,Bool.false_eq_true,if_true,if_false,decide_eq_true_eq,Nat.zero_add,qy,qx]) | refine qH (by walk_at "hp") rfl ?_ | refine vI (by walk_at "hp") rfl ?_ | refine qH (by walk_at "hp") at0 ?_ | refine vh (by walk_at "hp") rfl ?_ | refine vH (by walk_at "hp") ?_ | refine qT (by walk_at "hp") ?_ | refine qS (by walk_at "hp") ?_ | refine zA (by walk_at "hp") ?_ | refine zC (by walk_at "hp") ?_ | refine v3 rfl ?_ | refine zy rfl ?_))
    refine qH hc (xy (v:=.int ns[j]) (by rw [List.getElem?_map,List.getElem?_eq_getElem hj]; rfl)) ?_
    (repeat (first | (simp only [L2.start,tSeq,vT,tAsg,tOp,tUn,tVar,tC,qI,gSub,tRet,za,tIfS,vU,tLM,tTru,vL,tBM,tBM0,tRev,vB,vK,vC,qO,qN,vc,qP,zc,tSl,qW,vY,rd_I,zh,rd_U,vb,zg,tCB,vo,tNil,tTup,tLst,tYes,tAnd,tOr,tNot,tB,tIf,vV,tOrV,zb,vS,zf,ze,zd,List.getElem?_cons_zero,List.getElem?_cons_succ,Option.some.injEq,exists_eq_left',List.set_cons_zero,List.set_cons_succ,vA,List.zip_cons_cons,List.zip_nil_left,List.zip_nil_right,List.map_cons,List.map_nil,List.length_cons,List.length_nil,List.replicate,List.append_nil,List.nil_append,List.cons_append,Bool.false_eq_true,if_true,if_false,decide_eq_true_eq,Nat.zero_add,qy,qx]) | refine qH (by walk_at "hp") rfl ?_ | refine vI (by walk_at "hp") rfl ?_ | refine qH (by walk_at "hp") at0 ?_ | refine vh (by walk_at "hp") rfl ?_ | refine vH (by walk_at "hp") ?_ | refine qT (by walk_at "hp") ?_ | refine qS (by walk_at "hp") ?_ | refine zA (by walk_at "hp") ?_ | refine zC (by walk_at "hp") ?_ | refine v3 rfl ?_ | refine zy rfl ?_))
    refine ⟨m0, ?_⟩
    (repeat (first | (simp only [L2.start,tSeq,vT,tAsg,tOp,tUn,tVar,tC,qI,gSub,tRet,za,tIfS,vU,tLM,tTru,vL,tBM,tBM0,tRev,vB,vK,vC,qO,qN,vc,qP,zc,tSl,qW,vY,rd_I,zh,rd_U,vb,zg,tCB,vo,tNil,tTup,tLst,tYes,tAnd,tOr,tNot,tB,tIf,vV,tOrV,zb,vS,zf,ze,zd,List.getElem?_cons_zero,List.getElem?_cons_succ,Option.some.injEq,exists_eq_left',List.set_cons_zero,List.set_cons_succ,vA,List.zip_cons_cons,List.zip_nil_left,List.zip_nil_right,List.map_cons,List.map_nil,List.length_cons,List.length_nil,List.replicate,List.append_nil,List.nil_append,List.cons_append,Bool.false_eq_true,if_true,if_false,decide_eq_true_eq,Nat.zero_add,qy,qx]) | refine qH (by walk_at "hp") rfl ?_ | refine vI (by walk_at "hp") rfl ?_ | refine qH (by walk_at "hp") at0 ?_ | refine vh (by walk_at "hp") rfl ?_ | refine vH (by walk_at "hp") ?_ | refine qT (by walk_at "hp") ?_ | refine qS (by walk_at "hp") ?_ | refine zA (by walk_at "hp") ?_ | refine zC (by walk_at "hp") ?_ | refine v3 rfl ?_ | refine zy rfl ?_))
    refine ⟨⟨m0,mb⟩, ?_⟩
    (repeat (first | (simp only [L2.start,tSeq,vT,tAsg,tOp,tUn,tVar,tC,qI,gSub,tRet,za,tIfS,vU,tLM,tTru,vL,tBM,tBM0,tRev,vB,vK,vC,qO,qN,vc,qP,zc,tSl,qW,vY,rd_I,zh,rd_U,vb,zg,tCB,vo,tNil,tTup,tLst,tYes,tAnd,tOr,tNot,tB,tIf,vV,tOrV,zb,vS,zf,ze,zd,List.getElem?_cons_zero,List.getElem?_cons_succ,Option.some.injEq,exists_eq_left',List.set_cons_zero,List.set_cons_succ,vA,List.zip_cons_cons,List.zip_nil_left,List.zip_nil_right,List.map_cons,List.map_nil,List.length_cons,List.length_nil,List.replicate,List.append_nil,List.nil_append,List.cons_append,Bool.false_eq_true,if_true,if_false,decide_eq_true_eq,Nat.zero_add,qy,qx]) | refine qH (by walk_at "hp") rfl ?_ | refine vI (by walk_at "hp") rfl ?_ | refine qH (by walk_at "hp") at0 ?_ | refine vh (by walk_at "hp") rfl ?_ | refine vH (by walk_at "hp") ?_ | refine qT (by walk_at "hp") ?_ | refine qS (by walk_at "hp") ?_ | refine zA (by walk_at "hp") ?_ | refine zC (by walk_at "hp") ?_ | refine v3 rfl ?_ | refine zy rfl ?_))
    exact fin _ _ (j + 1) 0 st n (hns _ (List.getElem_mem hj)) upd_same (fun x hx => by rw [upd_ne hx,upd_ne hx,upd_ne hx]) (by omega) (by omega) s0 s1
   ·(repeat (first | (simp only [L2.start,tSeq,vT,tAsg,tOp,tUn,tVar,tC,qI,gSub,tRet,za,tIfS,vU,tLM,tTru,vL,tBM,tBM0,tRev,vB,vK,vC,qO,qN,vc,qP,zc,tSl,qW,vY,rd_I,zh,rd_U,vb,zg,tCB,vo,tNil,tTup,tLst,tYes,tAnd,tOr,tNot,tB,tIf,vV,tOrV,zb,vS,zf,ze,zd,List.getElem?_cons_zero,List.getElem?_cons_succ,Option.some.injEq,exists_eq_left',List.set_cons_zero,List.set_cons_succ,vA,List.zip_cons_cons,List.zip_nil_left,List.zip_nil_right,List.map_cons,List.map_nil,List.length_cons,List.length_nil,List.replicate,List.append_nil,List.nil_append,List.cons_append,Bool.false_eq_true,if_true,if_false,decide_eq_true_eq,Nat.zero_add,qy,qx]) | refine qH (by walk_at "hp") rfl ?_ | refine vI (by walk_at "hp") rfl ?_ | refine qH (by walk_at "hp") at0 ?_ | refine vh (by walk_at "hp") rfl ?_ | refine vH (by walk_at "hp") ?_ | refine qT (by walk_at "hp") ?_ | refine qS (by walk_at "hp") ?_ | refine zA (by walk_at "hp") ?_ | refine zC (by walk_at "hp") ?_ | refine v3 rfl ?_ | refine zy rfl ?_))
    rw [if_pos ha]
    (repeat (first | (simp only [L2.start,tSeq,vT,tAsg,tOp,tUn,tVar,tC,qI,gSub,tRet,za,tIfS,vU,tLM,tTru,vL,tBM,tBM0,tRev,vB,vK,vC,qO,qN,vc,qP,zc,tSl,qW,vY,rd_I,zh,rd_U,vb,zg,tCB,vo,tNil,tTup,tLst,tYes,tAnd,tOr,tNot,tB,tIf,vV,tOrV,zb,vS,zf,ze,zd,List.getElem?_cons_zero,List.getElem?_cons_succ,Option.some.injEq,exists_eq_left',List.set_cons_zero,List.set_cons_succ,vA,List.zip_cons_cons,List.zip_nil_left,List.zip_nil_right,List.map_cons,List.map_nil,List.length_cons,List.length_nil,List.replicate,List.append_nil,List.nil_append,List.cons_append,Bool.false_eq_true,if_true,if_false,decide_eq_true_eq,Nat.zero_add,qy,qx]) | refine qH (by walk_at "hp") rfl ?_ | refine vI (by walk_at "hp") rfl ?_ | refine qH (by walk_at "hp") at0 ?_ | refine vh (by walk_at "hp") rfl ?_ | refine vH (by walk_at "hp") ?_ | refine qT (by walk_at "hp") ?_ | refine qS (by walk_at "hp") ?_ | refine zA (by walk_at "hp") ?_ | refine zC (by walk_at "hp") ?_ | refine v3 rfl ?_ | refine zy rfl ?_))
    refine ⟨⟨by decide,by decide,by omega⟩, ?_⟩
    (repeat (first | (simp only [L2.start,tSeq,vT,tAsg,tOp,tUn,tVar,tC,qI,gSub,tRet,za,tIfS,vU,tLM,tTru,vL,tBM,tBM0,tRev,vB,vK,vC,qO,qN,vc,qP,zc,tSl,qW,vY,rd_I,zh,rd_U,vb,zg,tCB,vo,tNil,tTup,tLst,tYes,tAnd,tOr,tNot,tB,tIf,vV,tOrV,zb,vS,zf,ze,zd,List.getElem?_cons_zero,List.getElem?_cons_succ,Option.some.injEq,exists_eq_left',List.set_cons_zero,List.set_cons_succ,vA,List.zip_cons_cons,List.zip_nil_left,List.zip_nil_right,List.map_cons,List.map_nil,List.length_cons,List.length_nil,List.replicate,List.append_nil,List.nil_append,List.cons_append,Bool.false_eq_true,if_true,if_false,decide_eq_true_eq,Nat.zero_add,qy,qx]) | refine qH (by walk_at "hp") rfl ?_ | refine vI (by walk_at "hp") rfl ?_ | refine qH (by walk_at "hp") at0 ?_ | refine vh (by walk_at "hp") rfl ?_ | refine vH (by walk_at "hp") ?_ | refine qT (by walk_at "hp") ?_ | refine qS (by walk_at "hp") ?_ | refine zA (by walk_at "hp") ?_ | refine zC (by walk_at "hp") ?_ | refine v3 rfl ?_ | refine zy rfl ?_))
    refine ⟨.inl ⟨by decide,by decide⟩, ?_⟩
    (repeat (first | (simp only [L2.start,tSeq,vT,tAsg,tOp,tUn,tVar,tC,qI,gSub,tRet,za,tIfS,vU,tLM,tTru,vL,tBM,tBM0,tRev,vB,vK,vC,qO,qN,vc,qP,zc,tSl,qW,vY,rd_I,zh,rd_U,vb,zg,tCB,vo,tNil,tTup,tLst,tYes,tAnd,tOr,tNot,tB,tIf,vV,tOrV,zb,vS,zf,ze,zd,List.getElem?_cons_zero,List.getElem?_cons_succ,Option.some.injEq,exists_eq_left',List.set_cons_zero,List.set_cons_succ,vA,List.zip_cons_cons,List.zip_nil_left,List.zip_nil_right,List.map_cons,List.map_nil,List.length_cons,List.length_nil,List.replicate,List.append_nil,List.nil_append,List.cons_append,Bool.false_eq_true,if_true,if_false,decide_eq_true_eq,Nat.zero_add,qy,qx]) | refine qH (by walk_at "hp") rfl ?_ | refine vI (by walk_at "hp") rfl ?_ | refine qH (by walk_at "hp") at0 ?_ | refine vh (by walk_at "hp") rfl ?_ | refine vH (by walk_at "hp") ?_ | refine qT (by walk_at "hp") ?_ | refine qS (by walk_at "hp") ?_ | refine zA (by walk_at "hp") ?_ | refine zC (by walk_at "hp") ?_ | refine v3 rfl ?_ | refine zy rfl ?_))
    refine ⟨.inl ⟨by decide,by decide⟩,by decide, ?_⟩
    (repeat (first | (simp only [L2.start,tSeq,vT,tAsg,tOp,tUn,tVar,tC,qI,gSub,tRet,za,tIfS,vU,tLM,tTru,vL,tBM,tBM0,tRev,vB,vK,vC,qO,qN,vc,qP,zc,tSl,qW,vY,rd_I,zh,rd_U,vb,zg,tCB,vo,tNil,tTup,tLst,tYes,tAnd,tOr,tNot,tB,tIf,vV,tOrV,zb,vS,zf,ze,zd,List.getElem?_cons_zero,List.getElem?_cons_succ,Option.some.injEq,exists_eq_left',List.set_cons_zero,List.set_cons_succ,vA,List.zip_cons_cons,List.zip_nil_left,List.zip_nil_right,List.map_cons,List.map_nil,List.length_cons,List.length_nil,List.replicate,List.append_nil,List.nil_append,List.cons_append,Bool.false_eq_true,if_true,if_false,decide_eq_true_eq,Nat.zero_add,qy,qx]) | refine qH (by walk_at "hp") rfl ?_ | refine vI (by walk_at "hp") rfl ?_ | refine qH (by walk_at "hp") at0 ?_ | refine vh (by walk_at "hp") rfl ?_ | refine vH (by walk_at "hp") ?_ | refine qT (by walk_at "hp") ?_ | refine qS (by walk_at "hp") ?_ | refine zA (by walk_at "hp") ?_ | refine zC (by walk_at "hp") ?_ | refine v3 rfl ?_ | refine zy rfl ?_))
    refine ⟨⟨by decide,by decide⟩,m0, ?_⟩
    refine k _ _ (Int.emod_nonneg _ (by omega)) (Int.emod_lt_of_pos _ m0) ⟨c,ns,i,a,_,n + 1,upd_same, ?_,i0,i1,hl,hns,a0,Int.emod_nonneg _ (by decide),Int.emod_lt_of_pos _ (by decide)⟩ (fun x hx => by rw [upd_ne hx,upd_ne hx]) (Vc hb upd_same)
    walk_at "hp"
  ·(repeat (first | (simp only [L2.start,tSeq,vT,tAsg,tOp,tUn,tVar,tC,qI,gSub,tRet,za,tIfS,vU,tLM,tTru,vL,tBM,tBM0,tRev,vB,vK,vC,qO,qN,vc,qP,zc,tSl,qW,vY,rd_I,zh,rd_U,vb,zg,tCB,vo,tNil,tTup,tLst,tYes,tAnd,tOr,tNot,tB,tIf,vV,tOrV,zb,vS,zf,ze,zd,List.getElem?_cons_zero,List.getElem?_cons_succ,Option.some.injEq,exists_eq_left',List.set_cons_zero,List.set_cons_succ,vA,List.zip_cons_cons,List.zip_nil_left,List.zip_nil_right,List.map_cons,List.map_nil,List.length_cons,List.length_nil,List.replicate,List.append_nil,List.nil_append,List.cons_append,Bool.false_eq_true,if_true,if_false,decide_eq_true_eq,Nat.zero_add,qy,qx]) | refine qH (by walk_at "hp") rfl ?_ | refine vI (by walk_at "hp") rfl ?_ | refine qH (by walk_at "hp") at0 ?_ | refine vh (by walk_at "hp") rfl ?_ | refine vH (by walk_at "hp") ?_ | refine qT (by walk_at "hp") ?_ | refine qS (by walk_at "hp") ?_ | refine zA (by walk_at "hp") ?_ | refine zC (by walk_at "hp") ?_ | refine v3 rfl ?_ | refine zy rfl ?_))
   rw [if_neg ha]
   (repeat (first | (simp only [L2.start,tSeq,vT,tAsg,tOp,tUn,tVar,tC,qI,gSub,tRet,za,tIfS,vU,tLM,tTru,vL,tBM,tBM0,tRev,vB,vK,vC,qO,qN,vc,qP,zc,tSl,qW,vY,rd_I,zh,rd_U,vb,zg,tCB,vo,tNil,tTup,tLst,tYes,tAnd,tOr,tNot,tB,tIf,vV,tOrV,zb,vS,zf,ze,zd,List.getElem?_cons_zero,List.getElem?_cons_succ,Option.some.injEq,exists_eq_left',List.set_cons_zero,List.set_cons_succ,vA,List.zip_cons_cons,List.zip_nil_left,List.zip_nil_right,List.map_cons,List.map_nil,List.length_cons,List.length_nil,List.replicate,List.append_nil,List.nil_append,List.cons_append,Bool.false_eq_true,if_true,if_false,decide_eq_true_eq,Nat.zero_add,qy,qx]) | refine qH (by walk_at "hp") rfl ?_ | refine vI (by walk_at "hp") rfl ?_ | refine qH (by walk_at "hp") at0 ?_ | refine vh (by walk_at "hp") rfl ?_ | refine vH (by walk_at "hp") ?_ | refine qT (by walk_at "hp") ?_ | refine qS (by walk_at "hp") ?_ | refine zA (by walk_at "hp") ?_ | refine zC (by walk_at "hp") ?_ | refine v3 rfl ?_ | refine zy rfl ?_))
   refine ⟨m0, ?_⟩
   (repeat (first | (simp only [L2.start,tSeq,vT,tAsg,tOp,tUn,tVar,tC,qI,gSub,tRet,za,tIfS,vU,tLM,tTru,vL,tBM,tBM0,tRev,vB,vK,vC,qO,qN,vc,qP,zc,tSl,qW,vY,rd_I,zh,rd_U,vb,zg,tCB,vo,tNil,tTup,tLst,tYes,tAnd,tOr,tNot,tB,tIf,vV,tOrV,zb,vS,zf,ze,zd,List.getElem?_cons_zero,List.getElem?_cons_succ,Option.some.injEq,exists_eq_left',List.set_cons_zero,List.set_cons_succ,vA,List.zip_cons_cons,List.zip_nil_left,List.zip_nil_right,List.map_cons,List.map_nil,List.length_cons,List.length_nil,List.replicate,List.append_nil,List.nil_append,List.cons_append,Bool.false_eq_true,if_true,if_false,decide_eq_true_eq,Nat.zero_add,qy,qx]) | refine qH (by walk_at "hp") rfl ?_ | refine vI (by walk_at "hp") rfl ?_ | refine qH (by walk_at "hp") at0 ?_ | refine vh (by walk_at "hp") rfl ?_ | refine vH (by walk_at "hp") ?_ | refine qT (by walk_at "hp") ?_ | refine qS (by walk_at "hp") ?_ | refine zA (by walk_at "hp") ?_ | refine zC (by walk_at "hp") ?_ | refine v3 rfl ?_ | refine zy rfl ?_))
   refine ⟨⟨m0,mb⟩, ?_⟩
   (repeat (first | (simp only [L2.start,tSeq,vT,tAsg,tOp,tUn,tVar,tC,qI,gSub,tRet,za,tIfS,vU,tLM,tTru,vL,tBM,tBM0,tRev,vB,vK,vC,qO,qN,vc,qP,zc,tSl,qW,vY,rd_I,zh,rd_U,vb,zg,tCB,vo,tNil,tTup,tLst,tYes,tAnd,tOr,tNot,tB,tIf,vV,tOrV,zb,vS,zf,ze,zd,List.getElem?_cons_zero,List.getElem?_cons_succ,Option.some.injEq,exists_eq_left',List.set_cons_zero,List.set_cons_succ,vA,List.zip_cons_cons,List.zip_nil_left,List.zip_nil_right,List.map_cons,List.map_nil,List.length_cons,List.length_nil,List.replicate,List.append_nil,List.nil_append,List.cons_append,Bool.false_eq_true,if_true,if_false,decide_eq_true_eq,Nat.zero_add,qy,qx]) | refine qH (by walk_at "hp") rfl ?_ | refine vI (by walk_at "hp") rfl ?_ | refine qH (by walk_at "hp") at0 ?_ | refine vh (by walk_at "hp") rfl ?_ | refine vH (by walk_at "hp") ?_ | refine qT (by walk_at "hp") ?_ | refine qS (by walk_at "hp") ?_ | refine zA (by walk_at "hp") ?_ | refine zC (by walk_at "hp") ?_ | refine v3 rfl ?_ | refine zy rfl ?_))
   exact fin _ _ i 0 st n a0 upd_same (fun x hx => by rw [upd_ne hx]) i0 i1 s0 s1
def MB (M:MM) (k:Nat) (o:MO) (L:List MO):MM:=M.set k o ++ L
theorem MB_len {M:MM} {k:Nat} {o:MO} {L:List MO}:(MB M k o L).length = M.length + L.length:=by unfold MB; rw [List.length_append,List.length_set]
theorem MB_new {M:MM} {k:Nat} {o x:MO} {L:List MO}:MB M k o L ++ [x] = MB M k o (L ++ [x]):=by unfold MB; rw [List.append_assoc]
theorem MB_get {M:MM} {k i:Nat} {o:MO} {L:List MO}:(MB M k o L)[M.length + i]? = L[i]?:=by
 unfold MB
 rw [List.getElem?_append_right (by rw [List.length_set]; omega),List.length_set,Nat.add_sub_cancel_left]
theorem KP {M:MM} {k i:Nat} {o x:MO} {L:List MO} (h:L[i]? = some x:=by rfl):(MB M k o L)[M.length + i]? = some x:=MB_get.trans h
theorem MB_set {M:MM} {k i:Nat} {o x:MO} {L:List MO}:(MB M k o L).set (M.length + i) x = MB M k o (L.set i x):=by
 unfold MB
 rw [List.set_append_right _ _ (by rw [List.length_set]; omega),List.length_set,Nat.add_sub_cancel_left]
theorem MB_bag {M:MM} {k:Nat} {o:MO} {L:List MO} (h:k < M.length):(MB M k o L)[k]? = some o:=by
 unfold MB
 rw [List.getElem?_append_left (by rw [List.length_set]; exact h),List.getElem?_set_self h]
theorem KO {M:MM} {k:Nat} {o o':MO} {L:List MO} (h:k < M.length):(MB M k o L).set k o' = MB M k o' L:=by
 unfold MB
 rw [List.set_append_left _ _ (by rw [List.length_set]; exact h),List.set_set]
theorem MB_take {M:MM} {k:Nat} {o:MO} {L:List MO}:(MB M k o L).take M.length = M.set k o:=by
 unfold MB
 rw [List.take_left' (by rw [List.length_set])]
theorem MB_start {M:MM} {k:Nat} {o:MO} (h:M[k]? = some o):k < M.length∧M = MB M k o []:=by
 refine ⟨(List.getElem?_eq_some_iff.mp h).1, ?_⟩
 unfold MB
 rw [List.append_nil]
 obtain ⟨hk,rfl⟩:=List.getElem?_eq_some_iff.mp h
 rw [List.set_getElem_self]
theorem MB_trim {M:MM} {k:Nat} {o:MO} {L:List MO} (h:PurO o):xS M (MB M k o L):=fun i x hi e => by
 unfold MB at e
 rw [List.getElem?_append_left (by rw [List.length_set]; exact hi)] at e
 by_cases hk:k = i
 ·subst hk
  rw [List.getElem?_set_self hi] at e
  cases e
  exact .inr h
 ·rw [List.getElem?_set_ne hk] at e
  exact .inl e
structure BagO (o:MO):Prop where
 ex:∃ (ns:List Int) (i a st n:Int),o = .lst [.p (J9 ns), .p (.int i), .p (.int a), .p (.int st), .p (.int n)]∧0≤i∧i≤ns.length∧ns.length≤63∧(∀ x ∈ ns,0≤x)∧0≤a∧0≤st∧st < 2147483647
theorem BagO.pur {o:MO} (h:BagO o):PurO o:=by
 obtain ⟨ns,i,a,st,n,rfl,_⟩:=h.ex
 exact ⟨[J9 ns, .int i, .int a, .int st, .int n],rfl⟩
def VW:List U→MM→UK→Prop:=fun us M Q => ∃ (k:Nat) (o:MO) (many:Int),us = [.m k, .p (.int many)]∧M[k]? = some o∧BagO o∧0 < many∧many.natAbs.log2 < 9000∧∀ (found:Int) (o':MO),0≤found→found < many→BagO o'→Q (.p (.int found)) (M.set k o')
theorem xZ {M:MM} {k:Nat} {o:MO} {L:List MO} {many:Int} {Q:UK} (hk:k < M.length) (B:BagO o) (h0:0 < many) (h1:many.natAbs.log2 < 9000) (q:∀ (found:Int) (o':MO),0≤found→found < many→BagO o'→Q (.p (.int found)) (MB M k o' L)):VW [.m k, .p (.int many)] (MB M k o L) Q :=
 ⟨k,o,many,rfl,MB_bag hk,B,h0,h1,fun f o' f0 f1 B' => by rw [KO hk]; exact q f o' f0 f1 B'⟩
theorem ints_inv {A:Addr→Prop} {H:Hp} {v:V} {ns:List Int} (r:RepT A H v (J9 ns)):∃ p,v = .ref p∧¬ A p∧H p = some (.lst (ns.map V.int)):=by
 obtain ⟨p,vs,rfl,na,h,q⟩:=r.lst_inv
 refine ⟨p,rfl,na, ?_⟩
 have:vs = ns.map V.int:=by
  clear h r na
  induction ns generalizing vs with
  | nil => cases q; rfl
  | cons n ns ih =>
   cases q with
   | cons a b => cases a; rw [ih _ b]; rfl
 rw [h,this]
theorem ZD {A:Addr→Prop} {H:Hp} {p:Addr} {ns:List Int} (na:¬ A p) (h:H p = some (.lst (ns.map V.int))):RepT A H (.ref p) (J9 ns):=by
 refine .lstP na h ?_
 induction ns with
 | nil => exact .nil
 | cons n ns ih => exact .cons (.int n) (by
   clear h ih
   induction ns with
   | nil => exact .nil
   | cons n ns ih => exact .cons (.int n) ih)
theorem bag_obj {A:Addr→Prop} {ι:List Addr} {H:Hp} {b:Addr} {o:MO} (hb:BagO o) (r:ObjR A ι H b o):BagAt H b∧∃ c,jr H b c∧¬ Av A ι c∧∃ ns:List Int,H c = some (.lst (ns.map V.int)):=by
 obtain ⟨ns,i,a,st,n,rfl,k⟩:=hb.ex
 obtain ⟨vs,h,q⟩:=r
 cases q with
 | cons q1 q =>
 cases q with
 | cons q2 q =>
 cases q with
 | cons q3 q =>
 cases q with
 | cons q4 q =>
 cases q with
 | cons q5 q =>
 cases q
 cases q1 with
 | p q1 =>
 obtain ⟨c,rfl,nc,hc⟩:=ints_inv q1
 cases q2 with
 | p q2 =>
 cases q3 with
 | p q3 =>
 cases q4 with
 | p q4 =>
 cases q5 with
 | p q5 =>
 cases q2; cases q3; cases q4; cases q5
 exact ⟨⟨c,ns,i,a,st,n,h,hc,k⟩,c,⟨_,h⟩,nc,ns,hc⟩
theorem Z7 {A:Addr→Prop} {ι:List Addr} {H:Hp} {b c:Addr} (B:BagAt H b) (hd:jr H b c) (nc:¬ Av A ι c):∃ o,BagO o∧ObjR A ι H b o∧∃ x,H b = some x∧∀ H',H' b = some x→(∀ y z,H y = some z→y≠b→H' y = some z)→ObjR A ι H' b o:=by
 obtain ⟨c',ns,i,a,st,n,h,hc,k⟩:=B.ex
 have:c = c':=head_inj hd ⟨_,h⟩
 subst this
 have ncb:c≠b:=KG h hc
 refine ⟨_,⟨ns,i,a,st,n,rfl,k⟩,⟨_,h, .cons (.p (ZD nc hc)) (.cons (.p (.int _)) (.cons (.p (.int _)) (.cons (.p (.int _)) (.cons (.p (.int _)) .nil))))⟩,_,h,fun H' e f => ⟨_,e, .cons (.p (ZD nc (f _ _ hc ncb))) (.cons (.p (.int _)) (.cons (.p (.int _)) (.cons (.p (.int _)) (.cons (.p (.int _)) .nil))))⟩⟩
theorem ok_drawU {f:Addr} {fd:FuncData} (F:Fun K "_law_draw" "_law_draw" VD f fd) (N:Nms mg):FnOk P w K mg base CX0 1 f fd ["bag", "many"] (spU VW):=by
 refine (ok_draw2 F N).imp fun vs H Q E h => ?_
 obtain ⟨A,ι,M,us,Qu,w1,r,⟨k,o,many,rfl,em,hb,h0,h1,q⟩,kk⟩:=h
 cases r with
 | cons r1 r =>
 cases r with
 | cons r2 r =>
 cases r
 cases r2 with
 | p r2 =>
 cases r2
 cases r1 with
 | m ek =>
 rename_i b
 have ro:=w1.obj k b o ek em
 obtain ⟨B,c,hd,nc,ns,hcs⟩:=bag_obj hb ro
 refine ⟨b,many,rfl,B,h0,h1,fun found H' f0 f1 B' fr hdk => ?_⟩
 have hd':=hdk c hd
 have hmem:=List.mem_of_getElem? ek
 obtain ⟨o',hb',ro',x,hx,_⟩:=Z7 (A:=A) (ι:=ι) B' hd' nc
 have eH:H' = L2.upd H b x:=by
  funext y
  by_cases z:y = b
  ·subst z; rw [L2.upd_same]; exact hx
  ·rw [L2.upd_ne z]; exact fr y z
 subst eH
 exact kk _ _ ι _ _ (.put hmem) (w1.put ek ro') (.p (.int _)) (q found o' f0 f1 hb')
theorem up1 {a:T} {R:T→Prop}:(∃ t,U.p a = .p t∧R t) = R a:=propext ⟨fun ⟨_,e,h⟩ => by cases e; exact h,fun h => ⟨a,rfl,h⟩⟩
theorem t2_at {M:MM} {u a b:U} {R:U→U→Prop} (h:zK M u = some [a,b]) (q:R a b):T2S M u R:=⟨a,b,h,q⟩
theorem t3_at {M:MM} {u a b c:U} {R:U→U→U→Prop} (h:zK M u = some [a,b,c]) (q:R a b c):T3S M u R:=⟨a,b,c,h,q⟩
theorem useq {a b:US} {E:UEnds} {ρ:UEnv} {M:MM} (h:a { E with nx:=b E } ρ M):uSeq a b E ρ M:=h
local macro_rules | `(tactic| walk_at "vs") => `(tactic| simp only [xP,uNext,uAsg,XW,rd_name2,rd_name3,rd_var,rd_varS,uC,uCons,uNil,rd_op,rd_opS,rd_sI,rd_sI0,rd_eqI,rd_neI,rd_eqS,rd_neS,rd_eqB,rd_neB,uIsN,isNon,rd_intS,rd_blS,rd_b,rd_andV,rd_orV,rd_notV,uAnd,uOr,uNot,uIf,rd_pur0,rd_purC,Ji,rd_tup,rd_lst,uNew,uNewT,rd_ix,rd_sns0,rd_snsC,rd_cb,rd_int',rd_intB,rd_len,rd_lenP,rd_cat,rd_iter,rd_iterP,rd_rng1,uFor,uComp,maskU,rd_t2,rd_t3,rd_callP,rd_callS,rd_callU,rd_me,rd_app,uDrop,uRet,uRetN,uIfS,uYes,ss,uIsi,isU,isT,vt,rd_sub,rd_par,rd_par3,rd_p2,rd_p3,rd_name4,rd_t4,rd_fld,Jj,rd_meth,rd_make,Jh,Bool.or_true,Bool.true_or,Bool.or_false,Bool.false_or,uIfC,iteT_int,iteT_str,up1,frzB_p,frzN_p,MO.lst.injEq,MB_new,MB_len,MB_get,MB_set,Option.some.injEq,List.map_cons,List.map_nil,List.length_cons,List.length_nil,List.replicate,List.append_nil,List.nil_append,List.cons_append,List.getElem?_cons_zero,List.getElem?_cons_succ,List.set_cons_zero,List.set_cons_succ,List.zip_cons_cons,List.zip_nil_left,List.zip_nil_right,Bool.false_eq_true,if_true,if_false,decide_eq_true_eq,decide_true,decide_false,Bool.not_true,Bool.not_false,true_and,and_true,Nat.reduceAdd,Nat.reduceSub,Nat.zero_add,exists_eq_left'])
local macro_rules | `(tactic| walk_at "v") => `(tactic| repeat (first | with_reducible refine useq ?_ | walk_at "vs" | ((with_reducible refine gdIx ?_); first | refine jp rfl ?_ | refine jp at0 ?_ | refine jp at1 ?_ | refine zD rfl ?_) | ((with_reducible refine gdT2 ?_); refine t2_at rfl ?_) | ((with_reducible refine gdT3 ?_); refine t3_at rfl ?_) | ((with_reducible refine gdMe ?_); first | refine Xy rfl ?_ | refine Xy KP ?_) | ((with_reducible refine gdLen ?_); first | refine VS rfl ?_ | refine VS KP ?_)))
abbrev Mk3:=Str × Int × Int
def on (word:Int) (m:Mk3):Bool:=decide (word % 2 ^ m.2.1.toNat = m.2.2)
def Wd (ms:List Mk3):Prop:=∀ m ∈ ms,0≤m.2.1∧m.2.1≤1000
theorem X0 (k:Nat):(0:Int) < 2 ^ k:=Int.pow_pos (by decide)
theorem zi {α:Type} {l:List α} {i:Nat} {x:α} (h:l[i]? = some x):l.take (i + 1) = l.take i ++ [x]:=by
 obtain ⟨hi,e⟩:=List.getElem?_eq_some_iff.mp h
 rw [List.take_succ_eq_append_getElem hi,e]
def OfKind (ms:List Mk3) (kind:Str) (m:Mk3):Prop:=∃ rest,ms.filter (fun m => decide (m.1 = kind)) = m :: rest
def fiveK:List Str:=["small", "far", "pair", "sign", "one"]
abbrev Nd:=Int × Int
def Disj (a b:Nd):Prop:=∀ x:Int,¬ (x % 2 ^ a.1.toNat = a.2∧x % 2 ^ b.1.toNat = b.2)
theorem Disj.symm {a b:Nd} (h:Disj a b):Disj b a:=fun x ⟨p,q⟩ => h x ⟨q,p⟩
def NdOk (a:Nd):Prop:=0≤a.1∧a.1≤60∧0≤a.2∧a.2 < 2 ^ a.1.toNat
theorem Xx {x:Int} {a b:Nat} (h:a≤b):x % 2 ^ b % 2 ^ a = x % 2 ^ a:=by
 refine Int.emod_emod_of_dvd x ?_
 obtain ⟨c,rfl⟩:=Nat.exists_eq_add_of_le h
 exact ⟨2 ^ c,Int.pow_add ..⟩
def xx (a:Nd) (s:Int):Nd:=(a.1 + 1,a.2 + s * 2 ^ a.1.toNat)
theorem Kx {a:Nd} {s x:Int} (ha:NdOk a) (h:x % 2 ^ (xx a s).1.toNat = (xx a s).2):x % 2 ^ a.1.toNat = a.2:=by
 have e:(xx a s).1.toNat = a.1.toNat + 1:=by show (a.1 + 1).toNat = _; have:=ha.1; omega
 rw [e] at h
 rw [← Xx (Nat.le_succ a.1.toNat),h]
 show (a.2 + s * 2 ^ a.1.toNat) % 2 ^ a.1.toNat = a.2
 rw [Int.mul_comm,Int.add_mul_emod_self_left]
 exact Int.emod_eq_of_lt ha.2.2.1 ha.2.2.2
theorem kZ {a b:Nd} {s:Int} (ha:NdOk a) (h:Disj a b):Disj (xx a s) b:=fun x ⟨p,q⟩ => h x ⟨Kx ha p,q⟩
theorem Kw {a:Nd} {s t:Int} (hs:s≠t):Disj (xx a s) (xx a t):=fun x ⟨p,q⟩ => by
 rw [show (xx a t).1 = (xx a s).1 from rfl,p] at q
 have:(a.2 + s * 2 ^ a.1.toNat) = a.2 + t * 2 ^ a.1.toNat:=q
 have h2:s * 2 ^ a.1.toNat = t * 2 ^ a.1.toNat:=by omega
 exact hs (Int.eq_of_mul_eq_mul_right (Int.ne_of_gt (X0 _)) h2)
theorem Z1 {a:Nd} {s:Int} (ha:NdOk a) (h59:a.1≤59) (hs:s = 0∨s = 1):NdOk (xx a s):=by
 obtain ⟨h1,h2,h3,h4⟩:=ha
 have e:(a.1 + 1).toNat = a.1.toNat + 1:=by omega
 refine ⟨by show 0≤a.1 + 1; omega,by show a.1 + 1≤60; omega, ?_, ?_⟩
 ·show 0≤a.2 + s * 2 ^ a.1.toNat
  have:=X0 a.1.toNat
  rcases hs with rfl | rfl <;> omega
 ·show a.2 + s * 2 ^ a.1.toNat < 2 ^ (a.1 + 1).toNat
  rw [e,Int.pow_succ]
  rcases hs with rfl | rfl <;> omega
def need (kind:Str):Int:=if kind = "sign" then 7 else if kind = "small" then 2 else if kind = "one" then 2 else 3
structure Right (bits:Int) (ms:List Mk3):Prop where
 b:8≤bits∧bits≤32
 n:ms.length = 5
 k:(ms.map (·.1)).Perm fiveK
 w:∀ m ∈ ms,1≤m.2.1∧m.2.1≤bits - need m.1
 p:∀ m ∈ ms,0≤m.2.2∧m.2.2 < 2 ^ m.2.1.toNat
 d:ms.Pairwise fun m m' => Disj m.2 m'.2
theorem Right.kind {bits:Int} {ms:List Mk3} (r:Right bits ms) {kind:Str} (h:kind ∈ fiveK):∃ m,OfKind ms kind m:=by
 have:kind ∈ ms.map (·.1):=r.k.mem_iff.mpr h
 obtain ⟨m,hm,e⟩:=List.mem_map.mp this
 cases q:ms.filter (fun m => decide (m.1 = kind)) with
 | nil =>
  have:m ∈ ms.filter (fun m => decide (m.1 = kind)):=List.mem_filter.mpr ⟨hm,by simp [e]⟩
  rw [q] at this; cases this
 | cons m0 rest => exact ⟨m0,rest,q⟩
theorem log2_lt {n:Int} (h0:0 < n) (h1:n < 2 ^ 62):n.natAbs.log2 < 9000:=by
 have:n.natAbs.log2 < 62:=(Nat.log2_lt (by omega)).mpr (by omega)
 omega
structure LInv (bits:Int) (KS:List Str) (i:Nat) (ns:List Nd) (ms:List Mk3):Prop where
 ok:∀ n ∈ ns,NdOk n
 low:∃ n ∈ ns,n.1≤i
 len:ns.length≤1 + 31 * i
 kinds:ms.map (·.1) = KS.take i
 w:∀ m ∈ ms,1≤m.2.1∧m.2.1≤bits - need m.1
 p:∀ m ∈ ms,NdOk m.2
 d:(ns ++ ms.map (·.2)).Pairwise Disj
structure WInv (i:Nat) (w0:Int) (c:Nd) (ns:List Nd) (ms:List Mk3):Prop where
 cok:NdOk c
 w:w0≤c.1
 ok:∀ n ∈ ns,NdOk n
 low:(∃ n ∈ ns,n.1≤i + 1)∨(c.1 = w0∧w0≤i)
 len:(ns.length:Int)≤31 * i + c.1
 d:(c :: (ns ++ ms.map (·.2))).Pairwise Disj
theorem WInv.step {i:Nat} {w0:Int} {c:Nd} {ns:List Nd} {ms:List Mk3} {s:Int} (h:WInv i w0 c ns ms) (hs:s = 0∨s = 1) (h59:c.1≤59):WInv i w0 (xx c s) (ns ++ [xx c (1 - s)]) ms:=by
 have hs':1 - s = 0∨1 - s = 1:=by omega
 obtain ⟨dc,dr⟩:=List.pairwise_cons.mp h.d
 have cw:(xx c s).1 = c.1 + 1:=rfl
 refine ⟨Z1 h.cok h59 hs,by rw [cw]; have:=h.w; omega,fun n hn => ?_, ?_, ?_, ?_⟩
 ·rcases List.mem_append.mp hn with z | z
  ·exact h.ok n z
  ·rw [List.mem_singleton.mp z]; exact Z1 h.cok h59 hs'
 ·rcases h.low with ⟨n,hn,hw⟩ | ⟨e,hw⟩
  ·exact .inl ⟨n,List.mem_append_left _ hn,hw⟩
  ·exact .inl ⟨xx c (1 - s),List.mem_append_right _ (List.mem_singleton.mpr rfl),by show c.1 + 1≤_; omega⟩
 ·have:=h.len
  rw [cw,List.length_append,List.length_singleton]
  push_cast; omega
 ·have p1:(xx c s :: (ns ++ [xx c (1 - s)] ++ ms.map (·.2))).Perm (xx c s :: xx c (1 - s) :: (ns ++ ms.map (·.2))):=by
   refine List.Perm.cons _ ?_
   rw [List.append_assoc]
   exact List.perm_middle
  refine (p1.pairwise_iff fun h => h.symm).mpr ?_
  refine List.pairwise_cons.mpr ⟨fun n hn => ?_,List.pairwise_cons.mpr ⟨fun n hn => kZ h.cok (dc n hn),dr⟩⟩
  rcases List.mem_cons.mp hn with rfl | z
  ·exact Kw (by omega)
  ·exact kZ h.cok (dc n z)
theorem WInv.fin {bits w0 goal:Int} {KS:List Str} {kind:Str} {i:Nat} {c:Nd} {ns ns0:List Nd} {ms:List Mk3} (h:WInv i w0 c ns ms) (h0:LInv bits KS i ns0 ms) (hk:KS[i]? = some kind) (hg:c.1 = goal) (hw:w0 < goal) (h1:1≤goal) (h2:goal≤bits - need kind) (h31:goal≤31) :
  LInv bits KS (i + 1) ns (ms ++ [(kind,c)]):=by
 have hl:=h.len
 refine ⟨h.ok, ?_, ?_, ?_,fun m hm => ?_,fun m hm => ?_, ?_⟩
 ·rcases h.low with ⟨n,hn,hw'⟩ | ⟨e,_⟩
  ·exact ⟨n,hn,by push_cast; exact hw'⟩
  ·omega
 ·omega
 ·rw [List.map_append,h0.kinds,zi hk]; rfl
 ·rcases List.mem_append.mp hm with z | z
  ·exact h0.w m z
  ·rw [List.mem_singleton.mp z]; exact ⟨by show 1≤c.1; omega,by show c.1≤bits - need kind; omega⟩
 ·rcases List.mem_append.mp hm with z | z
  ·exact h0.p m z
  ·rw [List.mem_singleton.mp z]; exact h.cok
 ·rw [List.map_append, ← List.append_assoc]
  have p1:(ns ++ ms.map (·.2) ++ [c]).Perm (c :: (ns ++ ms.map (·.2))):=List.perm_append_comm
  exact (p1.pairwise_iff fun h => h.symm).mpr h.d
theorem LInv.right {bits:Int} {KS:List Str} {ns:List Nd} {ms:List Mk3} (h:LInv bits KS 5 ns ms) (hK:KS.Perm fiveK) (hb:8≤bits∧bits≤32):Right bits ms:=by
 have hl:KS.length = 5:=hK.length_eq
 have hk:ms.map (·.1) = KS:=by rw [h.kinds,List.take_of_length_le (by omega)]
 refine ⟨hb, ?_,by rw [hk]; exact hK,h.w,fun m hm => ⟨(h.p m hm).2.2.1,(h.p m hm).2.2.2⟩, ?_⟩
 ·have:=congrArg List.length hk
  rw [List.length_map,hl] at this
  exact this
 ·have:=(List.pairwise_append.mp h.d).2.1
  rw [List.pairwise_map] at this
  exact this
theorem OfKind.is {ms:List Mk3} {kind:Str} {m:Mk3} (h:OfKind ms kind m):m.1 = kind:=by
 obtain ⟨rest,e⟩:=h
 have:m ∈ ms.filter (fun m => decide (m.1 = kind)):=by rw [e]; exact List.mem_cons_self
 exact of_decide_eq_true (List.mem_filter.mp this).2
abbrev je:Stmt:=top 23
theorem Jc:FnScope ["found", "due"] ["found", "due"] (qc je):=⟨rfl,rfl,rfl,by decide +kernel,rfl,by decide +kernel,by decide +kernel⟩
theorem ndAlike1:(["found", "due", "k"]:List Str).Nodup:=by decide +kernel
def flatA:V→Bool
 | .non => true
 | .bl _ => true
 | .int _ => true
 | .str _ => true
 | _ => false
def AL (H:Hp):Nat→V→V→Prop
 | 0,_,_ => False
 | n + 1,x,y => (x = y∧flatA x = true)∨∃ (p q:Addr) (xs ys:List V),x = .ref p∧y = .ref q∧((H p = some (.lst xs)∧H q = some (.lst ys))∨(H p = some (.tup xs)∧H q = some (.tup ys)))∧xs.length = ys.length∧xs.length≤100000∧∀ (j:Nat) (x y:V),xs[j]? = some x→ys[j]? = some y→AL H n x y
theorem AL.same {H H':Hp} (s:Same H H'):∀ {n:Nat} {x y:V},AL H n x y→AL H' n x y
 | 0,_,_,h => h
 | n + 1,_,_,h => by
  rcases h with h | ⟨p,q,xs,ys,e1,e2,h,l1,l2,k⟩
  ·exact .inl h
  ·refine .inr ⟨p,q,xs,ys,e1,e2, ?_,l1,l2,fun j x y a b => (k j x y a b).same s⟩
   rcases h with ⟨h1,h2⟩ | ⟨h1,h2⟩
   ·exact .inl ⟨s _ _ h1,s _ _ h2⟩
   ·exact .inr ⟨s _ _ h1,s _ _ h2⟩
def Qg (n:Nat):Sp:=fun vs H Q _ => ∃ x y:V,vs = [x,y]∧AL H n x y∧∀ H',Same H H'→Q (.bl true) H'
theorem ty_flat {K:PySem.W.Frag} {H:Hp} {v:V} (h:flatA v = true):∃ t,TyOf K H v (.type t)∧PySem.W.kitAny K (.type t) [.type "list", .type "tuple"] = some false∧∃ b i s,PySem.W.kitOne K (.type t) (.type "bool") = some b∧PySem.W.kitOne K (.type t) (.type "int") = some i∧PySem.W.kitOne K (.type t) (.type "str") = some s:=by
 cases v with
 | non => exact ⟨_,TyOf.non,rfl,_,_,_,rfl,rfl,rfl⟩
 | bl b => exact ⟨_,TyOf.bl b,rfl,_,_,_,rfl,rfl,rfl⟩
 | int i => exact ⟨_,TyOf.int i,rfl,_,_,_,rfl,rfl,rfl⟩
 | str s => exact ⟨_,TyOf.str s,rfl,_,_,_,rfl,rfl,rfl⟩
 | _ => cases h
theorem ixA_at {H:Hp} {p:Addr} {xs:List V} {i:Int} {v:V} {Q:VK} (h:SqL K H p xs∨SqT K H p xs) (e:atI xs i = some v) (q:Q v H):rIxA K (.ref p) (.int i) H Q :=
 h.elim (fun h => .inl ⟨p,xs,i,v,rfl,rfl,h,e,q⟩) fun h => .inr ⟨p,xs,i,v,rfl,rfl,h,e,q⟩
theorem Qo {n:Nat} {f:Addr} {fd:FuncData} (F:Fun K "_law_alike" "_law_alike" je f fd) (N:Nms mg) (DAlike:Def P w K mg base "_law_alike" (n + 1) ["found", "due"] (Qg n)):FnOk P w K mg base CX0 (n + 2) f fd ["found", "due"] (Qg (n + 1)):=by
 refine F.okQ Jc (fun vs H Q E h => ?_) (fun cdv A outer s H vs Q E hr h => ?_)
 ·obtain ⟨_,_,rfl,_⟩:=h
  rfl
 ·obtain ⟨x,y,rfl,hA,k⟩:=h
  refine ⟨_,(qh (vz (zQ (qL (Vr (K:=K) rfl) (by rfl) N.isinstance qA (qa_c (qv 1) (qa_c (vg (qa_c (vM (v:=.ty "list") (by rfl) N.list Qc rfl) (qa_c (vM (v:=.ty "tuple") (by rfl) N.tuple Zd rfl) qd))) qd))))
   (qh (vz (Qk (Jl (jh (zQ (qL (Vr (K:=K) rfl) (by rfl) N.isinstance qA (qa_c (qv 0) (qa_c (vg (qa_c (vM (v:=.ty "list") (by rfl) N.list Qc rfl) (qa_c (vM (v:=.ty "tuple") (by rfl) N.tuple Zd rfl) qd))) qd))))) (Q4 (qu jP (qL (vZ (K:=K) rfl) (by rfl) N.isinstance qA (qa_c (qv 0) (qa_c (vM (v:=.ty "list") (by rfl) N.list Qc rfl) qd))) (qL (vZ (K:=K) rfl) (by rfl) N.isinstance qA (qa_c (qv 1) (qa_c (vM (v:=.ty "list") (by rfl) N.list Qc rfl) qd))) (qC _)))))
    (qk (qF xr))
    qG)
   (qh (vz (qu jP (qL (jU (K:=K) rfl) (by rfl) N.len XH (qa_c (qv 0) qd)) (qL (jU (K:=K) rfl) (by rfl) N.len XH (qa_c (qv 1) qd)) (qC _))
    (qk (qF xr))
    qG)
   (qk (qF (qL (call_all rfl) (by rfl) N.all b_all (qa_c (qe_lc [true,true] ["k"] (ji rfl N.range (qa_c (qL (jU (K:=K) rfl) (by rfl) N.len XH (qa_c (qv 1) qd)) qd)) (fun _ _ _ => (zw (i:=2) ndAlike1 rfl (Or.inl rfl))) (fun _ _ _ => Qm) (fun _ _ _ => (qU DAlike (hr.mono (by first | decide | exact Nat.le_refl _)) (qa_c (qr (J4 (K:=K) rfl) (qv 0) (qv 2) (fun _ _ => rfl)) (qa_c (qr (J4 (K:=K) rfl) (qv 1) (qv 2) (fun _ _ => rfl)) qd))))) qd))))))
   qG)
  (qh (vz (Qk (Jl (qu jP (qL (vZ (K:=K) rfl) (by rfl) N.isinstance qA (qa_c (qv 0) (qa_c (vM (v:=.ty "bool") (by rfl) N.bool b_bool rfl) qd))) (qL (vZ (K:=K) rfl) (by rfl) N.isinstance qA (qa_c (qv 1) (qa_c (vM (v:=.ty "bool") (by rfl) N.bool b_bool rfl) qd))) (qC _)) (Q4 (qu jP (qL (vZ (K:=K) rfl) (by rfl) N.isinstance qA (qa_c (qv 0) (qa_c (vM (v:=.ty "int") (by rfl) N.int XJ rfl) qd))) (qL (vZ (K:=K) rfl) (by rfl) N.isinstance qA (qa_c (qv 1) (qa_c (vM (v:=.ty "int") (by rfl) N.int XJ rfl) qd))) (qC _)))))
   (qk (qF xr))
   qG)
  (qk (qF (Zq (zx op_eq (qL (vZ (K:=K) rfl) (by rfl) N.isinstance qA (qa_c (qv 0) (qa_c (vM (v:=.ty "str") (by rfl) N.str b_str rfl) qd))) (qL (vZ (K:=K) rfl) (by rfl) N.isinstance qA (qa_c (qv 1) (qa_c (vM (v:=.ty "str") (by rfl) N.str b_str rfl) qd))) (qC _)) (Q6 (zx op_eq (qv 0) (qv 1) (qC _)))))))), ?_⟩
  (repeat (first | (simp only [L2.start,tSeq,vT,tAsg,tOp,tUn,tVar,tC,qI,gSub,tRet,za,tIfS,vU,tLM,tTru,vL,tBM,tBM0,tRev,vB,vK,vC,qO,qN,vc,qP,zc,tSl,qW,vY,rd_I,zh,rd_U,vb,zg,tCB,vo,tNil,tTup,tLst,tYes,tAnd,tOr,tNot,tB,tIf,vV,tOrV,zb,vS,zf,ze,zd,List.getElem?_cons_zero,List.getElem?_cons_succ,Option.some.injEq,exists_eq_left',List.set_cons_zero,List.set_cons_succ,vA,List.zip_cons_cons,List.zip_nil_left,List.zip_nil_right,List.map_cons,List.map_nil,List.length_cons,List.length_nil,List.replicate,List.append_nil,List.nil_append,List.cons_append,Bool.false_eq_true,if_true,if_false,decide_eq_true_eq,Nat.zero_add,qy,qx]) | refine qH (by walk_at "hp") rfl ?_ | refine vI (by walk_at "hp") rfl ?_ | refine qH (by walk_at "hp") at0 ?_ | refine vh (by walk_at "hp") rfl ?_ | refine vH (by walk_at "hp") ?_ | refine qT (by walk_at "hp") ?_ | refine qS (by walk_at "hp") ?_ | refine zA (by walk_at "hp") ?_ | refine zC (by walk_at "hp") ?_ | refine v3 rfl ?_ | refine zy rfl ?_))
  refine ⟨by decide,fun p1 hp1 => ?_⟩
  (repeat (first | (simp only [L2.start,tSeq,vT,tAsg,tOp,tUn,tVar,tC,qI,gSub,tRet,za,tIfS,vU,tLM,tTru,vL,tBM,tBM0,tRev,vB,vK,vC,qO,qN,vc,qP,zc,tSl,qW,vY,rd_I,zh,rd_U,vb,zg,tCB,vo,tNil,tTup,tLst,tYes,tAnd,tOr,tNot,tB,tIf,vV,tOrV,zb,vS,zf,ze,zd,List.getElem?_cons_zero,List.getElem?_cons_succ,Option.some.injEq,exists_eq_left',List.set_cons_zero,List.set_cons_succ,vA,List.zip_cons_cons,List.zip_nil_left,List.zip_nil_right,List.map_cons,List.map_nil,List.length_cons,List.length_nil,List.replicate,List.append_nil,List.nil_append,List.cons_append,Bool.false_eq_true,if_true,if_false,decide_eq_true_eq,Nat.zero_add,qy,qx]) | refine qH (by walk_at "hp") rfl ?_ | refine vI (by walk_at "hp") rfl ?_ | refine qH (by walk_at "hp") at0 ?_ | refine vh (by walk_at "hp") rfl ?_ | refine vH (by walk_at "hp") ?_ | refine qT (by walk_at "hp") ?_ | refine qS (by walk_at "hp") ?_ | refine zA (by walk_at "hp") ?_ | refine zC (by walk_at "hp") ?_ | refine v3 rfl ?_ | refine zy rfl ?_))
  have s1:Same H (upd H p1 (.tup [.ty "list", .ty "tuple"])):=(Same.refl H).upd hp1
  rcases hA with ⟨rfl,hf⟩ | ⟨p,q,xs,ys,rfl,rfl,h,l1,l2,kk⟩
  ·obtain ⟨t,ty,e1,b,i,st,e2,e3,e4⟩:=ty_flat (K:=K) (H:=upd H p1 (.tup [.ty "list", .ty "tuple"])) hf
   refine ⟨x,p1, ["list", "tuple"],t,false,rfl,upd_same,ty,e1, ?_⟩
   (repeat (first | (simp only [L2.start,tSeq,vT,tAsg,tOp,tUn,tVar,tC,qI,gSub,tRet,za,tIfS,vU,tLM,tTru,vL,tBM,tBM0,tRev,vB,vK,vC,qO,qN,vc,qP,zc,tSl,qW,vY,rd_I,zh,rd_U,vb,zg,tCB,vo,tNil,tTup,tLst,tYes,tAnd,tOr,tNot,tB,tIf,vV,tOrV,zb,vS,zf,ze,zd,List.getElem?_cons_zero,List.getElem?_cons_succ,Option.some.injEq,exists_eq_left',List.set_cons_zero,List.set_cons_succ,vA,List.zip_cons_cons,List.zip_nil_left,List.zip_nil_right,List.map_cons,List.map_nil,List.length_cons,List.length_nil,List.replicate,List.append_nil,List.nil_append,List.cons_append,Bool.false_eq_true,if_true,if_false,decide_eq_true_eq,Nat.zero_add,qy,qx]) | refine qH (by walk_at "hp") rfl ?_ | refine vI (by walk_at "hp") rfl ?_ | refine qH (by walk_at "hp") at0 ?_ | refine vh (by walk_at "hp") rfl ?_ | refine vH (by walk_at "hp") ?_ | refine qT (by walk_at "hp") ?_ | refine qS (by walk_at "hp") ?_ | refine zA (by walk_at "hp") ?_ | refine zC (by walk_at "hp") ?_ | refine v3 rfl ?_ | refine zy rfl ?_))
   refine jW ty e2 ?_
   refine jW ty e2 ?_
   (repeat (first | (simp only [L2.start,tSeq,vT,tAsg,tOp,tUn,tVar,tC,qI,gSub,tRet,za,tIfS,vU,tLM,tTru,vL,tBM,tBM0,tRev,vB,vK,vC,qO,qN,vc,qP,zc,tSl,qW,vY,rd_I,zh,rd_U,vb,zg,tCB,vo,tNil,tTup,tLst,tYes,tAnd,tOr,tNot,tB,tIf,vV,tOrV,zb,vS,zf,ze,zd,List.getElem?_cons_zero,List.getElem?_cons_succ,Option.some.injEq,exists_eq_left',List.set_cons_zero,List.set_cons_succ,vA,List.zip_cons_cons,List.zip_nil_left,List.zip_nil_right,List.map_cons,List.map_nil,List.length_cons,List.length_nil,List.replicate,List.append_nil,List.nil_append,List.cons_append,Bool.false_eq_true,if_true,if_false,decide_eq_true_eq,Nat.zero_add,qy,qx]) | refine qH (by walk_at "hp") rfl ?_ | refine vI (by walk_at "hp") rfl ?_ | refine qH (by walk_at "hp") at0 ?_ | refine vh (by walk_at "hp") rfl ?_ | refine vH (by walk_at "hp") ?_ | refine qT (by walk_at "hp") ?_ | refine qS (by walk_at "hp") ?_ | refine zA (by walk_at "hp") ?_ | refine zC (by walk_at "hp") ?_ | refine v3 rfl ?_ | refine zy rfl ?_))
   refine ite2 (fun hh => absurd hh (by simp)) (fun _ => ?_)
   refine jW ty e3 ?_
   refine jW ty e3 ?_
   (repeat (first | (simp only [L2.start,tSeq,vT,tAsg,tOp,tUn,tVar,tC,qI,gSub,tRet,za,tIfS,vU,tLM,tTru,vL,tBM,tBM0,tRev,vB,vK,vC,qO,qN,vc,qP,zc,tSl,qW,vY,rd_I,zh,rd_U,vb,zg,tCB,vo,tNil,tTup,tLst,tYes,tAnd,tOr,tNot,tB,tIf,vV,tOrV,zb,vS,zf,ze,zd,List.getElem?_cons_zero,List.getElem?_cons_succ,Option.some.injEq,exists_eq_left',List.set_cons_zero,List.set_cons_succ,vA,List.zip_cons_cons,List.zip_nil_left,List.zip_nil_right,List.map_cons,List.map_nil,List.length_cons,List.length_nil,List.replicate,List.append_nil,List.nil_append,List.cons_append,Bool.false_eq_true,if_true,if_false,decide_eq_true_eq,Nat.zero_add,qy,qx]) | refine qH (by walk_at "hp") rfl ?_ | refine vI (by walk_at "hp") rfl ?_ | refine qH (by walk_at "hp") at0 ?_ | refine vh (by walk_at "hp") rfl ?_ | refine vH (by walk_at "hp") ?_ | refine qT (by walk_at "hp") ?_ | refine qS (by walk_at "hp") ?_ | refine zA (by walk_at "hp") ?_ | refine zC (by walk_at "hp") ?_ | refine v3 rfl ?_ | refine zy rfl ?_))
   refine ite2 (fun hh => absurd hh (by simp)) (fun _ => ?_)
   refine jW ty e4 ?_
   refine jW ty e4 ?_
   (repeat (first | (simp only [L2.start,tSeq,vT,tAsg,tOp,tUn,tVar,tC,qI,gSub,tRet,za,tIfS,vU,tLM,tTru,vL,tBM,tBM0,tRev,vB,vK,vC,qO,qN,vc,qP,zc,tSl,qW,vY,rd_I,zh,rd_U,vb,zg,tCB,vo,tNil,tTup,tLst,tYes,tAnd,tOr,tNot,tB,tIf,vV,tOrV,zb,vS,zf,ze,zd,List.getElem?_cons_zero,List.getElem?_cons_succ,Option.some.injEq,exists_eq_left',List.set_cons_zero,List.set_cons_succ,vA,List.zip_cons_cons,List.zip_nil_left,List.zip_nil_right,List.map_cons,List.map_nil,List.length_cons,List.length_nil,List.replicate,List.append_nil,List.nil_append,List.cons_append,Bool.false_eq_true,if_true,if_false,decide_eq_true_eq,Nat.zero_add,qy,qx]) | refine qH (by walk_at "hp") rfl ?_ | refine vI (by walk_at "hp") rfl ?_ | refine qH (by walk_at "hp") at0 ?_ | refine vh (by walk_at "hp") rfl ?_ | refine vH (by walk_at "hp") ?_ | refine qT (by walk_at "hp") ?_ | refine qS (by walk_at "hp") ?_ | refine zA (by walk_at "hp") ?_ | refine zC (by walk_at "hp") ?_ | refine v3 rfl ?_ | refine zy rfl ?_))
   have hq:=k _ s1
   cases x with
   | non => exact v3 rfl (by simpa [eqV] using hq)
   | bl b => exact v3 rfl (by simpa [eqV] using hq)
   | int b => exact v3 rfl (by simpa [eqV] using hq)
   | str b => exact v3 rfl (by simpa [eqV] using hq)
   | _ => cases hf
  ·obtain ⟨t,bl,tys,e1,e2⟩:∃ (t:String) (bl:Bool),(∀ H',Same H H'→TyOf K H' (.ref p) (.type t)∧TyOf K H' (.ref q) (.type t)∧(SqL K H' p xs∨SqT K H' p xs)∧(SqL K H' q ys∨SqT K H' q ys))∧PySem.W.kitAny K (.type t) [.type "list", .type "tuple"] = some true∧PySem.W.kitOne K (.type t) (.type "list") = some bl:=by
    rcases h with ⟨h1,h2⟩ | ⟨h1,h2⟩
    ·exact ⟨"list", true,(fun H' s => ⟨TyOf.lst (s _ _ h1),TyOf.lst (s _ _ h2), .inl (SqL.of (s _ _ h1)), .inl (SqL.of (s _ _ h2))⟩),rfl,rfl⟩
    ·exact ⟨"tuple", false,(fun H' s => ⟨TyOf.tup (s _ _ h1),TyOf.tup (s _ _ h2), .inr (SqT.of (s _ _ h1)), .inr (SqT.of (s _ _ h2))⟩),rfl,rfl⟩
   refine ⟨_,p1, ["list", "tuple"],t,true,rfl,upd_same,(tys _ s1).2.1,e1, ?_⟩
   (repeat (first | (simp only [L2.start,tSeq,vT,tAsg,tOp,tUn,tVar,tC,qI,gSub,tRet,za,tIfS,vU,tLM,tTru,vL,tBM,tBM0,tRev,vB,vK,vC,qO,qN,vc,qP,zc,tSl,qW,vY,rd_I,zh,rd_U,vb,zg,tCB,vo,tNil,tTup,tLst,tYes,tAnd,tOr,tNot,tB,tIf,vV,tOrV,zb,vS,zf,ze,zd,List.getElem?_cons_zero,List.getElem?_cons_succ,Option.some.injEq,exists_eq_left',List.set_cons_zero,List.set_cons_succ,vA,List.zip_cons_cons,List.zip_nil_left,List.zip_nil_right,List.map_cons,List.map_nil,List.length_cons,List.length_nil,List.replicate,List.append_nil,List.nil_append,List.cons_append,Bool.false_eq_true,if_true,if_false,decide_eq_true_eq,Nat.zero_add,qy,qx]) | refine qH (by walk_at "hp") rfl ?_ | refine vI (by walk_at "hp") rfl ?_ | refine qH (by walk_at "hp") at0 ?_ | refine vh (by walk_at "hp") rfl ?_ | refine vH (by walk_at "hp") ?_ | refine qT (by walk_at "hp") ?_ | refine qS (by walk_at "hp") ?_ | refine zA (by walk_at "hp") ?_ | refine zC (by walk_at "hp") ?_ | refine v3 rfl ?_ | refine zy rfl ?_))
   refine ⟨by decide,fun p2 hp2 => ?_⟩
   (repeat (first | (simp only [L2.start,tSeq,vT,tAsg,tOp,tUn,tVar,tC,qI,gSub,tRet,za,tIfS,vU,tLM,tTru,vL,tBM,tBM0,tRev,vB,vK,vC,qO,qN,vc,qP,zc,tSl,qW,vY,rd_I,zh,rd_U,vb,zg,tCB,vo,tNil,tTup,tLst,tYes,tAnd,tOr,tNot,tB,tIf,vV,tOrV,zb,vS,zf,ze,zd,List.getElem?_cons_zero,List.getElem?_cons_succ,Option.some.injEq,exists_eq_left',List.set_cons_zero,List.set_cons_succ,vA,List.zip_cons_cons,List.zip_nil_left,List.zip_nil_right,List.map_cons,List.map_nil,List.length_cons,List.length_nil,List.replicate,List.append_nil,List.nil_append,List.cons_append,Bool.false_eq_true,if_true,if_false,decide_eq_true_eq,Nat.zero_add,qy,qx]) | refine qH (by walk_at "hp") rfl ?_ | refine vI (by walk_at "hp") rfl ?_ | refine qH (by walk_at "hp") at0 ?_ | refine vh (by walk_at "hp") rfl ?_ | refine vH (by walk_at "hp") ?_ | refine qT (by walk_at "hp") ?_ | refine qS (by walk_at "hp") ?_ | refine zA (by walk_at "hp") ?_ | refine zC (by walk_at "hp") ?_ | refine v3 rfl ?_ | refine zy rfl ?_))
   have s2:=s1.trans ((Same.refl _).upd (o:=.tup [.ty "list", .ty "tuple"]) hp2)
   refine ⟨_,p2, ["list", "tuple"],t,true,rfl,upd_same,(tys _ s2).1,e1, ?_⟩
   (repeat (first | (simp only [L2.start,tSeq,vT,tAsg,tOp,tUn,tVar,tC,qI,gSub,tRet,za,tIfS,vU,tLM,tTru,vL,tBM,tBM0,tRev,vB,vK,vC,qO,qN,vc,qP,zc,tSl,qW,vY,rd_I,zh,rd_U,vb,zg,tCB,vo,tNil,tTup,tLst,tYes,tAnd,tOr,tNot,tB,tIf,vV,tOrV,zb,vS,zf,ze,zd,List.getElem?_cons_zero,List.getElem?_cons_succ,Option.some.injEq,exists_eq_left',List.set_cons_zero,List.set_cons_succ,vA,List.zip_cons_cons,List.zip_nil_left,List.zip_nil_right,List.map_cons,List.map_nil,List.length_cons,List.length_nil,List.replicate,List.append_nil,List.nil_append,List.cons_append,Bool.false_eq_true,if_true,if_false,decide_eq_true_eq,Nat.zero_add,qy,qx]) | refine qH (by walk_at "hp") rfl ?_ | refine vI (by walk_at "hp") rfl ?_ | refine qH (by walk_at "hp") at0 ?_ | refine vh (by walk_at "hp") rfl ?_ | refine vH (by walk_at "hp") ?_ | refine qT (by walk_at "hp") ?_ | refine qS (by walk_at "hp") ?_ | refine zA (by walk_at "hp") ?_ | refine zC (by walk_at "hp") ?_ | refine v3 rfl ?_ | refine zy rfl ?_))
   refine ite2 (fun hh => absurd hh (by decide)) (fun _ => ?_)
   refine jW (tys _ s2).1 e2 ?_
   refine jW (tys _ s2).2.1 e2 ?_
   (repeat (first | (simp only [L2.start,tSeq,vT,tAsg,tOp,tUn,tVar,tC,qI,gSub,tRet,za,tIfS,vU,tLM,tTru,vL,tBM,tBM0,tRev,vB,vK,vC,qO,qN,vc,qP,zc,tSl,qW,vY,rd_I,zh,rd_U,vb,zg,tCB,vo,tNil,tTup,tLst,tYes,tAnd,tOr,tNot,tB,tIf,vV,tOrV,zb,vS,zf,ze,zd,List.getElem?_cons_zero,List.getElem?_cons_succ,Option.some.injEq,exists_eq_left',List.set_cons_zero,List.set_cons_succ,vA,List.zip_cons_cons,List.zip_nil_left,List.zip_nil_right,List.map_cons,List.map_nil,List.length_cons,List.length_nil,List.replicate,List.append_nil,List.nil_append,List.cons_append,Bool.false_eq_true,if_true,if_false,decide_eq_true_eq,Nat.zero_add,qy,qx]) | refine qH (by walk_at "hp") rfl ?_ | refine vI (by walk_at "hp") rfl ?_ | refine qH (by walk_at "hp") at0 ?_ | refine vh (by walk_at "hp") rfl ?_ | refine vH (by walk_at "hp") ?_ | refine qT (by walk_at "hp") ?_ | refine qS (by walk_at "hp") ?_ | refine zA (by walk_at "hp") ?_ | refine zC (by walk_at "hp") ?_ | refine v3 rfl ?_ | refine zy rfl ?_))
   refine ite2 (fun hh => absurd hh (by simp)) (fun _ => ?_)
   refine ⟨p,xs,rfl,(tys _ s2).2.2.1, ?_⟩
   refine ⟨q,ys,rfl,(tys _ s2).2.2.2, ?_⟩
   (repeat (first | (simp only [L2.start,tSeq,vT,tAsg,tOp,tUn,tVar,tC,qI,gSub,tRet,za,tIfS,vU,tLM,tTru,vL,tBM,tBM0,tRev,vB,vK,vC,qO,qN,vc,qP,zc,tSl,qW,vY,rd_I,zh,rd_U,vb,zg,tCB,vo,tNil,tTup,tLst,tYes,tAnd,tOr,tNot,tB,tIf,vV,tOrV,zb,vS,zf,ze,zd,List.getElem?_cons_zero,List.getElem?_cons_succ,Option.some.injEq,exists_eq_left',List.set_cons_zero,List.set_cons_succ,vA,List.zip_cons_cons,List.zip_nil_left,List.zip_nil_right,List.map_cons,List.map_nil,List.length_cons,List.length_nil,List.replicate,List.append_nil,List.nil_append,List.cons_append,Bool.false_eq_true,if_true,if_false,decide_eq_true_eq,Nat.zero_add,qy,qx]) | refine qH (by walk_at "hp") rfl ?_ | refine vI (by walk_at "hp") rfl ?_ | refine qH (by walk_at "hp") at0 ?_ | refine vh (by walk_at "hp") rfl ?_ | refine vH (by walk_at "hp") ?_ | refine qT (by walk_at "hp") ?_ | refine qS (by walk_at "hp") ?_ | refine zA (by walk_at "hp") ?_ | refine zC (by walk_at "hp") ?_ | refine v3 rfl ?_ | refine zy rfl ?_))
   refine ite2 (fun hh => absurd hh (by simp [l1])) (fun _ => ?_)
   refine ⟨q,ys,rfl,(tys _ s2).2.2.2, ?_⟩
   refine rg_at (by omega) (by omega) ?_
   intro acc hacc
   generalize upd (upd H p1 (.tup [.ty "list", .ty "tuple"])) p2 (.tup [.ty "list", .ty "tuple"]) = Hc at s2 hacc ⊢
   refine XF (fun i H3 => Same Hc H3∧H3 acc = some (.lst ((List.replicate i true).map V.bl))) ?_ ?_ ?_
   ·exact ⟨(Same.refl Hc).upd hacc,upd_same⟩
   ·rintro i H3 hi ⟨s3,e3⟩
    (repeat (first | (simp only [L2.start,tSeq,vT,tAsg,tOp,tUn,tVar,tC,qI,gSub,tRet,za,tIfS,vU,tLM,tTru,vL,tBM,tBM0,tRev,vB,vK,vC,qO,qN,vc,qP,zc,tSl,qW,vY,rd_I,zh,rd_U,vb,zg,tCB,vo,tNil,tTup,tLst,tYes,tAnd,tOr,tNot,tB,tIf,vV,tOrV,zb,vS,zf,ze,zd,List.getElem?_cons_zero,List.getElem?_cons_succ,Option.some.injEq,exists_eq_left',List.set_cons_zero,List.set_cons_succ,vA,List.zip_cons_cons,List.zip_nil_left,List.zip_nil_right,List.map_cons,List.map_nil,List.length_cons,List.length_nil,List.replicate,List.append_nil,List.nil_append,List.cons_append,Bool.false_eq_true,if_true,if_false,decide_eq_true_eq,Nat.zero_add,qy,qx]) | refine qH (by walk_at "hp") rfl ?_ | refine vI (by walk_at "hp") rfl ?_ | refine qH (by walk_at "hp") at0 ?_ | refine vh (by walk_at "hp") rfl ?_ | refine vH (by walk_at "hp") ?_ | refine qT (by walk_at "hp") ?_ | refine qS (by walk_at "hp") ?_ | refine zA (by walk_at "hp") ?_ | refine zC (by walk_at "hp") ?_ | refine v3 rfl ?_ | refine zy rfl ?_))
    have hi1:i < ys.length:=by omega
    have hi2:i < xs.length:=by omega
    have g1:xs[i]? = some xs[i]:=List.getElem?_eq_getElem hi2
    have g2:ys[i]? = some ys[i]:=List.getElem?_eq_getElem hi1
    have s13:=s2.trans s3
    rw [Int.zero_add]
    refine ⟨⟨by (repeat (first | exact ExtS.nl | refine ExtS.sm ?_ | refine ExtS.no ?_)),trivial⟩,ixA_at (tys _ s13).2.2.1 (xy g1) (ixA_at (tys _ s13).2.2.2 (xy g2) ?_)⟩
    refine ⟨_,_,rfl,(kk i _ _ g1 g2).same s13,fun H6 s6 => ?_⟩
    refine ⟨_,s6 _ _ e3, ?_,(s3.trans s6).upd hacc, ?_⟩
    ·rw [List.length_map,List.length_replicate]
     have:100000 < sizeLine:=by decide
     omega
    ·rw [upd_same]
     have:(V.bl true :: List.map V.bl (List.replicate i true)) = List.map V.bl (List.replicate i true) ++ [V.bl true]:=by
      rw [List.map_replicate, ← List.replicate_succ,List.replicate_succ']
     rw [this]
   ·rintro H3 ⟨s3,e3⟩
    refine ⟨acc,List.replicate (Int.toNat ys.length) true,rfl,e3, ?_⟩
    have:(List.replicate (Int.toNat ys.length) true).all id = true:=by simp
    rw [this]
    exact k H3 (s2.trans s3)
theorem JS {f:Addr} {fd:FuncData} (F:Fun K "_law_alike" "_law_alike" je f fd):FnOk P w K mg base CX0 1 f fd ["found", "due"] (Qg 0):=by
 refine F.okQ Jc (fun vs H Q E h => ?_) (fun cdv A outer s H vs Q E hr h => ?_)
 ·obtain ⟨_,_,_,h,_⟩:=h
  exact h.elim
 ·obtain ⟨_,_,_,h,_⟩:=h
  exact h.elim
theorem JR {f:Addr} {fd:FuncData} (F:Fun K "_law_alike" "_law_alike" je f fd) (N:Nms mg) (hm:mg "_law_alike" = some (.ref f)) (hk:PySem.W.keepIn K (.ref f) = true) (hb:Binds K fd ["found", "due"] []):FnOk P w K mg base CX0 4 f fd ["found", "due"] (Qg 3) :=
 Qo F N ⟨f,fd,hm,hk,hb,Qo F N ⟨f,fd,hm,hk,hb,Qo F N ⟨f,fd,hm,hk,hb,JS F⟩⟩⟩
def depT:Nat→T→Prop
 | 0,_ => False
 | n + 1, .tup xs => xs.length≤100000∧∀ x ∈ xs,depT n x
 | n + 1, .lst xs => xs.length≤100000∧∀ x ∈ xs,depT n x
 | _ + 1,_ => True
def Vg (n:Nat):List T→(T→Prop)→Prop:=fun ts Q => ∃ t,ts = [t,t]∧depT n t∧Q (.bl true)
theorem al_of {A:Addr→Prop} {H:Hp}:∀ {n:Nat} {t:T} {x y:V},depT n t→RepT A H x t→RepT A H y t→AL H n x y
 | 0,_,_,_,h,_,_ => h.elim
 | n + 1, .non,_,_,_, .non, .non => .inl ⟨rfl,rfl⟩
 | n + 1, .bl b,_,_,_, .bl _, .bl _ => .inl ⟨rfl,rfl⟩
 | n + 1, .int b,_,_,_, .int _, .int _ => .inl ⟨rfl,rfl⟩
 | n + 1, .str b,_,_,_, .str _, .str _ => .inl ⟨rfl,rfl⟩
 | n + 1, .tup xs,x,y,h,r1,r2 => by
  obtain ⟨p,vs,rfl,_,h1,q1⟩:=r1.tup_inv
  obtain ⟨p2,vs2,rfl,_,h2,q2⟩:=r2.tup_inv
  refine .inr ⟨p,p2,vs,vs2,rfl,rfl, .inr ⟨h1,h2⟩,by rw [q1.len,q2.len],by rw [q1.len]; exact h.1,fun j a b ha hb => ?_⟩
  obtain ⟨t,ht,rt⟩:=Paired.getL q1 ha
  obtain ⟨t',ht',rt'⟩:=Paired.getL q2 hb
  rw [ht] at ht'; cases ht'
  exact al_of (h.2 t (List.mem_of_getElem? ht)) rt rt'
 | n + 1, .lst xs,x,y,h,r1,r2 => by
  obtain ⟨p,vs,rfl,_,h1,q1⟩:=r1.lst_inv
  obtain ⟨p2,vs2,rfl,_,h2,q2⟩:=r2.lst_inv
  refine .inr ⟨p,p2,vs,vs2,rfl,rfl, .inl ⟨h1,h2⟩,by rw [q1.len,q2.len],by rw [q1.len]; exact h.1,fun j a b ha hb => ?_⟩
  obtain ⟨t,ht,rt⟩:=Paired.getL q1 ha
  obtain ⟨t',ht',rt'⟩:=Paired.getL q2 hb
  rw [ht] at ht'; cases ht'
  exact al_of (h.2 t (List.mem_of_getElem? ht)) rt rt'
theorem Xv {f:Addr} {fd:FuncData} (F:Fun K "_law_alike" "_law_alike" je f fd) (N:Nms mg) (hm:mg "_law_alike" = some (.ref f)) (hk:PySem.W.keepIn K (.ref f) = true) (hb:Binds K fd ["found", "due"] []):FnOk P w K mg base CX0 4 f fd ["found", "due"] (spP (Vg 3)):=by
 refine (JR F N hm hk hb).imp fun vs H Q E h => ?_
 obtain ⟨A,ts,Qt,hd,r,⟨t,rfl,hdep,q⟩,k⟩:=h
 cases r with
 | cons r1 r =>
 cases r with
 | cons r2 r =>
 cases r
 exact ⟨_,_,rfl,al_of hdep r1 r2,fun H' s => k _ _ H' s (.bl true) q⟩
--@XI
abbrev jz:Stmt:=qi (top 2) 0
theorem scWkInit:FnScope ["self", "part"] ["self", "part"] (qc jz):=⟨rfl,rfl,rfl,by decide +kernel,rfl,by decide +kernel,by decide +kernel⟩
theorem ok_winit {C B f:Addr} {fd:FuncData} (F:Fun K "__init__" "WrongKind.__init__" jz f fd) (ck:ExcK K C f) (na:NoAttr K C "part") (ib:InitB K mg "WordError" B):FnOk P w K mg base CX0 1 f fd ["self", "part"] (spI C):=by
 refine F.okQ scWkInit (fun vs H Q E h => ?_) (fun cdv A outer s H vs Q E hr h => ?_)
 ·obtain ⟨_,_,rfl,_⟩:=h
  rfl
 refine ⟨_,(qh (qs_initB ck ib (qa_c (qv 0) (qa_c (qe_fs3 (by decide) (by decide) (qv 1)) qd)))
  (qk (qs_setX ck na (qv 0) (qv 1)))), ?_⟩
 obtain ⟨a,n,rfl,hn,ha,q⟩:=h
 refine ⟨.ref a,rfl, .int n,rfl,n,rfl,hn.1,hn.2,a,none,_,rfl,ha,by show 1≤1000; decide, ?_⟩
 refine ⟨.int n,rfl, .ref a,rfl,a,rfl,ha,fun d hd => q d hd⟩
--@PK
abbrev jM:Stmt:=top 15
theorem scKindOf:FnScope ["worth"] ["worth"] (qc jM):=⟨rfl,rfl,rfl,by decide +kernel,rfl,by decide +kernel,by decide +kernel⟩
def kindU:U→Str
 | .p (.int _) => "number"
 | .p (.tup _) => "sign"
 | .p (.str _) => "one"
 | _ => "pair"
def okU (C:Addr) (M:MM):U→Prop
 | .p (.int _) => True
 | .p (.tup _) => True
 | .p (.str _) => True
 | .m k => ku C M k
 | _ => False
def ZQ (C:Addr):List U→MM→UK→Prop:=fun us M Q => ∃ u,us = [u]∧okU C M u∧Q (.p (.str (kindU u))) M
theorem VT {C:Addr} {M:MM} {k:Nat} {c:TyC} (h:ku C M k):isV C M (.m k) c = some false:=by
 obtain ⟨fs,e⟩:=h
 simp only [isV,e,if_true]
theorem ok_kindP {CQ f:Addr} {fd:FuncData} (F:Fun K "kind_of" "kind_of" jM f fd) (N:Nms mg) (TyPair:InsTy K CQ):FnOk P w K mg base CX0 1 f fd ["worth"] (spU (ZQ CQ)):=by
 refine F.zU scKindOf (fun us M Qu h => ?_) (fun cdv A outer s H E hr => ?_)
 ·obtain ⟨_,rfl,_⟩:=h
  rfl
 refine ⟨_,(qh (vz (zQ (qL (kD K rfl) (by rfl) N.isinstance qA (qa_c (qv 0) (qa_c (vM (v:=.ty "int") (by rfl) N.int XJ rfl) qd))))
   (qk (qF ql))
   qG)
  (qh (vz (zQ (qL (kD K rfl) (by rfl) N.isinstance qA (qa_c (qv 0) (qa_c (vM (v:=.ty "tuple") (by rfl) N.tuple Zd rfl) qd))))
   (qk (qF ql))
   qG)
  (qh (vz (zQ (qL (kD K rfl) (by rfl) N.isinstance qA (qa_c (qv 0) (qa_c (vM (v:=.ty "str") (by rfl) N.str b_str rfl) qd))))
   (qk (qF ql))
   qG)
  (qk (qF ql))))),_,(qo (vi (ct_b (KB TyPair .int (qb 0)))
   (qM (ce_c (.str _)))
   qB)
   (qo (vi (ct_b (KB TyPair .tuple (qb 0)))
   (qM (ce_c (.str _)))
   qB)
   (qo (vi (ct_b (KB TyPair .str (qb 0)))
   (qM (ce_c (.str _)))
   qB)
   (qM (ce_c (.str _)))))),fun us M Qu h => ?_⟩
 obtain ⟨u,rfl,ok,q⟩:=h
 cases u with
 | p t =>
  cases t with
  | int i => walk_at "v"; rw [jf]; walk_at "v"; refine ⟨true,rfl, ?_⟩; walk_at "v"; exact q
  | tup xs => walk_at "v"; rw [jf]; walk_at "v"; refine ⟨false,rfl, ?_⟩; walk_at "v"; rw [jf]; walk_at "v"; refine ⟨true,rfl, ?_⟩; walk_at "v"; exact q
  | str x => walk_at "v"; rw [jf]; walk_at "v"; refine ⟨false,rfl, ?_⟩; walk_at "v"; rw [jf]; walk_at "v"; refine ⟨false,rfl, ?_⟩; walk_at "v"; rw [jf]; walk_at "v"; refine ⟨true,rfl, ?_⟩; walk_at "v"; exact q
  | _ => exact ok.elim
 | x a d q => exact ok.elim
 | m k => walk_at "v"; rw [jf]; walk_at "v"; refine ⟨false,VT ok, ?_⟩; walk_at "v"; rw [jf]; walk_at "v"; refine ⟨false,VT ok, ?_⟩; walk_at "v"; rw [jf]; walk_at "v"; refine ⟨false,VT ok, ?_⟩; walk_at "v"; exact q
inductive Wt where
 | num (n:Int) | one (t:Str) | sgn (k:Int) | pr (i:Nat)
 deriving DecidableEq
abbrev Nm:=Nat→Nat
abbrev WW:=List (Wt × Wt)
def uS (s:Nm):Wt→U
 | .num n => .p (.int n)
 | .one t => .p (.str t)
 | .sgn k => .p (.tup [.str "sign", .int k])
 | .pr i => .m (s (i + 2))
def tO:Wt→T
 | .num n => .int n
 | .one t => .str t
 | .sgn k => .tup [.str "sign", .int k]
 | .pr i => .tup [.str "pair", .int (i:Int)]
def tT:Wt→T
 | .num n => .int n
 | .one t => .str t
 | .sgn k => .tup [.str "sign", .int k]
 | .pr _ => .str "pair"
def vP:Wt→Str
 | .num _ => "number"
 | .one _ => "one"
 | .sgn _ => "sign"
 | .pr _ => "pair"
def okW (n:Nat):Wt→Prop
 | .pr i => i < n
 | _ => True
theorem okW.mono {n m:Nat} {x:Wt} (h:okW n x) (hm:n≤m):okW m x:=by cases x <;> first | exact h | exact Nat.lt_of_lt_of_le h hm
def hl (s:Nm) (ws:List Wt):MO:=.lst (ws.map (uS s))
def po (D:Addr) (s:Nm) (x:Wt × Wt):MO:=.ins D [("left", uS s x.1),("right", uS s x.2)]
structure TxP (K:PySem.W.Frag) (C:Addr):Prop where
 c:Cls K C
 na:NoAttr K C "held"
structure TxQ (K:PySem.W.Frag) (D:Addr):Prop where
 c:Cls K D
 nl:NoAttr K D "left"
 nr:NoAttr K D "right"
structure Sto (C D:Addr) (M:MM) (s:Nm) (ws:List Wt) (ps:WW):Prop where
 s0:M[s 0]? = some (.ins C [("held", .m (s 1))])
 h:M[s 1]? = some (hl s ws)
 p:∀ (i:Nat) x,ps[i]? = some x→M[s (i + 2)]? = some (po D s x)
 n:ws.length = 8
 inj:∀ i j,i < ps.length + 2→j < ps.length + 2→s i = s j→i = j
 ww:∀ x ∈ ws,okW ps.length x
 wp:∀ x ∈ ps,okW ps.length x.1∧okW ps.length x.2
structure Go (M M':MM) (s s':Nm) (n n':Nat):Prop where
 len:M.length≤M'.length
 fr:∀ k,k < M.length→(∀ i,i < n→k≠s i)→M'[k]? = M[k]?
 nw:∀ i,i < n'→(∃ j,j < n∧s' i = s j)∨M.length≤s' i
 z:s' 0 = s 0
section
variable {C D:Addr} {M:MM} {s:Nm} {ws:List Wt} {ps:WW} {x y:Wt} {r q p i n:Nat} {Q:UK}
theorem Go.refl:Go M M s s n n:=⟨Nat.le_refl _,fun _ _ _ => rfl,fun i hi => .inl ⟨i,hi,rfl⟩,rfl⟩
theorem Go.set {o:MO} (hi:i < n):Go M (M.set (s i) o) s s n n:=⟨by rw [List.length_set]; exact Nat.le_refl _,fun k _ h => List.getElem?_set_ne (Ne.symm (h i hi)),fun i hi => .inl ⟨i,hi,rfl⟩,rfl⟩
theorem zY {α:Type} {l:List α} {r:Nat} {x:α} {R:α→Prop} (h:∀ y ∈ l,R y) (hx:R x):∀ y ∈ l.set r x,R y:=fun y hy => (List.mem_or_eq_of_mem_set hy).elim (h y) fun e => e ▸ hx
theorem Sto.wq (S:Sto C D M s ws ps) (h:ws[q]? = some x):okW ps.length x:=S.ww x (List.mem_of_getElem? h)
theorem Sto.wi (S:Sto C D M s ws ps) {x:Wt × Wt} (h:ps[i]? = some x):okW ps.length x.1∧okW ps.length x.2:=S.wp x (List.mem_of_getElem? h)
theorem Sto.pi (S:Sto C D M s ws ps) (h:ws[q]? = some (.pr i)):∃ x,ps[i]? = some x:=⟨_,List.getElem?_eq_getElem (S.wq h)⟩
theorem Sto.ok (S:Sto C D M s ws ps) (h:okW ps.length x):okU D M (uS s x):=by
 cases x with
 | pr i => exact ⟨_,S.p i _ (List.getElem?_eq_getElem h)⟩
 | _ => trivial
theorem J3:kindU (uS s x) = vP x:=by cases x <;> rfl
theorem Sto.put (S:Sto C D M s ws ps) (hx:okW ps.length x):Sto C D (M.set (s 1) (hl s (ws.set r x))) s (ws.set r x) ps :=
 ⟨by rw [List.getElem?_set_ne fun z => by have:=S.inj 1 0 (by omega) (by omega) z; omega]; exact S.s0,
   List.getElem?_set_self (List.getElem?_eq_some_iff.mp S.h).1,
   fun i x hi => by
  have:=(List.getElem?_eq_some_iff.mp hi).1
  rw [List.getElem?_set_ne fun z => by have:=S.inj 1 (i + 2) (by omega) (by omega) z; omega]; exact S.p i x hi,
   by rw [List.length_set]; exact S.n,S.inj,zY S.ww hx,S.wp⟩
theorem Sto.setp (S:Sto C D M s ws ps) {x:Wt × Wt} (hi:i < ps.length) (hx:okW ps.length x.1∧okW ps.length x.2):Sto C D (M.set (s (i + 2)) (po D s x)) s ws (ps.set i x):=by
 have hm:=(List.getElem?_eq_some_iff.mp (S.p i _ (List.getElem?_eq_getElem hi))).1
 refine ⟨?_, ?_,fun j y hj => ?_,S.n,by rw [List.length_set]; exact S.inj,by rw [List.length_set]; exact S.ww,by rw [List.length_set]; exact zY S.wp hx⟩
 ·rw [List.getElem?_set_ne fun z => by have:=S.inj (i + 2) 0 (by omega) (by omega) z; omega]; exact S.s0
 ·rw [List.getElem?_set_ne fun z => by have:=S.inj (i + 2) 1 (by omega) (by omega) z; omega]; exact S.h
 ·have hj2:=(List.getElem?_eq_some_iff.mp hj).1
  rw [List.length_set] at hj2
  by_cases e:i = j
  ·subst e
   rw [List.getElem?_set_self hj2] at hj
   cases hj
   exact List.getElem?_set_self hm
  ·rw [List.getElem?_set_ne e] at hj
   rw [List.getElem?_set_ne fun z => by have:=S.inj (i + 2) (j + 2) (by omega) (by omega) z; omega]
   exact S.p j y hj
def zH (s:Nm) (n k:Nat):Nm:=fun i => if i = n then k else s i
theorem xR {k:Nat}:zH s n k n = k:=if_pos rfl
theorem zl {k:Nat} (h:i≠n):zH s n k i = s i:=if_neg h
theorem QP {k:Nat} (h:okW n x):uS (zH s (n + 2) k) x = uS s x:=by
 cases x with
 | pr i =>
  have h:i < n:=h
  show U.m _ = U.m _
  rw [zl (by omega)]
 | _ => rfl
theorem uSl_new {k:Nat} (h:∀ x ∈ ws,okW n x):ws.map (uS (zH s (n + 2) k)) = ws.map (uS s):=List.map_congr_left fun x hx => QP (h x hx)
theorem Sto.lt (S:Sto C D M s ws ps) (hi:i < ps.length + 2):s i < M.length:=by
 match i,hi with
 | 0,_ => exact (List.getElem?_eq_some_iff.mp S.s0).1
 | 1,_ => exact (List.getElem?_eq_some_iff.mp S.h).1
 | i + 2,hi => exact (List.getElem?_eq_some_iff.mp (S.p i _ (List.getElem?_eq_getElem (show i < ps.length by omega)))).1
theorem xn {k:Nat} {o:MO} (h:k < M.length):(M ++ [o])[k]? = M[k]?:=List.getElem?_append_left h
theorem Sto.new (S:Sto C D M s ws ps) {x:Wt × Wt} (hx:okW ps.length x.1∧okW ps.length x.2) :
  Sto C D ((M ++ [po D s x]).set (s 1) (.lst ((ws.map (uS s)).set r (.m M.length)))) (zH s (ps.length + 2) M.length) (ws.set r (.pr ps.length)) (ps ++ [x]) ∧
  Go M ((M ++ [po D s x]).set (s 1) (.lst ((ws.map (uS s)).set r (.m M.length)))) s (zH s (ps.length + 2) M.length) (ps.length + 2) ((ps ++ [x]).length + 2):=by
 have h0:=S.lt (i:=0) (by omega)
 have h1:=S.lt (i:=1) (by omega)
 have e0:zH s (ps.length + 2) M.length 0 = s 0:=zl (by omega)
 have e1:zH s (ps.length + 2) M.length 1 = s 1:=zl (by omega)
 have el:(ps ++ [x]).length = ps.length + 1:=by rw [List.length_append]; rfl
 refine ⟨⟨?_, ?_,fun j y hj => ?_,by rw [List.length_set]; exact S.n,fun i j hi hj z => ?_, ?_, ?_⟩,⟨?_,fun k hk h => ?_,fun i hi => ?_,e0⟩⟩
 ·rw [e0,e1,List.getElem?_set_ne fun z => by have:=S.inj 1 0 (by omega) (by omega) z; omega,xn h0]; exact S.s0
 ·rw [e1,List.getElem?_set_self (by rw [List.length_append]; omega)]
  show _ = some (MO.lst _)
  rw [List.map_set,uSl_new S.ww]
  show _ = some (MO.lst ((ws.map (uS s)).set r (U.m (zH s (ps.length + 2) M.length (ps.length + 2)))))
  rw [xR]
 ·by_cases hj2:j < ps.length
  ·rw [List.getElem?_append_left hj2] at hj
   rw [zl (by omega),List.getElem?_set_ne fun z => by have:=S.inj 1 (j + 2) (by omega) (by omega) z; omega,xn (S.lt (by omega)),S.p j y hj]
   have:=S.wi hj
   unfold po
   rw [QP this.1,QP this.2]
  ·have hj3:=(List.getElem?_eq_some_iff.mp hj).1
   have:j = ps.length:=by omega
   subst this
   rw [vF] at hj
   cases hj
   rw [xR,List.getElem?_set_ne (by omega),vF]
   unfold po
   rw [QP hx.1,QP hx.2]
 ·rw [el] at hi hj
  by_cases a:i = ps.length + 2 <;> by_cases b:j = ps.length + 2
  ·omega
  ·subst a
   rw [xR,zl b] at z
   have:=S.lt (i:=j) (by omega)
   omega
  ·subst b
   rw [xR,zl a] at z
   have:=S.lt (i:=i) (by omega)
   omega
  ·rw [zl a,zl b] at z
   exact S.inj i j (by omega) (by omega) z
 ·rw [el]
  exact zY (fun y hy => (S.ww y hy).mono (by omega)) (show ps.length < ps.length + 1 by omega)
 ·rw [el]
  intro y hy
  rcases List.mem_append.mp hy with hy | hy
  ·have:=S.wp y hy
   exact ⟨this.1.mono (by omega),this.2.mono (by omega)⟩
  ·cases List.mem_singleton.mp hy
   exact ⟨hx.1.mono (by omega),hx.2.mono (by omega)⟩
 ·rw [List.length_set,List.length_append]; omega
 ·rw [List.getElem?_set_ne (Ne.symm (h 1 (by omega))),xn hk]
 ·rw [el] at hi
  by_cases a:i = ps.length + 2
  ·subst a
   exact .inr (by rw [xR]; exact Nat.le_refl _)
  ·exact .inl ⟨i,by omega,zl a⟩
theorem qV (TP:TxP K C) (S:Sto C D M s ws ps) (q:Q (.m (s 1)) M):FldS K "held" (.m (s 0)) M Q:=QD TP.c TP.na S.s0 (by simp [List.lookup]) q
theorem hl_items {k:Nat} (h:M[k]? = some (hl s ws)):vf M (.m k) = some (ws.map (uS s)):=by simp [vf,h,hl]
theorem vX {k:Nat} (h:M[k]? = some (hl s ws)) (hq:ws[q]? = some x) (qq:Q (uS s x) M):IxS vf M (.m k) (.p (.int (q:Int))) Q :=
 j3 (hl_items h) (xy (by rw [List.getElem?_map,hq]; rfl)) qq
theorem Q1 {k r:Nat} {us:List U} {u:U} {R:MM→Prop} (h:M[k]? = some (.lst us)) (hr:r < us.length) (q:R (M.set k (.lst (us.set r u)))):SubS M (.m k) (.p (.int (r:Int))) u R:=by
 refine ⟨k,us,r,r,rfl,h,rfl, ?_,q⟩
 unfold ixN
 simp [hr]
theorem zO {k:Nat} {R:MM→Prop} (h:M[k]? = some (hl s ws)) (hr:r < ws.length) (q:R (M.set k (hl s (ws.set r x)))):SubS M (.m k) (.p (.int (r:Int))) (uS s x) R:=by
 refine Q1 h (by rw [List.length_map]; exact hr) ?_
 rw [← List.map_set]
 exact q
theorem mS {m:Str} {R:Prop} (S:Sto C D M s ws ps) (hm:(m == ("held" : Str)) = false) (q:R):KN C m (.m (s 0)) M R:=meth_at S.s0 (by rw [List.lookup_cons,hm]; rfl) q
end
theorem zS {p:Prop} [Decidable p] {a b:Prop} (h:¬ p) (q:b):if p then a else b:=by rw [if_neg h]; exact q
theorem vQ {p:Prop} [Decidable p] {a b:Prop} (h:p) (q:a):if p then a else b:=by rw [if_pos h]; exact q
theorem eqW_at {a b:Wt} {Q:T→Prop} (q:Q (.bl (decide (a = b)))):sEqW (tO a) (tO b) Q:=by
 have two:∀ {x y:Str} {k l:Int} {Q:T→Prop},Q (.bl (decide (x = y∧k = l)))→sEqW (.tup [.str x, .int k]) (.tup [.str y, .int l]) Q:=fun {x y k l Q} q => by
  refine .inr (.inl ⟨_,_,fun j => if j = 0 then decide (x = y) else decide (k = l),rfl,rfl,fun j u v hx hy => ?_, ?_⟩)
  ·match j with
   | 0 =>
    simp at hx hy
    subst hx hy
    have:=EqT.flat (n:=20) (a:=.str x) (b:=.str y) rfl rfl
    have e:eqV (.str x) (.str y) = decide (x = y):=by
     by_cases h:x = y
     ·subst h; simp [eqV]
     ·simp [eqV,h]
    rw [e] at this
    simpa using this
   | 1 =>
    simp at hx hy
    subst hx hy
    have:=EqT.flat (n:=20) (a:=.int k) (b:=.int l) rfl rfl
    have e:eqV (.int k) (.int l) = decide (k = l):=by
     by_cases h:k = l
     ·subst h; simp [eqV]
     ·simp [eqV,h]
    rw [e] at this
    simpa using this
   | j + 2 => simp at hx
  ·have e:((List.range (min [T.str x,T.int k].length [T.str y,T.int l].length)).all (fun j => if j = 0 then decide (x = y) else decide (k = l)) && [T.str x,T.int k].length == [T.str y,T.int l].length) = decide (x = y∧k = l):=by
    by_cases h:x = y <;> by_cases h2:k = l <;> simp [h,h2,List.range_succ]
   simp only [Bool.false_eq_true,if_false]
   rw [e]
   exact q
 cases a with
 | num n => cases b <;> first | exact .inl ⟨_,_,rfl,rfl,rfl,by simpa using q⟩ | exact .inr (.inr (.inl ⟨_,rfl,rfl,by simpa using q⟩))
 | one s => cases b <;> first | exact .inl ⟨_,_,rfl,rfl,rfl,by simpa using q⟩ | exact .inr (.inr (.inl ⟨_,rfl,rfl,by simpa using q⟩))
 | sgn k =>
  cases b with
  | num m => exact .inr (.inr (.inr ⟨_,rfl,rfl,by simpa using q⟩))
  | one t => exact .inr (.inr (.inr ⟨_,rfl,rfl,by simpa using q⟩))
  | sgn l => exact two (by simpa using q)
  | pr l => exact two (by rw [decide_eq_false (fun z => absurd z.1 (by decide))]; simpa using q)
 | pr k =>
  cases b with
  | num m => exact .inr (.inr (.inr ⟨_,rfl,rfl,by simpa using q⟩))
  | one t => exact .inr (.inr (.inr ⟨_,rfl,rfl,by simpa using q⟩))
  | sgn l => exact two (by rw [decide_eq_false (fun z => absurd z.1 (by decide))]; simpa using q)
  | pr l => exact two (by simpa [Int.ofNat_inj] using q)
theorem eqS_at {C D:Addr} {M:MM} {s:Nm} {ws:List Wt} {ps:WW} {a b:Wt} {Q:UK} (S:Sto C D M s ws ps) (ha:okW ps.length a) (hb:okW ps.length b) (q:Q (.p (.bl (decide (a = b)))) M):EqUS D M (uS s a) (uS s b) Q:=by
 have la:=S.ok ha
 have lb:=S.ok hb
 have hpp:=eqW_at (a:=a) (b:=b) (Q:=fun t => Q (.p t) M) q
 cases a with
 | pr i =>
  cases b with
  | pr j =>
   refine eqU_mm la lb ?_
   have e:(s (i + 2) == s (j + 2)) = decide (Wt.pr i = Wt.pr j):=by
    by_cases h:i = j
    ·subst h; simp
    ·have ha:i < ps.length:=ha
     have hb:j < ps.length:=hb
     rw [beq_eq_false_iff_ne.mpr fun z => h (by have:=S.inj _ _ (by omega) (by omega) z; omega)]
     simp [h]
   rw [e]; exact q
  | _ => exact eqU_mp la rfl (by simpa using q)
 | _ =>
  cases b with
  | pr j => exact eqU_pm lb rfl (by simpa using q)
  | _ => exact eqU_pp hpp
local macro_rules | `(tactic| walk_at "vx") => `(tactic| simp only [QU,XS,XR,QQ,kf,uTry,QV,QR,XX,XZ,endX,Zn])
local macro_rules | `(tactic| walk_at "pk") => `(tactic| (walk_at "v"; repeat ((first | walk_at "vx" | refine zS (by decide) ?_ | refine vQ rfl ?_); walk_at "v")))
abbrev MD (P:Program) (w:World) (K:PySem.W.Frag) (mg:Str→Option Value) (base:Heap) (CP:Addr) (m:Str) (k:Nat) (ps:List Str) (G:List U→MM→UK→Prop):Prop:=MDef P w K mg base CP m k ("self" :: ps) (spU G)
abbrev MX (P:Program) (w:World) (K:PySem.W.Frag) (mg:Str→Option Value) (base:Heap) (CP:Addr) (m:Str) (k:Nat) (ps:List Str) (G:List U→MM→UK→UX→Prop):Prop:=MDefX P w K mg base CP m k ("self" :: ps) (spX mg G)
theorem Zs {X:Cx}:OpR X (binaryOp .FloorDiv) (rI (fun i j => j≠0∧Builtin.divisionGoesByPylong i j = false) fun i j => .int (i.fdiv j)):=opI fun _ _ _ _ _ _ _ hc q => floordiv_int hc.1 q (.inl hc.2)
theorem Jx {X:Cx}:OpR X (binaryOp .Mult) (rI IntMulOk fun i j => .int (i * j)):=opI fun _ _ _ _ _ _ _ hc q => mul_int q hc
abbrev jJ:Stmt:=qi (top 16) 0
theorem scPsInit:FnScope ["self"] ["self"] (qc jJ):=⟨rfl,rfl,rfl,by decide +kernel,rfl,by decide +kernel,by decide +kernel⟩
def Ke (C:Addr):List U→MM→UK→Prop:=fun us M Q => ∃ (ks:Nat),us = [.m ks]∧M[ks]? = some (.ins C [])∧Q (.p .non) ((M ++ [hl id (List.replicate 8 (.one "none"))]).set ks (.ins C [("held", .m M.length)]))
theorem JM {C:Addr} {f:Addr} {fd:FuncData} (F:Fun K "__init__" "PlainStore.__init__" jJ f fd) (TP:TxP K C) (GReg:GInt mg "REGISTERS" 8):FnOk P w K mg base CX0 1 f fd ["self"] (spU (Ke C)):=by
 refine F.zU scPsInit (fun us M Qu h => ?_) (fun cdv A outer s H E hr => ?_)
 ·obtain ⟨_,rfl,_⟩:=h
  rfl
 refine ⟨_,(qk (Q5 (qv 0) (vp op_rep (vG (qa_c ql qd)) (qe_gint GReg rfl)) rfl)),_,(Vo (qb 0) (Vq (v9 (qa (ce_c (.str _)) qf)) (ce_c (.int _)))),fun us M Qu h => ?_⟩
 obtain ⟨ks,rfl,em,q⟩:=h
 walk_at "v"
 refine VE (by decide) (by decide) (by decide) ?_
 refine xw TP.c TP.na (fs:=[]) ?_ (by decide) q
 rw [List.getElem?_append_left (List.getElem?_eq_some_iff.mp em).1]
 exact em
abbrev xg:Stmt:=qi (top 14) 0
theorem Xh:FnScope ["self", "left", "right"] ["self", "left", "right"] (qc xg):=⟨rfl,rfl,rfl,by decide +kernel,rfl,by decide +kernel,by decide +kernel⟩
def Kd (D:Addr):List U→MM→UK→Prop:=fun us M Q => ∃ (k:Nat) (l r:U),us = [.m k,l,r]∧M[k]? = some (.ins D [])∧Q (.p .non) (M.set k (.ins D [("left", l),("right", r)]))
theorem JC {D:Addr} {f:Addr} {fd:FuncData} (F:Fun K "__init__" "Pair.__init__" xg f fd) (TQ:TxQ K D):FnOk P w K mg base CX0 1 f fd ["self", "left", "right"] (spU (Kd D)):=by
 refine F.zU Xh (fun us M Qu h => ?_) (fun cdv A outer s H E hr => ?_)
 ·obtain ⟨_,_,_,rfl,_⟩:=h
  rfl
 refine ⟨_,(qh (Q5 (qv 0) (qv 1) rfl)
  (qk (Q5 (qv 0) (qv 2) rfl))),_,(qo (Vo (qb 0) (qb 1))
   (Vo (qb 0) (qb 2))),fun us M Qu h => ?_⟩
 obtain ⟨k,l,r,rfl,em,q⟩:=h
 walk_at "v"
 refine xw TQ.c TQ.nl em (by decide) ?_
 walk_at "v"
 refine xw TQ.c TQ.nr (List.getElem?_set_self (List.getElem?_eq_some_iff.mp em).1) (by show 1 < 1000; decide) ?_
 rw [List.set_set]
 exact q
def Ve (C D:Addr):List U→MM→UK→Prop:=fun us M Q => ∃ (s:Nm) (ws:List Wt) (ps:WW) (r:Nat) (x:Wt),us = [.m (s 0), .p (.int (r:Int)),uS s x]∧Sto C D M s ws ps∧r < 8∧Q (.p .non) (M.set (s 1) (hl s (ws.set r x)))
def ZK (C D:Addr):List U→MM→UK→Prop:=fun us M Q => ∃ (s:Nm) (ws:List Wt) (ps:WW) (r:Nat) (k:Int),us = [.m (s 0), .p (.int (r:Int)), .p (.int k)]∧Sto C D M s ws ps∧r < 8∧Q (.p .non) (M.set (s 1) (hl s (ws.set r (.sgn k))))
def ZN (C D:Addr):List U→MM→UK→Prop:=fun us M Q => ∃ (s:Nm) (ws:List Wt) (ps:WW) (r q:Nat) (x:Wt),us = [.m (s 0), .p (.int (r:Int)), .p (.int (q:Int))]∧Sto C D M s ws ps∧r < 8∧ws[q]? = some x∧Q (.p .non) (M.set (s 1) (hl s (ws.set r x)))
def ZM (C D:Addr):List U→MM→UK→Prop:=fun us M Q => ∃ (s:Nm) (ws:List Wt) (ps:WW) (r q p:Nat) (x y:Wt),us = [.m (s 0), .p (.int (r:Int)), .p (.int (q:Int)), .p (.int (p:Int))]∧Sto C D M s ws ps∧r < 8∧ws[q]? = some x∧ws[p]? = some y∧Q (.p .non) ((M ++ [po D s (x,y)]).set (s 1) (.lst ((ws.map (uS s)).set r (.m M.length))))
def ZL (C D:Addr):List U→MM→UK→Prop:=fun us M Q => ∃ (s:Nm) (ws:List Wt) (ps:WW) (q p:Nat) (x y:Wt),us = [.m (s 0), .p (.int (q:Int)), .p (.int (p:Int))]∧Sto C D M s ws ps∧ws[q]? = some x∧ws[p]? = some y∧Q (.p (.bl (decide (x = y)))) M
def kU (C D:Addr):List U→MM→UK→Prop:=fun us M Q => ∃ (s:Nm) (ws:List Wt) (ps:WW) (q:Nat) (x:Wt),us = [.m (s 0), .p (.int (q:Int))]∧Sto C D M s ws ps∧ws[q]? = some x∧Q (.p (.str (vP x))) M
def Vd (C D:Addr):List U→MM→UK→Prop:=fun us M Q => ∃ (s:Nm) (ws:List Wt) (ps:WW) (q:Nat) (x:Wt),us = [.m (s 0), .p (.int (q:Int))]∧Sto C D M s ws ps∧ws[q]? = some x∧Q (.p (tT x)) M
abbrev xf:Stmt:=qi (top 16) 2
theorem Xg:FnScope ["self", "r", "n"] ["self", "r", "n"] (qc xf):=⟨rfl,rfl,rfl,by decide +kernel,rfl,by decide +kernel,by decide +kernel⟩
theorem VN {C D:Addr} {f:Addr} {fd:FuncData} (F:Fun K "number" "PlainStore.number" xf f fd) (N:Nms mg) (TP:TxP K C):FnOk P w K mg base CX0 1 f fd ["self", "r", "n"] (spU (Ve C D)):=by
 refine F.zU Xg (fun us M Qu h => ?_) (fun cdv A outer s H E hr => ?_)
 ·obtain ⟨_,_,_,_,_,rfl,_⟩:=h
  rfl
 refine ⟨_,(qk (vO (qv 2) (vR (vj (qv 0) rfl) (qv 1) va))),_,(qQ (qb 2) (zp (vn (qb 0)) (qb 1))),fun us M Qu h => ?_⟩
 obtain ⟨s,ws,ps,r,x,rfl,S,hr8,q⟩:=h
 walk_at "v"
 refine qV TP S ?_
 walk_at "v"
 exact zO S.h (by rw [S.n]; exact hr8) q
abbrev kN:Stmt:=qi (top 16) 4
theorem scPsOne:FnScope ["self", "r", "text"] ["self", "r", "text"] (qc kN):=⟨rfl,rfl,rfl,by decide +kernel,rfl,by decide +kernel,by decide +kernel⟩
theorem ok_poneU {C D:Addr} {f:Addr} {fd:FuncData} (F:Fun K "one" "PlainStore.one" kN f fd) (N:Nms mg) (TP:TxP K C):FnOk P w K mg base CX0 1 f fd ["self", "r", "text"] (spU (Ve C D)):=by
 refine F.zU scPsOne (fun us M Qu h => ?_) (fun cdv A outer s H E hr => ?_)
 ·obtain ⟨_,_,_,_,_,rfl,_⟩:=h
  rfl
 refine ⟨_,(qk (vO (qv 2) (vR (vj (qv 0) rfl) (qv 1) va))),_,(qQ (qb 2) (zp (vn (qb 0)) (qb 1))),fun us M Qu h => ?_⟩
 obtain ⟨s,ws,ps,r,x,rfl,S,hr8,q⟩:=h
 walk_at "v"
 refine qV TP S ?_
 walk_at "v"
 exact zO S.h (by rw [S.n]; exact hr8) q
abbrev jB:Stmt:=qi (top 16) 3
theorem scPsSign:FnScope ["self", "r", "k"] ["self", "r", "k"] (qc jB):=⟨rfl,rfl,rfl,by decide +kernel,rfl,by decide +kernel,by decide +kernel⟩
theorem JE {C D:Addr} {f:Addr} {fd:FuncData} (F:Fun K "sign" "PlainStore.sign" jB f fd) (N:Nms mg) (TP:TxP K C):FnOk P w K mg base CX0 1 f fd ["self", "r", "k"] (spU (ZK C D)):=by
 refine F.zU scPsSign (fun us M Qu h => ?_) (fun cdv A outer s H E hr => ?_)
 ·obtain ⟨_,_,_,_,_,rfl,_⟩:=h
  rfl
 refine ⟨_,(qk (vO (vg (qa_c ql (qa_c (qv 2) qd))) (vR (vj (qv 0) rfl) (qv 1) va))),_,(qQ (vm (qa (ce_c (.str _)) (qa (qb 2) qf))) (zp (vn (qb 0)) (qb 1))),fun us M Qu h => ?_⟩
 obtain ⟨s,ws,ps,r,k,rfl,S,hr8,q⟩:=h
 walk_at "v"
 refine qV TP S ?_
 walk_at "v"
 exact zO (x:=.sgn k) S.h (by rw [S.n]; exact hr8) q
abbrev jK:Stmt:=qi (top 16) 5
theorem scPsCopy:FnScope ["self", "r", "q"] ["self", "r", "q"] (qc jK):=⟨rfl,rfl,rfl,by decide +kernel,rfl,by decide +kernel,by decide +kernel⟩
theorem JN {C D:Addr} {f:Addr} {fd:FuncData} (F:Fun K "copy" "PlainStore.copy" jK f fd) (N:Nms mg) (TP:TxP K C):FnOk P w K mg base CX0 1 f fd ["self", "r", "q"] (spU (ZN C D)):=by
 refine F.zU scPsCopy (fun us M Qu h => ?_) (fun cdv A outer s H E hr => ?_)
 ·obtain ⟨_,_,_,_,_,_,rfl,_⟩:=h
  rfl
 refine ⟨_,(qk (vO (qr (qm (K:=K) rfl) (vj (qv 0) rfl) (qv 2) (fun _ _ => rfl)) (vR (vj (qv 0) rfl) (qv 1) va))),_,(qQ (qK (vn (qb 0)) (qb 2)) (zp (vn (qb 0)) (qb 1))),fun us M Qu h => ?_⟩
 obtain ⟨s,ws,ps,r,q,x,rfl,S,hr8,hx,qq⟩:=h
 walk_at "v"
 refine qV TP S ?_
 walk_at "v"
 refine vX S.h hx ?_
 walk_at "v"
 refine qV TP S ?_
 walk_at "v"
 exact zO S.h (by rw [S.n]; exact hr8) qq
theorem j6 {α:Type} {l:List α} {x y:α}:(l ++ [x]).set l.length y = l ++ [y]:=by
 rw [List.set_append_right _ _ (Nat.le_refl _),Nat.sub_self]
 rfl
abbrev jF:Stmt:=qi (top 16) 11
theorem scPsPair:FnScope ["self", "r", "q", "p"] ["self", "r", "q", "p"] (qc jF):=⟨rfl,rfl,rfl,by decide +kernel,rfl,by decide +kernel,by decide +kernel⟩
theorem JI {C D:Addr} {f:Addr} {fd:FuncData} (F:Fun K "pair" "PlainStore.pair" jF f fd) (N:Nms mg) (TP:TxP K C) (KPair:MkDef P w K mg base D "Pair" 1 ["self", "left", "right"] (spU (Kd D))):FnOk P w K mg base CX0 3 f fd ["self", "r", "q", "p"] (spU (ZM C D)):=by
 refine F.zU scPsPair (fun us M Qu h => ?_) (fun cdv A outer s H E hr => ?_)
 ·obtain ⟨_,_,_,_,_,_,_,_,rfl,_⟩:=h
  rfl
 refine ⟨_,(qk (vO (qe_mk KPair (hr.mono (by first | decide | exact Nat.le_refl _)) rfl (qa_c (qr (qm (K:=K) rfl) (vj (qv 0) rfl) (qv 2) (fun _ _ => rfl)) (qa_c (qr (qm (K:=K) rfl) (vj (qv 0) rfl) (qv 3) (fun _ _ => rfl)) qd))) (vR (vj (qv 0) rfl) (qv 1) va))),_,(qQ (Ky (qa (qK (vn (qb 0)) (qb 2)) (qa (qK (vn (qb 0)) (qb 3)) qf))) (zp (vn (qb 0)) (qb 1))),fun us M Qu h => ?_⟩
 obtain ⟨s,ws,ps,r,q,p,x,y,rfl,S,hr8,hx,hy,qq⟩:=h
 have h0:=S.lt (i:=0) (by omega)
 have h1:=S.lt (i:=1) (by omega)
 walk_at "v"
 refine qV TP S ?_
 walk_at "v"
 refine vX S.h hx ?_
 refine qV TP S ?_
 walk_at "v"
 refine vX S.h hy ?_
 walk_at "v"
 refine ⟨M.length,_,_,rfl,vF,rfl, ?_⟩
 rw [j6]
 refine QD (u:=.m (s 1)) TP.c TP.na ((xn h0).trans S.s0) (by simp [List.lookup]) ?_
 walk_at "v"
 refine Q1 ((xn h1).trans S.h) (by rw [List.length_map,S.n]; exact hr8) ?_
 exact qq
abbrev jC:Stmt:=qi (top 16) 17
theorem scPsSame:FnScope ["self", "q", "p"] ["self", "q", "p"] (qc jC):=⟨rfl,rfl,rfl,by decide +kernel,rfl,by decide +kernel,by decide +kernel⟩
theorem JF {C D:Addr} {f:Addr} {fd:FuncData} (F:Fun K "same" "PlainStore.same" jC f fd) (N:Nms mg) (TP:TxP K C) (CmpPair:XG K D = true):FnOk P w K mg base CX0 1 f fd ["self", "q", "p"] (spU (ZL C D)):=by
 refine F.zU scPsSame (fun us M Qu h => ?_) (fun cdv A outer s H E hr => ?_)
 ·obtain ⟨_,_,_,_,_,_,_,rfl,_⟩:=h
  rfl
 refine ⟨_,(qk (qF (zx (op_eqU (K:=K) rfl CmpPair hr.units) (qr (qm (K:=K) rfl) (vj (qv 0) rfl) (qv 1) (fun _ _ => rfl)) (qr (qm (K:=K) rfl) (vj (qv 0) rfl) (qv 2) (fun _ _ => rfl)) (qC _)))),_,(qM (ce_eqU (qK (vn (qb 0)) (qb 1)) (qK (vn (qb 0)) (qb 2)))),fun us M Qu h => ?_⟩
 obtain ⟨s,ws,ps,q,p,x,y,rfl,S,hx,hy,qq⟩:=h
 walk_at "pk"
 refine qV TP S ?_
 walk_at "pk"
 refine vX S.h hx ?_
 walk_at "pk"
 refine qV TP S ?_
 walk_at "pk"
 refine vX S.h hy ?_
 walk_at "pk"
 refine eqS_at S (S.wq hx) (S.wq hy) ?_
 walk_at "pk"
 exact qq
abbrev jI:Stmt:=qi (top 16) 18
theorem scPsKind:FnScope ["self", "q"] ["self", "q"] (qc jI):=⟨rfl,rfl,rfl,by decide +kernel,rfl,by decide +kernel,by decide +kernel⟩
theorem JL {C D:Addr} {f:Addr} {fd:FuncData} (F:Fun K "kind" "PlainStore.kind" jI f fd) (N:Nms mg) (TP:TxP K C) (DKindOf:Def P w K mg base "kind_of" 1 ["worth"] (spU (ZQ D))):FnOk P w K mg base CX0 2 f fd ["self", "q"] (spU (kU C D)):=by
 refine F.zU scPsKind (fun us M Qu h => ?_) (fun cdv A outer s H E hr => ?_)
 ·obtain ⟨_,_,_,_,_,rfl,_⟩:=h
  rfl
 refine ⟨_,(qk (qF (qU DKindOf (hr.mono (by first | decide | exact Nat.le_refl _)) (qa_c (qr (qm (K:=K) rfl) (vj (qv 0) rfl) (qv 1) (fun _ _ => rfl)) qd)))),_,(qM (qJ (qa (qK (vn (qb 0)) (qb 1)) qf))),fun us M Qu h => ?_⟩
 obtain ⟨s,ws,ps,q,x,rfl,S,hx,qq⟩:=h
 walk_at "v"
 refine qV TP S ?_
 walk_at "v"
 refine vX S.h hx ?_
 walk_at "v"
 refine ⟨_,rfl,S.ok (S.wq hx), ?_⟩
 rw [J3]
 walk_at "v"
 exact qq
abbrev jA:Stmt:=qi (top 16) 19
theorem scPsTold:FnScope ["self", "q", "worth"] ["self", "q"] (qc jA):=⟨rfl,rfl,rfl,by decide +kernel,rfl,by decide +kernel,by decide +kernel⟩
theorem JD {C D:Addr} {f:Addr} {fd:FuncData} (F:Fun K "told" "PlainStore.told" jA f fd) (N:Nms mg) (TP:TxP K C) (DKindOf:Def P w K mg base "kind_of" 1 ["worth"] (spU (ZQ D))):FnOk P w K mg base CX0 2 f fd ["self", "q"] (spU (Vd C D)):=by
 refine F.zU scPsTold (fun us M Qu h => ?_) (fun cdv A outer s H E hr => ?_)
 ·obtain ⟨_,_,_,_,_,rfl,_⟩:=h
  rfl
 refine ⟨_,(qh (vq (i:=2) scPsTold.nd rfl (Or.inl rfl) (qr (qm (K:=K) rfl) (vj (qv 0) rfl) (qv 1) (fun _ _ => rfl)))
  (qk (qF (xl (qu op_eq (qU DKindOf (hr.mono (by first | decide | exact Nat.le_refl _)) (qa_c (qv 2) qd)) ql (qC _)) ql (qv 2))))),_,(qo (qQ (qK (vn (qb 0)) (qb 1)) (qX 2))
   (qM (Zb (qw (qE ve (qJ (qa (qb 2) qf)) (ce_c (.str _)))) (ce_c (.str _)) (qb 2)))),fun us M Qu h => ?_⟩
 obtain ⟨s,ws,ps,q,x,rfl,S,hx,qq⟩:=h
 walk_at "v"
 refine qV TP S ?_
 walk_at "v"
 refine vX S.h hx ?_
 walk_at "v"
 refine ⟨_,rfl,S.ok (S.wq hx), ?_⟩
 rw [J3]
 cases x with
 | pr i =>
  walk_at "v"
  refine vQ rfl ?_
  walk_at "v"
  exact qq
 | _ =>
  walk_at "v"
  refine zS (by dsimp only [vP]; decide) ?_
  walk_at "v"
  exact qq
local macro_rules | `(tactic| walk_at "vx") => `(tactic| simp only [QU,XS,XR,QQ,kf,uTry,QV,QR,XX,XZ,endX,Zn])
local macro_rules | `(tactic| walk_at "pk") => `(tactic| (walk_at "v"; repeat ((first | walk_at "vx" | refine zS (by decide) ?_ | refine vQ rfl ?_); walk_at "v")))
def NeedN (x y:Wt) (Q:Int→Int→Prop) (X:Str→Option Int→Prop):Prop:=match x,y with
 | .num a, .num b => Q a b
 | .num _,_ => X "WrongKind" (some 2)
 | _,_ => X "WrongKind" (some 1)
def NeedD (x y:Wt) (Q:Int→Int→Prop) (X:Str→Option Int→Prop):Prop:=NeedN x y (fun a b => (b = 0→X "Nought" none)∧(b≠0→Q a b)) X
def NeedP (x:Wt) (Q:Nat→Prop) (X:Str→Option Int→Prop):Prop:=match x with
 | .pr i => Q i
 | _ => X "WrongKind" (some 1)
theorem NeedN.imp {x y:Wt} {Q Q':Int→Int→Prop} {X X':Str→Option Int→Prop} (h:NeedN x y Q X) (hq:∀ a b,x = .num a→y = .num b→Q a b→Q' a b) (hx:∀ nm p,X nm p→X' nm p):NeedN x y Q' X':=by
 cases x <;> cases y <;> first | exact hq _ _ rfl rfl h | exact hx _ _ h
theorem NeedD.imp {x y:Wt} {Q Q':Int→Int→Prop} {X X':Str→Option Int→Prop} (h:NeedD x y Q X) (hq:∀ a b,x = .num a→y = .num b→b≠0→Q a b→Q' a b) (hx:∀ nm p,X nm p→X' nm p):NeedD x y Q' X' :=
 NeedN.imp h (fun a b e1 e2 h => ⟨fun z => hx _ _ (h.1 z),fun z => hq a b e1 e2 z (h.2 z)⟩) hx
theorem NeedP.imp {x:Wt} {Q Q':Nat→Prop} {X X':Str→Option Int→Prop} (h:NeedP x Q X) (hq:∀ i,x = .pr i→Q i→Q' i) (hx:∀ nm p,X nm p→X' nm p):NeedP x Q' X':=by
 cases x <;> first | exact hq _ rfl h | exact hx _ _ h
def kz (C D:Addr):List U→MM→UK→UX→Prop:=fun us M Q X => ∃ (s:Nm) (ws:List Wt) (ps:WW) (q p:Nat) (x y:Wt),us = [.m (s 0), .p (.int (q:Int)), .p (.int (p:Int))]∧Sto C D M s ws ps∧ws[q]? = some x∧ws[p]? = some y∧NeedN x y (fun _ _ => Q (.p .non) M) fun nm p => X nm p M
def ZP (C D:Addr):List U→MM→UK→UX→Prop:=fun us M Q X => ∃ (s:Nm) (ws:List Wt) (ps:WW) (q p:Nat) (x y:Wt),us = [.m (s 0), .p (.int (q:Int)), .p (.int (p:Int))]∧Sto C D M s ws ps∧ws[q]? = some x∧ws[p]? = some y∧NeedD x y (fun _ _ => Q (.p .non) M) fun nm p => X nm p M
def Kf (C D:Addr):List U→MM→UK→UX→Prop:=fun us M Q X => ∃ (s:Nm) (ws:List Wt) (ps:WW) (q:Nat) (x:Wt),us = [.m (s 0), .p (.int (q:Int))]∧Sto C D M s ws ps∧ws[q]? = some x∧NeedP x (fun _ => Q (.p .non) M) fun nm p => X nm p M
theorem small1:xp 1:=by unfold xp; decide
theorem small2:xp 2:=by unfold xp; decide
abbrev v7:Stmt:=top 9
theorem Qi:FnScope ["store", "q", "p"] ["store", "q", "p"] (qc v7):=⟨rfl,rfl,rfl,by decide +kernel,rfl,by decide +kernel,by decide +kernel⟩
theorem JP {C D CW:Addr} {f:Addr} {fd:FuncData} (F:Fun K "need_numbers" "need_numbers" v7 f fd) (N:Nms mg) (TPs:Cls K C) (DWk:ExcD P w K mg base "WrongKind" CW 1) (MPsKind:MD P w K mg base C "kind" 2 ["q"] (kU C D)):FnOk P w K mg base (CXe P w) 3 f fd ["store", "q", "p"] (spX mg (kz C D)):=by
 refine F.zX Qi (fun us M Qu Xu h => ?_) (fun cdv A outer s H E hr => ?_)
 ·obtain ⟨_,_,_,_,_,_,_,rfl,_⟩:=h
  rfl
 refine ⟨_,(qR (jg (qu jP (zF MPsKind TPs (qv 0) (hr.mono (by first | decide | exact Nat.le_refl _)) (qa_c (qv 1) qd)) ql (qC _))
   (qZ (kg rfl rfl DWk (hr.mono (by first | decide | exact Nat.le_refl _)) (qa_c qe qd)))
   zj)
  (qZ (jg (qu jP (zF MPsKind TPs (qv 0) (hr.mono (by first | decide | exact Nat.le_refl _)) (qa_c (qv 2) qd)) ql (qC _))
   (qZ (kg rfl rfl DWk (hr.mono (by first | decide | exact Nat.le_refl _)) (qa_c qe qd)))
   zj))),_,(qo (vi (qw (qE jk (zI (qb 0) (qa (qb 1) qf)) (ce_c (.str _))))
   (kB (qa (ce_c (.int _)) qf))
   qB)
   (vi (qw (qE jk (zI (qb 0) (qa (qb 2) qf)) (ce_c (.str _))))
   (kB (qa (ce_c (.int _)) qf))
   qB)),fun us M Qu Xu h => ?_⟩
 obtain ⟨s,ws,ps,q,p,x,y,rfl,S,hx,hy,k⟩:=h
 walk_at "pk"
 refine mS S (by decide) ?_
 walk_at "pk"
 refine ⟨s,ws,ps,q,_,rfl,S,hx, ?_⟩
 cases x with
 | num a =>
  simp only [vP]
  walk_at "pk"
  refine mS S (by decide) ?_
  walk_at "pk"
  refine ⟨s,ws,ps,p,_,rfl,S,hy, ?_⟩
  cases y with
  | num b =>
   simp only [vP]
   walk_at "pk"
   exact k
  | _ =>
   simp only [vP]
   walk_at "pk"
   exact ⟨2,rfl,small2,_,_,_,rfl,rfl,k⟩
 | _ =>
  simp only [vP]
  walk_at "pk"
  exact ⟨1,rfl,small1,_,_,_,rfl,rfl,k⟩
abbrev v8:Stmt:=top 10
theorem Qj:FnScope ["store", "q", "p"] ["store", "q", "p"] (qc v8):=⟨rfl,rfl,rfl,by decide +kernel,rfl,by decide +kernel,by decide +kernel⟩
theorem JQ {C D CN:Addr} {f:Addr} {fd:FuncData} (F:Fun K "need_divisor" "need_divisor" v8 f fd) (N:Nms mg) (TPs:Cls K C) (ONought:ExcC K mg "Nought" CN) (DNeedNumbers:DefX P w K mg base "need_numbers" 3 ["store", "q", "p"] (spX mg (kz C D))) (MPsTold:MD P w K mg base C "told" 2 ["q"] (Vd C D)):FnOk P w K mg base (CXe P w) 4 f fd ["store", "q", "p"] (spX mg (ZP C D)):=by
 refine F.zX Qj (fun us M Qu Xu h => ?_) (fun cdv A outer s H E hr => ?_)
 ·obtain ⟨_,_,_,_,_,_,_,rfl,_⟩:=h
  rfl
 refine ⟨_,(qR (xk (zW DNeedNumbers (hr.mono (by first | decide | exact Nat.le_refl _)) (qa_c (qv 0) (qa_c (qv 1) (qa_c (qv 2) qd)))))
  (qZ (jg (qu op_eq (zF MPsTold TPs (qv 0) (hr.mono (by first | decide | exact Nat.le_refl _)) (qa_c (qv 2) qd)) qe (qC _))
   (qZ (qx_raise rfl rfl ONought (qa_c ql qd)))
   zj))),_,(qo (zM (zZ (qa (qb 0) (qa (qb 1) (qa (qb 2) qf)))))
   (vi (qw (qE ve (zI (qb 0) (qa (qb 2) qf)) (ce_c (.int _))))
   (cs_raise (qa (ce_c (.str _)) qf))
   qB)),fun us M Qu Xu h => ?_⟩
 obtain ⟨s,ws,ps,q,p,x,y,rfl,S,hx,hy,k⟩:=h
 walk_at "pk"
 refine ⟨s,ws,ps,q,p,x,y,rfl,S,hx,hy, ?_⟩
 refine NeedN.imp k (fun a b ex ey k => ?_) fun nm p k => ⟨_,_,_,rfl,rfl,k⟩
 subst ex ey
 walk_at "pk"
 refine mS S (by decide) ?_
 walk_at "pk"
 refine ⟨s,ws,ps,p,_,rfl,S,hy, ?_⟩
 simp only [tT]
 walk_at "pk"
 by_cases hb:b = 0
 ·subst hb
  refine vQ rfl ?_
  walk_at "pk"
  exact ⟨by decide,_,_,_,rfl,rfl,k.1 rfl⟩
 ·refine zS (by simpa using hb) ?_
  walk_at "pk"
  exact k.2 hb
abbrev xh:Stmt:=top 11
theorem Xi:FnScope ["store", "q"] ["store", "q"] (qc xh):=⟨rfl,rfl,rfl,by decide +kernel,rfl,by decide +kernel,by decide +kernel⟩
theorem JO {C D CW:Addr} {f:Addr} {fd:FuncData} (F:Fun K "need_pair" "need_pair" xh f fd) (N:Nms mg) (TPs:Cls K C) (DWk:ExcD P w K mg base "WrongKind" CW 1) (MPsKind:MD P w K mg base C "kind" 2 ["q"] (kU C D)):FnOk P w K mg base (CXe P w) 3 f fd ["store", "q"] (spX mg (Kf C D)):=by
 refine F.zX Xi (fun us M Qu Xu h => ?_) (fun cdv A outer s H E hr => ?_)
 ·obtain ⟨_,_,_,_,_,rfl,_⟩:=h
  rfl
 refine ⟨_,(qZ (jg (qu jP (zF MPsKind TPs (qv 0) (hr.mono (by first | decide | exact Nat.le_refl _)) (qa_c (qv 1) qd)) ql (qC _))
   (qZ (kg rfl rfl DWk (hr.mono (by first | decide | exact Nat.le_refl _)) (qa_c qe qd)))
   zj)),_,(vi (qw (qE jk (zI (qb 0) (qa (qb 1) qf)) (ce_c (.str _))))
   (kB (qa (ce_c (.int _)) qf))
   qB),fun us M Qu Xu h => ?_⟩
 obtain ⟨s,ws,ps,q,x,rfl,S,hx,k⟩:=h
 walk_at "pk"
 refine mS S (by decide) ?_
 walk_at "pk"
 refine ⟨s,ws,ps,q,_,rfl,S,hx, ?_⟩
 cases x with
 | pr i =>
  simp only [vP]
  walk_at "pk"
  exact k
 | _ =>
  simp only [vP]
  walk_at "pk"
  exact ⟨1,rfl,small1,_,_,_,rfl,rfl,k⟩
abbrev xc:Stmt:=qi (top 16) 1
theorem Xf:FnScope ["self", "q"] ["self", "q"] (qc xc):=⟨rfl,rfl,rfl,by decide +kernel,rfl,by decide +kernel,by decide +kernel⟩
def jS (C D:Addr):List U→MM→UK→UX→Prop:=fun us M Q X => ∃ (s:Nm) (ws:List Wt) (ps:WW) (q:Nat) (x:Wt),us = [.m (s 0), .p (.int (q:Int))]∧Sto C D M s ws ps∧ws[q]? = some x∧NeedP x (fun i => Q (.m (s (i + 2))) M) fun nm p => X nm p M
theorem Xq {C D:Addr} {f:Addr} {fd:FuncData} (F:Fun K "pair_in" "PlainStore.pair_in" xc f fd) (N:Nms mg) (TP:TxP K C) (DNeedPair:DefX P w K mg base "need_pair" 3 ["store", "q"] (spX mg (Kf C D))):FnOk P w K mg base (CXe P w) 4 f fd ["self", "q"] (spX mg (jS C D)):=by
 refine F.zX Xf (fun us M Qu Xu h => ?_) (fun cdv A outer s H E hr => ?_)
 ·obtain ⟨_,_,_,_,_,rfl,_⟩:=h
  rfl
 refine ⟨_,(qR (xk (zW DNeedPair (hr.mono (by first | decide | exact Nat.le_refl _)) (qa_c (qv 0) (qa_c (qv 1) qd))))
  (qZ (xq (qF (qr (qm (K:=K) rfl) (vj (qv 0) rfl) (qv 1) (fun _ _ => rfl)))))),_,(qo (zM (zZ (qa (qb 0) (qa (qb 1) qf))))
   (qM (qK (vn (qb 0)) (qb 1)))),fun us M Qu Xu h => ?_⟩
 obtain ⟨s,ws,ps,q,x,rfl,S,hx,k⟩:=h
 walk_at "pk"
 refine ⟨s,ws,ps,q,x,rfl,S,hx, ?_⟩
 refine NeedP.imp k (fun i ex k => ?_) fun nm p k => ⟨_,_,_,rfl,rfl,k⟩
 subst ex
 walk_at "pk"
 refine qV TP S ?_
 walk_at "pk"
 refine vX S.h hx ?_
 walk_at "pk"
 exact k
def gP3 (C D:Addr) (op:Int→Int→(Int→Prop)→Prop):List U→MM→UK→UX→Prop:=fun us M Q X => ∃ (s:Nm) (ws:List Wt) (ps:WW) (r q p:Nat) (x y:Wt),us = [.m (s 0), .p (.int (r:Int)), .p (.int (q:Int)), .p (.int (p:Int))]∧Sto C D M s ws ps∧r < 8∧ws[q]? = some x∧ws[p]? = some y ∧
 NeedN x y (fun a b => op a b fun n => Q (.p .non) (M.set (s 1) (hl s (ws.set r (.num n))))) fun nm p => X nm p M
def gP3D (C D:Addr) (op:Int→Int→(Int→Prop)→Prop):List U→MM→UK→UX→Prop:=fun us M Q X => ∃ (s:Nm) (ws:List Wt) (ps:WW) (r q p:Nat) (x y:Wt),us = [.m (s 0), .p (.int (r:Int)), .p (.int (q:Int)), .p (.int (p:Int))]∧Sto C D M s ws ps∧r < 8∧ws[q]? = some x∧ws[p]? = some y ∧
 NeedD x y (fun a b => op a b fun n => Q (.p .non) (M.set (s 1) (hl s (ws.set r (.num n))))) fun nm p => X nm p M
def oPlus (a b:Int) (Q:Int→Prop):Prop:=Q (a + b)
def oLess (a b:Int) (Q:Int→Prop):Prop:=Q (a - b)
def Zu (a b:Int) (Q:Int→Prop):Prop:=IntMulOk a b∧Q (a * b)
def oOver (a b:Int) (Q:Int→Prop):Prop:=Builtin.divisionGoesByPylong a b = false∧Q (a.fdiv b)
def oRest (a b:Int) (Q:Int→Prop):Prop:=Q (a.fmod b)
abbrev jE:Stmt:=qi (top 16) 6
theorem scPsPlus:FnScope ["self", "r", "q", "p"] ["self", "r", "q", "p"] (qc jE):=⟨rfl,rfl,rfl,by decide +kernel,rfl,by decide +kernel,by decide +kernel⟩
theorem JH {C D:Addr} {f:Addr} {fd:FuncData} (F:Fun K "plus" "PlainStore.plus" jE f fd) (N:Nms mg) (TP:TxP K C) (DNeedNumbers:DefX P w K mg base "need_numbers" 3 ["store", "q", "p"] (spX mg (kz C D))):FnOk P w K mg base (CXe P w) 5 f fd ["self", "r", "q", "p"] (spX mg (gP3 C D oPlus)):=by
 refine F.zX scPsPlus (fun us M Qu Xu h => ?_) (fun cdv A outer s H E hr => ?_)
 ·obtain ⟨_,_,_,_,_,_,_,_,rfl,_⟩:=h
  rfl
 refine ⟨_,(qR (xk (zW DNeedNumbers (hr.mono (by first | decide | exact Nat.le_refl _)) (qa_c (qv 0) (qa_c (qv 2) (qa_c (qv 3) qd)))))
  (qZ (xq (vO (vp xm (qr (qm (K:=K) rfl) (vj (qv 0) rfl) (qv 2) (fun _ _ => rfl)) (qr (qm (K:=K) rfl) (vj (qv 0) rfl) (qv 3) (fun _ _ => rfl))) (vR (vj (qv 0) rfl) (qv 1) va))))),_,(qo (zM (zZ (qa (qb 0) (qa (qb 2) (qa (qb 3) qf)))))
   (qQ (qE (zq fun _ _ => .int _) (qK (vn (qb 0)) (qb 2)) (qK (vn (qb 0)) (qb 3))) (zp (vn (qb 0)) (qb 1)))),fun us M Qu Xu h => ?_⟩
 obtain ⟨s,ws,ps,r,q,p,x,y,rfl,S,hr8,hx,hy,k⟩:=h
 walk_at "pk"
 refine ⟨s,ws,ps,q,p,x,y,rfl,S,hx,hy, ?_⟩
 refine NeedN.imp k (fun a b ex ey k => ?_) fun nm p k => ⟨_,_,_,rfl,rfl,k⟩
 subst ex ey
 walk_at "pk"
 refine qV TP S ?_
 walk_at "pk"
 refine vX S.h hx ?_
 refine qV TP S ?_
 walk_at "pk"
 refine vX S.h hy ?_
 simp only [uS]
 walk_at "pk"
 refine qV TP S ?_
 walk_at "pk"
 exact zO (x:=.num _) S.h (by rw [S.n]; exact hr8) k
abbrev jH:Stmt:=qi (top 16) 7
theorem scPsLess:FnScope ["self", "r", "q", "p"] ["self", "r", "q", "p"] (qc jH):=⟨rfl,rfl,rfl,by decide +kernel,rfl,by decide +kernel,by decide +kernel⟩
theorem JK {C D:Addr} {f:Addr} {fd:FuncData} (F:Fun K "less" "PlainStore.less" jH f fd) (N:Nms mg) (TP:TxP K C) (DNeedNumbers:DefX P w K mg base "need_numbers" 3 ["store", "q", "p"] (spX mg (kz C D))):FnOk P w K mg base (CXe P w) 5 f fd ["self", "r", "q", "p"] (spX mg (gP3 C D oLess)):=by
 refine F.zX scPsLess (fun us M Qu Xu h => ?_) (fun cdv A outer s H E hr => ?_)
 ·obtain ⟨_,_,_,_,_,_,_,_,rfl,_⟩:=h
  rfl
 refine ⟨_,(qR (xk (zW DNeedNumbers (hr.mono (by first | decide | exact Nat.le_refl _)) (qa_c (qv 0) (qa_c (qv 2) (qa_c (qv 3) qd)))))
  (qZ (xq (vO (vp ki (qr (qm (K:=K) rfl) (vj (qv 0) rfl) (qv 2) (fun _ _ => rfl)) (qr (qm (K:=K) rfl) (vj (qv 0) rfl) (qv 3) (fun _ _ => rfl))) (vR (vj (qv 0) rfl) (qv 1) va))))),_,(qo (zM (zZ (qa (qb 0) (qa (qb 2) (qa (qb 3) qf)))))
   (qQ (qE (zq fun _ _ => .int _) (qK (vn (qb 0)) (qb 2)) (qK (vn (qb 0)) (qb 3))) (zp (vn (qb 0)) (qb 1)))),fun us M Qu Xu h => ?_⟩
 obtain ⟨s,ws,ps,r,q,p,x,y,rfl,S,hr8,hx,hy,k⟩:=h
 walk_at "pk"
 refine ⟨s,ws,ps,q,p,x,y,rfl,S,hx,hy, ?_⟩
 refine NeedN.imp k (fun a b ex ey k => ?_) fun nm p k => ⟨_,_,_,rfl,rfl,k⟩
 subst ex ey
 walk_at "pk"
 refine qV TP S ?_
 walk_at "pk"
 refine vX S.h hx ?_
 refine qV TP S ?_
 walk_at "pk"
 refine vX S.h hy ?_
 simp only [uS]
 walk_at "pk"
 refine qV TP S ?_
 walk_at "pk"
 exact zO (x:=.num _) S.h (by rw [S.n]; exact hr8) k
abbrev xA:Stmt:=qi (top 16) 8
theorem X8:FnScope ["self", "r", "q", "p"] ["self", "r", "q", "p"] (qc xA):=⟨rfl,rfl,rfl,by decide +kernel,rfl,by decide +kernel,by decide +kernel⟩
theorem Xn {C D:Addr} {f:Addr} {fd:FuncData} (F:Fun K "times" "PlainStore.times" xA f fd) (N:Nms mg) (TP:TxP K C) (DNeedNumbers:DefX P w K mg base "need_numbers" 3 ["store", "q", "p"] (spX mg (kz C D))):FnOk P w K mg base (CXe P w) 5 f fd ["self", "r", "q", "p"] (spX mg (gP3 C D Zu)):=by
 refine F.zX X8 (fun us M Qu Xu h => ?_) (fun cdv A outer s H E hr => ?_)
 ·obtain ⟨_,_,_,_,_,_,_,_,rfl,_⟩:=h
  rfl
 refine ⟨_,(qR (xk (zW DNeedNumbers (hr.mono (by first | decide | exact Nat.le_refl _)) (qa_c (qv 0) (qa_c (qv 2) (qa_c (qv 3) qd)))))
  (qZ (xq (vO (vp Jx (qr (qm (K:=K) rfl) (vj (qv 0) rfl) (qv 2) (fun _ _ => rfl)) (qr (qm (K:=K) rfl) (vj (qv 0) rfl) (qv 3) (fun _ _ => rfl))) (vR (vj (qv 0) rfl) (qv 1) va))))),_,(qo (zM (zZ (qa (qb 0) (qa (qb 2) (qa (qb 3) qf)))))
   (qQ (qE (jl fun _ _ => .int _) (qK (vn (qb 0)) (qb 2)) (qK (vn (qb 0)) (qb 3))) (zp (vn (qb 0)) (qb 1)))),fun us M Qu Xu h => ?_⟩
 obtain ⟨s,ws,ps,r,q,p,x,y,rfl,S,hr8,hx,hy,k⟩:=h
 walk_at "pk"
 refine ⟨s,ws,ps,q,p,x,y,rfl,S,hx,hy, ?_⟩
 refine NeedN.imp k (fun a b ex ey k => ?_) fun nm p k => ⟨_,_,_,rfl,rfl,k⟩
 subst ex ey
 walk_at "pk"
 refine qV TP S ?_
 walk_at "pk"
 refine vX S.h hx ?_
 refine qV TP S ?_
 walk_at "pk"
 refine vX S.h hy ?_
 simp only [uS]
 walk_at "pk"
 refine ⟨k.1, ?_⟩
 walk_at "pk"
 refine qV TP S ?_
 walk_at "pk"
 exact zO (x:=.num _) S.h (by rw [S.n]; exact hr8) k.2
abbrev jG:Stmt:=qi (top 16) 9
theorem scPsOver:FnScope ["self", "r", "q", "p"] ["self", "r", "q", "p"] (qc jG):=⟨rfl,rfl,rfl,by decide +kernel,rfl,by decide +kernel,by decide +kernel⟩
theorem JJ {C D:Addr} {f:Addr} {fd:FuncData} (F:Fun K "over" "PlainStore.over" jG f fd) (N:Nms mg) (TP:TxP K C) (DNeedDivisor:DefX P w K mg base "need_divisor" 4 ["store", "q", "p"] (spX mg (ZP C D))):FnOk P w K mg base (CXe P w) 5 f fd ["self", "r", "q", "p"] (spX mg (gP3D C D oOver)):=by
 refine F.zX scPsOver (fun us M Qu Xu h => ?_) (fun cdv A outer s H E hr => ?_)
 ·obtain ⟨_,_,_,_,_,_,_,_,rfl,_⟩:=h
  rfl
 refine ⟨_,(qR (xk (zW DNeedDivisor (hr.mono (by first | decide | exact Nat.le_refl _)) (qa_c (qv 0) (qa_c (qv 2) (qa_c (qv 3) qd)))))
  (qZ (xq (vO (vp Zs (qr (qm (K:=K) rfl) (vj (qv 0) rfl) (qv 2) (fun _ _ => rfl)) (qr (qm (K:=K) rfl) (vj (qv 0) rfl) (qv 3) (fun _ _ => rfl))) (vR (vj (qv 0) rfl) (qv 1) va))))),_,(qo (zM (zZ (qa (qb 0) (qa (qb 2) (qa (qb 3) qf)))))
   (qQ (qE (jl fun _ _ => .int _) (qK (vn (qb 0)) (qb 2)) (qK (vn (qb 0)) (qb 3))) (zp (vn (qb 0)) (qb 1)))),fun us M Qu Xu h => ?_⟩
 obtain ⟨s,ws,ps,r,q,p,x,y,rfl,S,hr8,hx,hy,k⟩:=h
 walk_at "pk"
 refine ⟨s,ws,ps,q,p,x,y,rfl,S,hx,hy, ?_⟩
 refine NeedD.imp k (fun a b ex ey hb k2 => ?_) fun nm p k => ⟨_,_,_,rfl,rfl,k⟩
 subst ex ey
 walk_at "pk"
 refine qV TP S ?_
 walk_at "pk"
 refine vX S.h hx ?_
 refine qV TP S ?_
 walk_at "pk"
 refine vX S.h hy ?_
 simp only [uS]
 walk_at "pk"
 refine ⟨⟨hb,k2.1⟩, ?_⟩
 walk_at "pk"
 refine qV TP S ?_
 walk_at "pk"
 exact zO (x:=.num _) S.h (by rw [S.n]; exact hr8) k2.2
abbrev jD:Stmt:=qi (top 16) 10
theorem scPsRest:FnScope ["self", "r", "q", "p"] ["self", "r", "q", "p"] (qc jD):=⟨rfl,rfl,rfl,by decide +kernel,rfl,by decide +kernel,by decide +kernel⟩
theorem JG {C D:Addr} {f:Addr} {fd:FuncData} (F:Fun K "rest" "PlainStore.rest" jD f fd) (N:Nms mg) (TP:TxP K C) (DNeedDivisor:DefX P w K mg base "need_divisor" 4 ["store", "q", "p"] (spX mg (ZP C D))):FnOk P w K mg base (CXe P w) 5 f fd ["self", "r", "q", "p"] (spX mg (gP3D C D oRest)):=by
 refine F.zX scPsRest (fun us M Qu Xu h => ?_) (fun cdv A outer s H E hr => ?_)
 ·obtain ⟨_,_,_,_,_,_,_,_,rfl,_⟩:=h
  rfl
 refine ⟨_,(qR (xk (zW DNeedDivisor (hr.mono (by first | decide | exact Nat.le_refl _)) (qa_c (qv 0) (qa_c (qv 2) (qa_c (qv 3) qd)))))
  (qZ (xq (vO (vp Jy (qr (qm (K:=K) rfl) (vj (qv 0) rfl) (qv 2) (fun _ _ => rfl)) (qr (qm (K:=K) rfl) (vj (qv 0) rfl) (qv 3) (fun _ _ => rfl))) (vR (vj (qv 0) rfl) (qv 1) va))))),_,(qo (zM (zZ (qa (qb 0) (qa (qb 2) (qa (qb 3) qf)))))
   (qQ (qE (jl fun _ _ => .int _) (qK (vn (qb 0)) (qb 2)) (qK (vn (qb 0)) (qb 3))) (zp (vn (qb 0)) (qb 1)))),fun us M Qu Xu h => ?_⟩
 obtain ⟨s,ws,ps,r,q,p,x,y,rfl,S,hr8,hx,hy,k⟩:=h
 walk_at "pk"
 refine ⟨s,ws,ps,q,p,x,y,rfl,S,hx,hy, ?_⟩
 refine NeedD.imp k (fun a b ex ey hb k2 => ?_) fun nm p k => ⟨_,_,_,rfl,rfl,k⟩
 subst ex ey
 walk_at "pk"
 refine qV TP S ?_
 walk_at "pk"
 refine vX S.h hx ?_
 refine qV TP S ?_
 walk_at "pk"
 refine vX S.h hy ?_
 simp only [uS]
 walk_at "pk"
 refine ⟨hb, ?_⟩
 walk_at "pk"
 refine qV TP S ?_
 walk_at "pk"
 exact zO (x:=.num _) S.h (by rw [S.n]; exact hr8) k2
abbrev xC:Stmt:=qi (top 16) 16
theorem Ja:FnScope ["self", "q", "p"] ["self", "q", "p"] (qc xC):=⟨rfl,rfl,rfl,by decide +kernel,rfl,by decide +kernel,by decide +kernel⟩
def gPBelow (C D:Addr):List U→MM→UK→UX→Prop:=fun us M Q X => ∃ (s:Nm) (ws:List Wt) (ps:WW) (q p:Nat) (x y:Wt),us = [.m (s 0), .p (.int (q:Int)), .p (.int (p:Int))]∧Sto C D M s ws ps∧ws[q]? = some x∧ws[p]? = some y∧NeedN x y (fun a b => Q (.p (.bl (decide (a < b)))) M) fun nm p => X nm p M
theorem Xp {C D:Addr} {f:Addr} {fd:FuncData} (F:Fun K "below" "PlainStore.below" xC f fd) (N:Nms mg) (TP:TxP K C) (DNeedNumbers:DefX P w K mg base "need_numbers" 3 ["store", "q", "p"] (spX mg (kz C D))):FnOk P w K mg base (CXe P w) 5 f fd ["self", "q", "p"] (spX mg (gPBelow C D)):=by
 refine F.zX Ja (fun us M Qu Xu h => ?_) (fun cdv A outer s H E hr => ?_)
 ·obtain ⟨_,_,_,_,_,_,_,rfl,_⟩:=h
  rfl
 refine ⟨_,(qR (xk (zW DNeedNumbers (hr.mono (by first | decide | exact Nat.le_refl _)) (qa_c (qv 0) (qa_c (qv 1) (qa_c (qv 2) qd)))))
  (qZ (xq (qF (zx VL (qr (qm (K:=K) rfl) (vj (qv 0) rfl) (qv 1) (fun _ _ => rfl)) (qr (qm (K:=K) rfl) (vj (qv 0) rfl) (qv 2) (fun _ _ => rfl)) (qC _)))))),_,(qo (zM (zZ (qa (qb 0) (qa (qb 1) (qa (qb 2) qf)))))
   (qM (qE (zq fun _ _ => .bl _) (qK (vn (qb 0)) (qb 1)) (qK (vn (qb 0)) (qb 2))))),fun us M Qu Xu h => ?_⟩
 obtain ⟨s,ws,ps,q,p,x,y,rfl,S,hx,hy,k⟩:=h
 walk_at "pk"
 refine ⟨s,ws,ps,q,p,x,y,rfl,S,hx,hy, ?_⟩
 refine NeedN.imp k (fun a b ex ey k => ?_) fun nm p k => ⟨_,_,_,rfl,rfl,k⟩
 subst ex ey
 walk_at "pk"
 refine qV TP S ?_
 walk_at "pk"
 refine vX S.h hx ?_
 refine qV TP S ?_
 walk_at "pk"
 refine vX S.h hy ?_
 simp only [uS]
 walk_at "pk"
 exact k
def gPGet (C D:Addr) (side:Wt × Wt→Wt):List U→MM→UK→UX→Prop:=fun us M Q X => ∃ (s:Nm) (ws:List Wt) (ps:WW) (r q:Nat) (x:Wt),us = [.m (s 0), .p (.int (r:Int)), .p (.int (q:Int))]∧Sto C D M s ws ps∧r < 8∧ws[q]? = some x∧NeedP x (fun i => ∀ z,ps[i]? = some z→Q (.p .non) (M.set (s 1) (hl s (ws.set r (side z))))) fun nm p => X nm p M
def gPSet (C D:Addr) (put:Wt × Wt→Wt→Wt × Wt):List U→MM→UK→UX→Prop:=fun us M Q X => ∃ (s:Nm) (ws:List Wt) (ps:WW) (q p:Nat) (x y:Wt),us = [.m (s 0), .p (.int (q:Int)), .p (.int (p:Int))]∧Sto C D M s ws ps∧ws[q]? = some x∧ws[p]? = some y∧NeedP x (fun i => ∀ z,ps[i]? = some z→Q (.p .non) (M.set (s (i + 2)) (po D s (put z y)))) fun nm p => X nm p M
def putL (z:Wt × Wt) (y:Wt):Wt × Wt:=(y,z.2)
def putR (z:Wt × Wt) (y:Wt):Wt × Wt:=(z.1,y)
abbrev xB:Stmt:=qi (top 16) 12
theorem X9:FnScope ["self", "r", "q"] ["self", "r", "q"] (qc xB):=⟨rfl,rfl,rfl,by decide +kernel,rfl,by decide +kernel,by decide +kernel⟩
theorem Xo {C D:Addr} {f:Addr} {fd:FuncData} (F:Fun K "first" "PlainStore.first" xB f fd) (N:Nms mg) (TP:TxP K C) (TQ:TxQ K D) (TPs:Cls K C) (MPsPairIn:MX P w K mg base C "pair_in" 4 ["q"] (jS C D)):FnOk P w K mg base (CXe P w) 5 f fd ["self", "r", "q"] (spX mg (gPGet C D Prod.fst)):=by
 refine F.zX X9 (fun us M Qu Xu h => ?_) (fun cdv A outer s H E hr => ?_)
 ·obtain ⟨_,_,_,_,_,_,rfl,_⟩:=h
  rfl
 refine ⟨_,(qZ (qx_asg (qx_fld (zk (qv 0) TPs MPsPairIn (hr.mono (by first | decide | exact Nat.le_refl _)) (qa_c (qv 2) qd))) (vR (vj (qv 0) rfl) (qv 1) va))),_,(Ku (cx_fld (zn (qb 0) (qa (qb 2) qf))) (zp (vn (qb 0)) (qb 1))),fun us M Qu Xu h => ?_⟩
 obtain ⟨s,ws,ps,r,q,x,rfl,S,hr8,hx,k⟩:=h
 walk_at "pk"
 refine mS S (by decide) ?_
 walk_at "pk"
 refine ⟨s,ws,ps,q,x,rfl,S,hx, ?_⟩
 refine NeedP.imp k (fun i ex k => ?_) fun nm p k => ⟨_,_,_,rfl,rfl,k⟩
 subst ex
 obtain ⟨z,hz⟩:=S.pi hx
 refine QD (u:=uS s (Prod.fst z)) TQ.c TQ.nl (S.p i z hz) rfl ?_
 walk_at "pk"
 refine qV TP S ?_
 walk_at "pk"
 exact zO (x:=Prod.fst z) S.h (by rw [S.n]; exact hr8) (k z hz)
abbrev xb:Stmt:=qi (top 16) 13
theorem Xe:FnScope ["self", "r", "q"] ["self", "r", "q"] (qc xb):=⟨rfl,rfl,rfl,by decide +kernel,rfl,by decide +kernel,by decide +kernel⟩
theorem VM {C D:Addr} {f:Addr} {fd:FuncData} (F:Fun K "second" "PlainStore.second" xb f fd) (N:Nms mg) (TP:TxP K C) (TQ:TxQ K D) (TPs:Cls K C) (MPsPairIn:MX P w K mg base C "pair_in" 4 ["q"] (jS C D)):FnOk P w K mg base (CXe P w) 5 f fd ["self", "r", "q"] (spX mg (gPGet C D Prod.snd)):=by
 refine F.zX Xe (fun us M Qu Xu h => ?_) (fun cdv A outer s H E hr => ?_)
 ·obtain ⟨_,_,_,_,_,_,rfl,_⟩:=h
  rfl
 refine ⟨_,(qZ (qx_asg (qx_fld (zk (qv 0) TPs MPsPairIn (hr.mono (by first | decide | exact Nat.le_refl _)) (qa_c (qv 2) qd))) (vR (vj (qv 0) rfl) (qv 1) va))),_,(Ku (cx_fld (zn (qb 0) (qa (qb 2) qf))) (zp (vn (qb 0)) (qb 1))),fun us M Qu Xu h => ?_⟩
 obtain ⟨s,ws,ps,r,q,x,rfl,S,hr8,hx,k⟩:=h
 walk_at "pk"
 refine mS S (by decide) ?_
 walk_at "pk"
 refine ⟨s,ws,ps,q,x,rfl,S,hx, ?_⟩
 refine NeedP.imp k (fun i ex k => ?_) fun nm p k => ⟨_,_,_,rfl,rfl,k⟩
 subst ex
 obtain ⟨z,hz⟩:=S.pi hx
 refine QD (u:=uS s (Prod.snd z)) TQ.c TQ.nr (S.p i z hz) rfl ?_
 walk_at "pk"
 refine qV TP S ?_
 walk_at "pk"
 exact zO (x:=Prod.snd z) S.h (by rw [S.n]; exact hr8) (k z hz)
abbrev zr:Stmt:=qi (top 16) 14
theorem scPsSetFirst:FnScope ["self", "q", "p", "changed"] ["self", "q", "p"] (qc zr):=⟨rfl,rfl,rfl,by decide +kernel,rfl,by decide +kernel,by decide +kernel⟩
theorem kH {C D:Addr} {f:Addr} {fd:FuncData} (F:Fun K "set_first" "PlainStore.set_first" zr f fd) (N:Nms mg) (TP:TxP K C) (TQ:TxQ K D) (TPs:Cls K C) (MPsPairIn:MX P w K mg base C "pair_in" 4 ["q"] (jS C D)):FnOk P w K mg base (CXe P w) 5 f fd ["self", "q", "p"] (spX mg (gPSet C D putL)):=by
 refine F.zX scPsSetFirst (fun us M Qu Xu h => ?_) (fun cdv A outer s H E hr => ?_)
 ·obtain ⟨_,_,_,_,_,_,_,rfl,_⟩:=h
  rfl
 refine ⟨_,(qR (Jk (i:=3) scPsSetFirst.nd rfl (Or.inl rfl) (zk (qv 0) TPs MPsPairIn (hr.mono (by first | decide | exact Nat.le_refl _)) (qa_c (qv 1) qd)))
  (qZ (xq (Q5 (qv 3) (qr (qm (K:=K) rfl) (vj (qv 0) rfl) (qv 2) (fun _ _ => rfl)) rfl)))),_,(qo (V8 (zn (qb 0) (qa (qb 1) qf)))
   (Vo (qb 3) (qK (vn (qb 0)) (qb 2)))),fun us M Qu Xu h => ?_⟩
 obtain ⟨s,ws,ps,q,p,x,y,rfl,S,hx,hy,k⟩:=h
 walk_at "pk"
 refine mS S (by decide) ?_
 walk_at "pk"
 refine ⟨s,ws,ps,q,x,rfl,S,hx, ?_⟩
 refine NeedP.imp k (fun i ex k => ?_) fun nm p k => ⟨_,_,_,rfl,rfl,k⟩
 subst ex
 obtain ⟨z,hz⟩:=S.pi hx
 walk_at "pk"
 refine qV TP S ?_
 walk_at "pk"
 refine vX S.h hy ?_
 walk_at "pk"
 exact xw TQ.c TQ.nl (S.p i z hz) (by show 2 < 1000; decide) (k z hz)
abbrev v6:Stmt:=qi (top 16) 15
theorem scPsSetSecond:FnScope ["self", "q", "p", "changed"] ["self", "q", "p"] (qc v6):=⟨rfl,rfl,rfl,by decide +kernel,rfl,by decide +kernel,by decide +kernel⟩
theorem km {C D:Addr} {f:Addr} {fd:FuncData} (F:Fun K "set_second" "PlainStore.set_second" v6 f fd) (N:Nms mg) (TP:TxP K C) (TQ:TxQ K D) (TPs:Cls K C) (MPsPairIn:MX P w K mg base C "pair_in" 4 ["q"] (jS C D)):FnOk P w K mg base (CXe P w) 5 f fd ["self", "q", "p"] (spX mg (gPSet C D putR)):=by
 refine F.zX scPsSetSecond (fun us M Qu Xu h => ?_) (fun cdv A outer s H E hr => ?_)
 ·obtain ⟨_,_,_,_,_,_,_,rfl,_⟩:=h
  rfl
 refine ⟨_,(qR (Jk (i:=3) scPsSetSecond.nd rfl (Or.inl rfl) (zk (qv 0) TPs MPsPairIn (hr.mono (by first | decide | exact Nat.le_refl _)) (qa_c (qv 1) qd)))
  (qZ (xq (Q5 (qv 3) (qr (qm (K:=K) rfl) (vj (qv 0) rfl) (qv 2) (fun _ _ => rfl)) rfl)))),_,(qo (V8 (zn (qb 0) (qa (qb 1) qf)))
   (Vo (qb 3) (qK (vn (qb 0)) (qb 2)))),fun us M Qu Xu h => ?_⟩
 obtain ⟨s,ws,ps,q,p,x,y,rfl,S,hx,hy,k⟩:=h
 walk_at "pk"
 refine mS S (by decide) ?_
 walk_at "pk"
 refine ⟨s,ws,ps,q,x,rfl,S,hx, ?_⟩
 refine NeedP.imp k (fun i ex k => ?_) fun nm p k => ⟨_,_,_,rfl,rfl,k⟩
 subst ex
 obtain ⟨z,hz⟩:=S.pi hx
 walk_at "pk"
 refine qV TP S ?_
 walk_at "pk"
 refine vX S.h hy ?_
 walk_at "pk"
 exact xw TQ.c TQ.nr (S.p i z hz) (by show 2 < 1000; decide) (k z hz)
local macro_rules | `(tactic| walk_at "vx") => `(tactic| simp only [QU,XS,XR,QQ,kf,uTry,QV,QR,XX,XZ,endX,Zn])
local macro_rules | `(tactic| walk_at "pk") => `(tactic| (walk_at "v"; repeat ((first | walk_at "vx" | refine zS (by decide) ?_ | refine vQ rfl ?_); walk_at "v")))
inductive DeedDo (ws:List Wt) (ps:WW):List T→List Wt→WW→Prop
 | num (r:Nat) (n:Int) (hr:r < 8):DeedDo ws ps [.str "number", .int (r:Int), .int n] (ws.set r (.num n)) ps
 | sgn (r:Nat) (k:Int) (hr:r < 8):DeedDo ws ps [.str "sign", .int (r:Int), .int k] (ws.set r (.sgn k)) ps
 | one (r:Nat) (t:Str) (hr:r < 8):DeedDo ws ps [.str "one", .int (r:Int), .str t] (ws.set r (.one t)) ps
 | copy (r q:Nat) (x:Wt) (hr:r < 8) (hq:ws[q]? = some x):DeedDo ws ps [.str "copy", .int (r:Int), .int (q:Int)] (ws.set r x) ps
 | plus (r q p:Nat) (a b:Int) (hr:r < 8) (hq:ws[q]? = some (.num a)) (hp:ws[p]? = some (.num b)):DeedDo ws ps [.str "plus", .int (r:Int), .int (q:Int), .int (p:Int)] (ws.set r (.num (a + b))) ps
 | less (r q p:Nat) (a b:Int) (hr:r < 8) (hq:ws[q]? = some (.num a)) (hp:ws[p]? = some (.num b)):DeedDo ws ps [.str "less", .int (r:Int), .int (q:Int), .int (p:Int)] (ws.set r (.num (a - b))) ps
 | times (r q p:Nat) (a b:Int) (hr:r < 8) (hq:ws[q]? = some (.num a)) (hp:ws[p]? = some (.num b)) (hm:IntMulOk a b):DeedDo ws ps [.str "times", .int (r:Int), .int (q:Int), .int (p:Int)] (ws.set r (.num (a * b))) ps
 | over (r q p:Nat) (a b:Int) (hr:r < 8) (hq:ws[q]? = some (.num a)) (hp:ws[p]? = some (.num b)) (hb:b≠0) (hd:Builtin.divisionGoesByPylong a b = false):DeedDo ws ps [.str "over", .int (r:Int), .int (q:Int), .int (p:Int)] (ws.set r (.num (a.fdiv b))) ps
 | rest (r q p:Nat) (a b:Int) (hr:r < 8) (hq:ws[q]? = some (.num a)) (hp:ws[p]? = some (.num b)) (hb:b≠0):DeedDo ws ps [.str "rest", .int (r:Int), .int (q:Int), .int (p:Int)] (ws.set r (.num (a.fmod b))) ps
 | pair (r q p:Nat) (x y:Wt) (hr:r < 8) (hq:ws[q]? = some x) (hp:ws[p]? = some y):DeedDo ws ps [.str "pair", .int (r:Int), .int (q:Int), .int (p:Int)] (ws.set r (.pr ps.length)) (ps ++ [(x,y)])
 | first (r q i:Nat) (z:Wt × Wt) (hr:r < 8) (hq:ws[q]? = some (.pr i)) (hi:ps[i]? = some z):DeedDo ws ps [.str "first", .int (r:Int), .int (q:Int)] (ws.set r z.1) ps
 | second (r q i:Nat) (z:Wt × Wt) (hr:r < 8) (hq:ws[q]? = some (.pr i)) (hi:ps[i]? = some z):DeedDo ws ps [.str "second", .int (r:Int), .int (q:Int)] (ws.set r z.2) ps
 | setL (q p i:Nat) (z:Wt × Wt) (y:Wt) (hq:ws[q]? = some (.pr i)) (hi:ps[i]? = some z) (hp:ws[p]? = some y):DeedDo ws ps [.str "set_first", .int (q:Int), .int (p:Int)] ws (ps.set i (y,z.2))
 | setR (q p i:Nat) (z:Wt × Wt) (y:Wt) (hq:ws[q]? = some (.pr i)) (hi:ps[i]? = some z) (hp:ws[p]? = some y):DeedDo ws ps [.str "set_second", .int (q:Int), .int (p:Int)] ws (ps.set i (z.1,y))
inductive DeedAsk (ws:List Wt):List T→T→Prop
 | kind (q:Nat) (x:Wt) (hq:ws[q]? = some x):DeedAsk ws [.str "kind", .int (q:Int)] (.str (vP x))
 | told (q:Nat) (x:Wt) (hq:ws[q]? = some x):DeedAsk ws [.str "told", .int (q:Int)] (tT x)
 | same (q p:Nat) (x y:Wt) (hq:ws[q]? = some x) (hp:ws[p]? = some y):DeedAsk ws [.str "same", .int (q:Int), .int (p:Int)] (.bl (decide (x = y)))
 | below (q p:Nat) (a b:Int) (hq:ws[q]? = some (.num a)) (hp:ws[p]? = some (.num b)):DeedAsk ws [.str "below", .int (q:Int), .int (p:Int)] (.bl (decide (a < b)))
def five (w:Str):Prop:=w = "plus" ∨ w = "less" ∨ w = "times" ∨ w = "over" ∨ w = "rest"
inductive DeedNo (ws:List Wt):List T→Str→Option Int→Prop
 | n1 (w:Str) (hw:five w) (r q p:Nat) (x y:Wt) (hr:r < 8) (hq:ws[q]? = some x) (hx:vP x ≠ "number") (hp:ws[p]? = some y):DeedNo ws [.str w, .int (r:Int), .int (q:Int), .int (p:Int)] "WrongKind" (some 1)
 | n2 (w:Str) (hw:five w) (r q p:Nat) (a:Int) (y:Wt) (hr:r < 8) (hq:ws[q]? = some (.num a)) (hp:ws[p]? = some y) (hy:vP y ≠ "number"):DeedNo ws [.str w, .int (r:Int), .int (q:Int), .int (p:Int)] "WrongKind" (some 2)
 | nz (w:Str) (hw:w = "over" ∨ w = "rest") (r q p:Nat) (a:Int) (hr:r < 8) (hq:ws[q]? = some (.num a)) (hp:ws[p]? = some (.num 0)):DeedNo ws [.str w, .int (r:Int), .int (q:Int), .int (p:Int)] "Nought" none
 | p1 (w:Str) (hw:w = "first" ∨ w = "second") (r q:Nat) (x:Wt) (hr:r < 8) (hq:ws[q]? = some x) (hx:vP x ≠ "pair"):DeedNo ws [.str w, .int (r:Int), .int (q:Int)] "WrongKind" (some 1)
 | p2 (w:Str) (hw:w = "set_first" ∨ w = "set_second") (q p:Nat) (x y:Wt) (hq:ws[q]? = some x) (hx:vP x ≠ "pair") (hp:ws[p]? = some y):DeedNo ws [.str w, .int (q:Int), .int (p:Int)] "WrongKind" (some 1)
inductive AskNo (ws:List Wt):List T→Int→Prop
 | b1 (q p:Nat) (x y:Wt) (hq:ws[q]? = some x) (hx:vP x ≠ "number") (hp:ws[p]? = some y):AskNo ws [.str "below", .int (q:Int), .int (p:Int)] 1
 | b2 (q p:Nat) (a:Int) (y:Wt) (hq:ws[q]? = some (.num a)) (hp:ws[p]? = some y) (hy:vP y ≠ "number"):AskNo ws [.str "below", .int (q:Int), .int (p:Int)] 2
theorem xX {x y:Wt} {Q:Int→Int→Prop} {X:Str→Option Int→Prop} (h:vP x ≠ "number") (k:X "WrongKind" (some 1)):NeedN x y Q X:=by cases x <;> first | exact absurd rfl h | exact k
theorem xW {a:Int} {y:Wt} {Q:Int→Int→Prop} {X:Str→Option Int→Prop} (h:vP y ≠ "number") (k:X "WrongKind" (some 2)):NeedN (.num a) y Q X:=by cases y <;> first | exact absurd rfl h | exact k
theorem Qq {x:Wt} {Q:Nat→Prop} {X:Str→Option Int→Prop} (h:vP x ≠ "pair") (k:X "WrongKind" (some 1)):NeedP x Q X:=by cases x <;> first | exact absurd rfl h | exact k
theorem JW {a:Int} {Q:Int→Int→Prop} {X:Str→Option Int→Prop} (k:X "Nought" none):NeedD (.num a) (.num 0) Q X:=⟨fun _ => k,fun h => absurd rfl h⟩
theorem Zy {a b:Int} {Q:Int→Int→Prop} {X:Str→Option Int→Prop} (h:b≠0) (k:Q a b):NeedD (.num a) (.num b) Q X:=⟨fun z => absurd z h,fun _ => k⟩
def Out (C D:Addr) (ds:List T) (k:Nat) (M:MM) (Q:UK) (X:UX):Prop:=∃ (s:Nm) (ws:List Wt) (ps:WW),k = s 0∧Sto C D M s ws ps ∧
 ((∃ ws' ps',DeedDo ws ps ds ws' ps'∧∀ M' s',Sto C D M' s' ws' ps'→Go M M' s s' (ps.length + 2) (ps'.length + 2)→Q (.p .non) M')∨(∃ ans,DeedAsk ws ds ans∧Q (.p ans) M)∨(∃ nm p,DeedNo ws ds nm p∧X nm p M)∨∃ p,AskNo ws ds p∧X "WrongKind" (some p) M)
inductive Call (C D:Addr) (k:Nat) (M:MM) (Q:UK) (X:UX):List T→Prop
 | number (a b:T) (h:Ve C D [.m k, .p a, .p b] M Q):Call C D k M Q X [.str "number", a,b]
 | sign (a b:T) (h:ZK C D [.m k, .p a, .p b] M Q):Call C D k M Q X [.str "sign", a,b]
 | one (a b:T) (h:Ve C D [.m k, .p a, .p b] M Q):Call C D k M Q X [.str "one", a,b]
 | copy (a b:T) (h:ZN C D [.m k, .p a, .p b] M Q):Call C D k M Q X [.str "copy", a,b]
 | pair (a b c:T) (h:ZM C D [.m k, .p a, .p b, .p c] M Q):Call C D k M Q X [.str "pair", a,b,c]
 | same (a b:T) (h:ZL C D [.m k, .p a, .p b] M Q):Call C D k M Q X [.str "same", a,b]
 | kind (a:T) (h:kU C D [.m k, .p a] M Q):Call C D k M Q X [.str "kind", a]
 | told (a:T) (h:Vd C D [.m k, .p a] M Q):Call C D k M Q X [.str "told", a]
 | plus (a b c:T) (h:gP3 C D oPlus [.m k, .p a, .p b, .p c] M Q X):Call C D k M Q X [.str "plus", a,b,c]
 | less (a b c:T) (h:gP3 C D oLess [.m k, .p a, .p b, .p c] M Q X):Call C D k M Q X [.str "less", a,b,c]
 | times (a b c:T) (h:gP3 C D Zu [.m k, .p a, .p b, .p c] M Q X):Call C D k M Q X [.str "times", a,b,c]
 | over (a b c:T) (h:gP3D C D oOver [.m k, .p a, .p b, .p c] M Q X):Call C D k M Q X [.str "over", a,b,c]
 | rest (a b c:T) (h:gP3D C D oRest [.m k, .p a, .p b, .p c] M Q X):Call C D k M Q X [.str "rest", a,b,c]
 | first (a b:T) (h:gPGet C D Prod.fst [.m k, .p a, .p b] M Q X):Call C D k M Q X [.str "first", a,b]
 | second (a b:T) (h:gPGet C D Prod.snd [.m k, .p a, .p b] M Q X):Call C D k M Q X [.str "second", a,b]
 | setL (a b:T) (h:gPSet C D putL [.m k, .p a, .p b] M Q X):Call C D k M Q X [.str "set_first", a,b]
 | setR (a b:T) (h:gPSet C D putR [.m k, .p a, .p b] M Q X):Call C D k M Q X [.str "set_second", a,b]
 | below (a b:T) (h:gPBelow C D [.m k, .p a, .p b] M Q X):Call C D k M Q X [.str "below", a,b]
theorem Out.call {C D:Addr} {ds:List T} {k:Nat} {M:MM} {Q:UK} {X:UX} (h:Out C D ds k M Q X):Call C D k M Q X ds:=by
 obtain ⟨s,ws,ps,rfl,S,h⟩:=h
 rcases h with ⟨ws',ps',hd,q⟩ | ⟨ans,hd,q⟩ | ⟨nm,pp,hd,q⟩ | ⟨pp,hd,q⟩
 ·cases hd with
  | num r n hr => exact .number _ _ ⟨s,ws,ps,r, .num n,rfl,S,hr,q _ s (S.put trivial) (.set (by omega))⟩
  | sgn r n hr => exact .sign _ _ ⟨s,ws,ps,r,n,rfl,S,hr,q _ s (S.put trivial) (.set (by omega))⟩
  | one r n hr => exact .one _ _ ⟨s,ws,ps,r, .one n,rfl,S,hr,q _ s (S.put trivial) (.set (by omega))⟩
  | copy r qq x hr hq => exact .copy _ _ ⟨s,ws,ps,r,qq,x,rfl,S,hr,hq,q _ s (S.put (S.wq hq)) (.set (by omega))⟩
  | plus r qq p a b hr hq hp => exact .plus _ _ _ ⟨s,ws,ps,r,qq,p,_,_,rfl,S,hr,hq,hp,q _ s (S.put trivial) (.set (by omega))⟩
  | less r qq p a b hr hq hp => exact .less _ _ _ ⟨s,ws,ps,r,qq,p,_,_,rfl,S,hr,hq,hp,q _ s (S.put trivial) (.set (by omega))⟩
  | times r qq p a b hr hq hp hm => exact .times _ _ _ ⟨s,ws,ps,r,qq,p,_,_,rfl,S,hr,hq,hp,hm,q _ s (S.put trivial) (.set (by omega))⟩
  | over r qq p a b hr hq hp hb hdd => exact .over _ _ _ ⟨s,ws,ps,r,qq,p,_,_,rfl,S,hr,hq,hp,Zy hb ⟨hdd,q _ s (S.put trivial) (.set (by omega))⟩⟩
  | rest r qq p a b hr hq hp hb => exact .rest _ _ _ ⟨s,ws,ps,r,qq,p,_,_,rfl,S,hr,hq,hp,Zy hb (q _ s (S.put trivial) (.set (by omega)))⟩
  | pair r qq p x y hr hq hp =>
   have nw:=S.new (r:=r) (x:=(x,y)) ⟨S.wq hq,S.wq hp⟩
   exact .pair _ _ _ ⟨s,ws,ps,r,qq,p,_,_,rfl,S,hr,hq,hp,q _ _ nw.1 nw.2⟩
  | first r qq i z hr hq hi =>
   refine .first _ _ ⟨s,ws,ps,r,qq,_,rfl,S,hr,hq,fun z' hz => ?_⟩
   rw [hi] at hz; cases hz
   exact q _ s (S.put (S.wi hi).1) (.set (by omega))
  | second r qq i z hr hq hi =>
   refine .second _ _ ⟨s,ws,ps,r,qq,_,rfl,S,hr,hq,fun z' hz => ?_⟩
   rw [hi] at hz; cases hz
   exact q _ s (S.put (S.wi hi).2) (.set (by omega))
  | setL qq p i z y hq hi hp =>
   have hl:i < ps.length:=S.wq hq
   rw [List.length_set] at q
   refine .setL _ _ ⟨s,ws,ps,qq,p,_,_,rfl,S,hq,hp,fun z' hz => ?_⟩
   rw [hi] at hz; cases hz
   exact q _ s (S.setp hl ⟨S.wq hp,(S.wi hi).2⟩) (.set (by omega))
  | setR qq p i z y hq hi hp =>
   have hl:i < ps.length:=S.wq hq
   rw [List.length_set] at q
   refine .setR _ _ ⟨s,ws,ps,qq,p,_,_,rfl,S,hq,hp,fun z' hz => ?_⟩
   rw [hi] at hz; cases hz
   exact q _ s (S.setp hl ⟨(S.wi hi).1,S.wq hp⟩) (.set (by omega))
 ·cases hd with
  | kind qq x hq => exact .kind _ ⟨s,ws,ps,qq,x,rfl,S,hq,q⟩
  | told qq x hq => exact .told _ ⟨s,ws,ps,qq,x,rfl,S,hq,q⟩
  | same qq p x y hq hp => exact .same _ _ ⟨s,ws,ps,qq,p,x,y,rfl,S,hq,hp,q⟩
  | below qq p a b hq hp => exact .below _ _ ⟨s,ws,ps,qq,p,_,_,rfl,S,hq,hp,q⟩
 ·cases hd with
  | n1 ww hw r qq p x y hr hq hx hp =>
   rcases hw with rfl | rfl | rfl | rfl | rfl
   ·exact .plus _ _ _ ⟨s,ws,ps,r,qq,p,x,y,rfl,S,hr,hq,hp,xX hx q⟩
   ·exact .less _ _ _ ⟨s,ws,ps,r,qq,p,x,y,rfl,S,hr,hq,hp,xX hx q⟩
   ·exact .times _ _ _ ⟨s,ws,ps,r,qq,p,x,y,rfl,S,hr,hq,hp,xX hx q⟩
   ·exact .over _ _ _ ⟨s,ws,ps,r,qq,p,x,y,rfl,S,hr,hq,hp,xX hx q⟩
   ·exact .rest _ _ _ ⟨s,ws,ps,r,qq,p,x,y,rfl,S,hr,hq,hp,xX hx q⟩
  | n2 ww hw r qq p a y hr hq hp hy =>
   rcases hw with rfl | rfl | rfl | rfl | rfl
   ·exact .plus _ _ _ ⟨s,ws,ps,r,qq,p,_,y,rfl,S,hr,hq,hp,xW hy q⟩
   ·exact .less _ _ _ ⟨s,ws,ps,r,qq,p,_,y,rfl,S,hr,hq,hp,xW hy q⟩
   ·exact .times _ _ _ ⟨s,ws,ps,r,qq,p,_,y,rfl,S,hr,hq,hp,xW hy q⟩
   ·exact .over _ _ _ ⟨s,ws,ps,r,qq,p,_,y,rfl,S,hr,hq,hp,xW hy q⟩
   ·exact .rest _ _ _ ⟨s,ws,ps,r,qq,p,_,y,rfl,S,hr,hq,hp,xW hy q⟩
  | nz ww hw r qq p a hr hq hp =>
   rcases hw with rfl | rfl
   ·exact .over _ _ _ ⟨s,ws,ps,r,qq,p,_,_,rfl,S,hr,hq,hp,JW q⟩
   ·exact .rest _ _ _ ⟨s,ws,ps,r,qq,p,_,_,rfl,S,hr,hq,hp,JW q⟩
  | p1 ww hw r qq x hr hq hx =>
   rcases hw with rfl | rfl
   ·exact .first _ _ ⟨s,ws,ps,r,qq,x,rfl,S,hr,hq,Qq hx q⟩
   ·exact .second _ _ ⟨s,ws,ps,r,qq,x,rfl,S,hr,hq,Qq hx q⟩
  | p2 ww hw qq p x y hq hx hp =>
   rcases hw with rfl | rfl
   ·exact .setL _ _ ⟨s,ws,ps,qq,p,x,y,rfl,S,hq,hp,Qq hx q⟩
   ·exact .setR _ _ ⟨s,ws,ps,qq,p,x,y,rfl,S,hq,hp,Qq hx q⟩
 ·cases hd with
  | b1 qq p x y hq hx hp => exact .below _ _ ⟨s,ws,ps,qq,p,x,y,rfl,S,hq,hp,xX hx q⟩
  | b2 qq p a y hq hp hy => exact .below _ _ ⟨s,ws,ps,qq,p,_,y,rfl,S,hq,hp,xW hy q⟩
section
variable {C D:Addr} {us:List U} {M:MM} {Q:UK} {X X':UX}
theorem gP3.imp {op:Int→Int→(Int→Prop)→Prop} (h:gP3 C D op us M Q X) (hx:∀ nm p M',X nm p M'→X' nm p M'):gP3 C D op us M Q X':=by
 obtain ⟨s,ws,ps,r,q,p,x,y,e,S,hr,hq,hp,k⟩:=h
 exact ⟨s,ws,ps,r,q,p,x,y,e,S,hr,hq,hp,NeedN.imp k (fun _ _ _ _ z => z) fun nm p z => hx nm p M z⟩
theorem gP3D.imp {op:Int→Int→(Int→Prop)→Prop} (h:gP3D C D op us M Q X) (hx:∀ nm p M',X nm p M'→X' nm p M'):gP3D C D op us M Q X':=by
 obtain ⟨s,ws,ps,r,q,p,x,y,e,S,hr,hq,hp,k⟩:=h
 exact ⟨s,ws,ps,r,q,p,x,y,e,S,hr,hq,hp,NeedD.imp k (fun _ _ _ _ _ z => z) fun nm p z => hx nm p M z⟩
theorem gPBelow.imp (h:gPBelow C D us M Q X) (hx:∀ nm p M',X nm p M'→X' nm p M'):gPBelow C D us M Q X':=by
 obtain ⟨s,ws,ps,q,p,x,y,e,S,hq,hp,k⟩:=h
 exact ⟨s,ws,ps,q,p,x,y,e,S,hq,hp,NeedN.imp k (fun _ _ _ _ z => z) fun nm p z => hx nm p M z⟩
theorem gPGet.imp {f:Wt × Wt→Wt} (h:gPGet C D f us M Q X) (hx:∀ nm p M',X nm p M'→X' nm p M'):gPGet C D f us M Q X':=by
 obtain ⟨s,ws,ps,r,q,x,e,S,hr,hq,k⟩:=h
 exact ⟨s,ws,ps,r,q,x,e,S,hr,hq,NeedP.imp k (fun _ _ z => z) fun nm p z => hx nm p M z⟩
theorem gPSet.imp {f:Wt × Wt→Wt→Wt × Wt} (h:gPSet C D f us M Q X) (hx:∀ nm p M',X nm p M'→X' nm p M'):gPSet C D f us M Q X':=by
 obtain ⟨s,ws,ps,q,p,x,y,e,S,hq,hp,k⟩:=h
 exact ⟨s,ws,ps,q,p,x,y,e,S,hq,hp,NeedP.imp k (fun _ _ z => z) fun nm p z => hx nm p M z⟩
end
abbrev xi:Stmt:=top 21
theorem scDeedDone:FnScope ["store", "deed", "word"] ["store", "deed"] (qc xi):=⟨rfl,rfl,rfl,by decide +kernel,rfl,by decide +kernel,by decide +kernel⟩
def js (C D:Addr):List U→MM→UK→UX→Prop:=fun us M Q X => ∃ (k:Nat) (ds:List T),us = [.m k, .p (.tup ds)]∧Out C D ds k M Q X
theorem Qn {C D:Addr} {f:Addr} {fd:FuncData} (F:Fun K "_law_deed_done" "_law_deed_done" xi f fd) (N:Nms mg) (TPs:Cls K C)
  (MPsNumber:MD P w K mg base C "number" 1 ["r", "n"] (Ve C D)) (MPsSign:MD P w K mg base C "sign" 1 ["r", "k"] (ZK C D)) (MPsOne:MD P w K mg base C "one" 1 ["r", "text"] (Ve C D)) (MPsCopy:MD P w K mg base C "copy" 1 ["r", "q"] (ZN C D))
  (MPsPlus:MX P w K mg base C "plus" 5 ["r", "q", "p"] (gP3 C D oPlus)) (MPsLess:MX P w K mg base C "less" 5 ["r", "q", "p"] (gP3 C D oLess)) (MPsTimes:MX P w K mg base C "times" 5 ["r", "q", "p"] (gP3 C D Zu)) (MPsOver:MX P w K mg base C "over" 5 ["r", "q", "p"] (gP3D C D oOver)) (MPsRest:MX P w K mg base C "rest" 5 ["r", "q", "p"] (gP3D C D oRest)) (MPsPair:MD P w K mg base C "pair" 3 ["r", "q", "p"] (ZM C D))
  (MPsFirst:MX P w K mg base C "first" 5 ["r", "q"] (gPGet C D Prod.fst)) (MPsSecond:MX P w K mg base C "second" 5 ["r", "q"] (gPGet C D Prod.snd)) (MPsSetFirst:MX P w K mg base C "set_first" 5 ["q", "p"] (gPSet C D putL)) (MPsSetSecond:MX P w K mg base C "set_second" 5 ["q", "p"] (gPSet C D putR)) (MPsBelow:MX P w K mg base C "below" 5 ["q", "p"] (gPBelow C D))
  (MPsSame:MD P w K mg base C "same" 1 ["q", "p"] (ZL C D)) (MPsKind:MD P w K mg base C "kind" 2 ["q"] (kU C D)) (MPsTold:MD P w K mg base C "told" 2 ["q"] (Vd C D)):FnOk P w K mg base (CXe P w) 6 f fd ["store", "deed"] (spX mg (js C D)):=by
 refine F.zX scDeedDone (fun us M Qu Xu h => ?_) (fun cdv A outer s H E hr => ?_)
 ·obtain ⟨_,_,rfl,_⟩:=h
  rfl
 refine ⟨_,(qR (xq (vq (i:=2) scDeedDone.nd rfl (Or.inl rfl) (qr (qt (K:=K) rfl) (qv 1) qe (fun _ _ => rfl))))
  (qR (xq (vz (qu op_eq (qv 2) ql (qC _))
   (qk (qF (zF MPsNumber TPs (qv 0) (hr.mono (by first | decide | exact Nat.le_refl _)) (qa_c (qr (qt (K:=K) rfl) (qv 1) qe (fun _ _ => rfl)) (qa_c (qr (qt (K:=K) rfl) (qv 1) qe (fun _ _ => rfl)) qd)))))
   qG))
  (qR (xq (vz (qu op_eq (qv 2) ql (qC _))
   (qk (qF (zF MPsSign TPs (qv 0) (hr.mono (by first | decide | exact Nat.le_refl _)) (qa_c (qr (qt (K:=K) rfl) (qv 1) qe (fun _ _ => rfl)) (qa_c (qr (qt (K:=K) rfl) (qv 1) qe (fun _ _ => rfl)) qd)))))
   qG))
  (qR (xq (vz (qu op_eq (qv 2) ql (qC _))
   (qk (qF (zF MPsOne TPs (qv 0) (hr.mono (by first | decide | exact Nat.le_refl _)) (qa_c (qr (qt (K:=K) rfl) (qv 1) qe (fun _ _ => rfl)) (qa_c (qr (qt (K:=K) rfl) (qv 1) qe (fun _ _ => rfl)) qd)))))
   qG))
  (qR (xq (vz (qu op_eq (qv 2) ql (qC _))
   (qk (qF (zF MPsCopy TPs (qv 0) (hr.mono (by first | decide | exact Nat.le_refl _)) (qa_c (qr (qt (K:=K) rfl) (qv 1) qe (fun _ _ => rfl)) (qa_c (qr (qt (K:=K) rfl) (qv 1) qe (fun _ _ => rfl)) qd)))))
   qG))
  (qR (jg (qu op_eq (qv 2) ql (qC _))
   (qZ (xQ (zk (qv 0) TPs MPsPlus (hr.mono (by first | decide | exact Nat.le_refl _)) (qa_c (qr (qt (K:=K) rfl) (qv 1) qe (fun _ _ => rfl)) (qa_c (qr (qt (K:=K) rfl) (qv 1) qe (fun _ _ => rfl)) (qa_c (qr (qt (K:=K) rfl) (qv 1) qe (fun _ _ => rfl)) qd))))))
   zj)
  (qR (jg (qu op_eq (qv 2) ql (qC _))
   (qZ (xQ (zk (qv 0) TPs MPsLess (hr.mono (by first | decide | exact Nat.le_refl _)) (qa_c (qr (qt (K:=K) rfl) (qv 1) qe (fun _ _ => rfl)) (qa_c (qr (qt (K:=K) rfl) (qv 1) qe (fun _ _ => rfl)) (qa_c (qr (qt (K:=K) rfl) (qv 1) qe (fun _ _ => rfl)) qd))))))
   zj)
  (qR (jg (qu op_eq (qv 2) ql (qC _))
   (qZ (xQ (zk (qv 0) TPs MPsTimes (hr.mono (by first | decide | exact Nat.le_refl _)) (qa_c (qr (qt (K:=K) rfl) (qv 1) qe (fun _ _ => rfl)) (qa_c (qr (qt (K:=K) rfl) (qv 1) qe (fun _ _ => rfl)) (qa_c (qr (qt (K:=K) rfl) (qv 1) qe (fun _ _ => rfl)) qd))))))
   zj)
  (qR (jg (qu op_eq (qv 2) ql (qC _))
   (qZ (xQ (zk (qv 0) TPs MPsOver (hr.mono (by first | decide | exact Nat.le_refl _)) (qa_c (qr (qt (K:=K) rfl) (qv 1) qe (fun _ _ => rfl)) (qa_c (qr (qt (K:=K) rfl) (qv 1) qe (fun _ _ => rfl)) (qa_c (qr (qt (K:=K) rfl) (qv 1) qe (fun _ _ => rfl)) qd))))))
   zj)
  (qR (jg (qu op_eq (qv 2) ql (qC _))
   (qZ (xQ (zk (qv 0) TPs MPsRest (hr.mono (by first | decide | exact Nat.le_refl _)) (qa_c (qr (qt (K:=K) rfl) (qv 1) qe (fun _ _ => rfl)) (qa_c (qr (qt (K:=K) rfl) (qv 1) qe (fun _ _ => rfl)) (qa_c (qr (qt (K:=K) rfl) (qv 1) qe (fun _ _ => rfl)) qd))))))
   zj)
  (qR (xq (vz (qu op_eq (qv 2) ql (qC _))
   (qk (qF (zF MPsPair TPs (qv 0) (hr.mono (by first | decide | exact Nat.le_refl _)) (qa_c (qr (qt (K:=K) rfl) (qv 1) qe (fun _ _ => rfl)) (qa_c (qr (qt (K:=K) rfl) (qv 1) qe (fun _ _ => rfl)) (qa_c (qr (qt (K:=K) rfl) (qv 1) qe (fun _ _ => rfl)) qd))))))
   qG))
  (qR (jg (qu op_eq (qv 2) ql (qC _))
   (qZ (xQ (zk (qv 0) TPs MPsFirst (hr.mono (by first | decide | exact Nat.le_refl _)) (qa_c (qr (qt (K:=K) rfl) (qv 1) qe (fun _ _ => rfl)) (qa_c (qr (qt (K:=K) rfl) (qv 1) qe (fun _ _ => rfl)) qd)))))
   zj)
  (qR (jg (qu op_eq (qv 2) ql (qC _))
   (qZ (xQ (zk (qv 0) TPs MPsSecond (hr.mono (by first | decide | exact Nat.le_refl _)) (qa_c (qr (qt (K:=K) rfl) (qv 1) qe (fun _ _ => rfl)) (qa_c (qr (qt (K:=K) rfl) (qv 1) qe (fun _ _ => rfl)) qd)))))
   zj)
  (qR (jg (qu op_eq (qv 2) ql (qC _))
   (qZ (xQ (zk (qv 0) TPs MPsSetFirst (hr.mono (by first | decide | exact Nat.le_refl _)) (qa_c (qr (qt (K:=K) rfl) (qv 1) qe (fun _ _ => rfl)) (qa_c (qr (qt (K:=K) rfl) (qv 1) qe (fun _ _ => rfl)) qd)))))
   zj)
  (qR (jg (qu op_eq (qv 2) ql (qC _))
   (qZ (xQ (zk (qv 0) TPs MPsSetSecond (hr.mono (by first | decide | exact Nat.le_refl _)) (qa_c (qr (qt (K:=K) rfl) (qv 1) qe (fun _ _ => rfl)) (qa_c (qr (qt (K:=K) rfl) (qv 1) qe (fun _ _ => rfl)) qd)))))
   zj)
  (qR (jg (qu op_eq (qv 2) ql (qC _))
   (qZ (xQ (zk (qv 0) TPs MPsBelow (hr.mono (by first | decide | exact Nat.le_refl _)) (qa_c (qr (qt (K:=K) rfl) (qv 1) qe (fun _ _ => rfl)) (qa_c (qr (qt (K:=K) rfl) (qv 1) qe (fun _ _ => rfl)) qd)))))
   zj)
  (qR (xq (vz (qu op_eq (qv 2) ql (qC _))
   (qk (qF (zF MPsSame TPs (qv 0) (hr.mono (by first | decide | exact Nat.le_refl _)) (qa_c (qr (qt (K:=K) rfl) (qv 1) qe (fun _ _ => rfl)) (qa_c (qr (qt (K:=K) rfl) (qv 1) qe (fun _ _ => rfl)) qd)))))
   qG))
  (qZ (xq (qF (xl (qu op_eq (qv 2) ql (qC _)) (zF MPsKind TPs (qv 0) (hr.mono (by first | decide | exact Nat.le_refl _)) (qa_c (qr (qt (K:=K) rfl) (qv 1) qe (fun _ _ => rfl)) qd)) (zF MPsTold TPs (qv 0) (hr.mono (by first | decide | exact Nat.le_refl _)) (qa_c (qr (qt (K:=K) rfl) (qv 1) qe (fun _ _ => rfl)) qd))))))))))))))))))))))),_,(qo (qQ (qD (qb 1) (ce_c (.int _))) (qX 2))
   (qo (vi (qw (qE ve (qb 2) (ce_c (.str _))))
   (qM (zI (qb 0) (qa (qD (qb 1) (ce_c (.int _))) (qa (qD (qb 1) (ce_c (.int _))) qf))))
   qB)
   (qo (vi (qw (qE ve (qb 2) (ce_c (.str _))))
   (qM (zI (qb 0) (qa (qD (qb 1) (ce_c (.int _))) (qa (qD (qb 1) (ce_c (.int _))) qf))))
   qB)
   (qo (vi (qw (qE ve (qb 2) (ce_c (.str _))))
   (qM (zI (qb 0) (qa (qD (qb 1) (ce_c (.int _))) (qa (qD (qb 1) (ce_c (.int _))) qf))))
   qB)
   (qo (vi (qw (qE ve (qb 2) (ce_c (.str _))))
   (qM (zI (qb 0) (qa (qD (qb 1) (ce_c (.int _))) (qa (qD (qb 1) (ce_c (.int _))) qf))))
   qB)
   (qo (vi (qw (qE ve (qb 2) (ce_c (.str _))))
   (z0 (zn (qb 0) (qa (qD (qb 1) (ce_c (.int _))) (qa (qD (qb 1) (ce_c (.int _))) (qa (qD (qb 1) (ce_c (.int _))) qf)))))
   qB)
   (qo (vi (qw (qE ve (qb 2) (ce_c (.str _))))
   (z0 (zn (qb 0) (qa (qD (qb 1) (ce_c (.int _))) (qa (qD (qb 1) (ce_c (.int _))) (qa (qD (qb 1) (ce_c (.int _))) qf)))))
   qB)
   (qo (vi (qw (qE ve (qb 2) (ce_c (.str _))))
   (z0 (zn (qb 0) (qa (qD (qb 1) (ce_c (.int _))) (qa (qD (qb 1) (ce_c (.int _))) (qa (qD (qb 1) (ce_c (.int _))) qf)))))
   qB)
   (qo (vi (qw (qE ve (qb 2) (ce_c (.str _))))
   (z0 (zn (qb 0) (qa (qD (qb 1) (ce_c (.int _))) (qa (qD (qb 1) (ce_c (.int _))) (qa (qD (qb 1) (ce_c (.int _))) qf)))))
   qB)
   (qo (vi (qw (qE ve (qb 2) (ce_c (.str _))))
   (z0 (zn (qb 0) (qa (qD (qb 1) (ce_c (.int _))) (qa (qD (qb 1) (ce_c (.int _))) (qa (qD (qb 1) (ce_c (.int _))) qf)))))
   qB)
   (qo (vi (qw (qE ve (qb 2) (ce_c (.str _))))
   (qM (zI (qb 0) (qa (qD (qb 1) (ce_c (.int _))) (qa (qD (qb 1) (ce_c (.int _))) (qa (qD (qb 1) (ce_c (.int _))) qf)))))
   qB)
   (qo (vi (qw (qE ve (qb 2) (ce_c (.str _))))
   (z0 (zn (qb 0) (qa (qD (qb 1) (ce_c (.int _))) (qa (qD (qb 1) (ce_c (.int _))) qf))))
   qB)
   (qo (vi (qw (qE ve (qb 2) (ce_c (.str _))))
   (z0 (zn (qb 0) (qa (qD (qb 1) (ce_c (.int _))) (qa (qD (qb 1) (ce_c (.int _))) qf))))
   qB)
   (qo (vi (qw (qE ve (qb 2) (ce_c (.str _))))
   (z0 (zn (qb 0) (qa (qD (qb 1) (ce_c (.int _))) (qa (qD (qb 1) (ce_c (.int _))) qf))))
   qB)
   (qo (vi (qw (qE ve (qb 2) (ce_c (.str _))))
   (z0 (zn (qb 0) (qa (qD (qb 1) (ce_c (.int _))) (qa (qD (qb 1) (ce_c (.int _))) qf))))
   qB)
   (qo (vi (qw (qE ve (qb 2) (ce_c (.str _))))
   (z0 (zn (qb 0) (qa (qD (qb 1) (ce_c (.int _))) (qa (qD (qb 1) (ce_c (.int _))) qf))))
   qB)
   (qo (vi (qw (qE ve (qb 2) (ce_c (.str _))))
   (qM (zI (qb 0) (qa (qD (qb 1) (ce_c (.int _))) (qa (qD (qb 1) (ce_c (.int _))) qf))))
   qB)
   (qM (Zb (qw (qE ve (qb 2) (ce_c (.str _)))) (zI (qb 0) (qa (qD (qb 1) (ce_c (.int _))) qf)) (zI (qb 0) (qa (qD (qb 1) (ce_c (.int _))) qf))))))))))))))))))))),fun us M Qu Xu h => ?_⟩
 obtain ⟨k,ds,rfl,h⟩:=h
 have hS:∃ (s:Nm) (ws:List Wt) (ps:WW),k = s 0∧Sto C D M s ws ps:=by
  obtain ⟨s,ws,ps,e,S,_⟩:=h
  exact ⟨s,ws,ps,e,S⟩
 have hc:=h.call
 clear h
 obtain ⟨s,ws,ps,rfl,S⟩:=hS
 cases hc with
 | number a b h =>
  walk_at "pk"
  refine mS S (by decide) ?_
  walk_at "pk"
  exact h
 | sign a b h =>
  walk_at "pk"
  refine mS S (by decide) ?_
  walk_at "pk"
  exact h
 | one a b h =>
  walk_at "pk"
  refine mS S (by decide) ?_
  walk_at "pk"
  exact h
 | copy a b h =>
  walk_at "pk"
  refine mS S (by decide) ?_
  walk_at "pk"
  exact h
 | pair a b c h =>
  walk_at "pk"
  refine mS S (by decide) ?_
  walk_at "pk"
  exact h
 | same a b h =>
  walk_at "pk"
  refine mS S (by decide) ?_
  walk_at "pk"
  exact h
 | kind a h =>
  walk_at "pk"
  refine mS S (by decide) ?_
  walk_at "pk"
  exact h
 | told a h =>
  walk_at "pk"
  refine mS S (by decide) ?_
  walk_at "pk"
  exact h
 | plus a b c h =>
  walk_at "pk"
  refine mS S (by decide) ?_
  walk_at "pk"
  exact h.imp fun nm p M' q => ⟨_,_,_,rfl,rfl,q⟩
 | less a b c h =>
  walk_at "pk"
  refine mS S (by decide) ?_
  walk_at "pk"
  exact h.imp fun nm p M' q => ⟨_,_,_,rfl,rfl,q⟩
 | times a b c h =>
  walk_at "pk"
  refine mS S (by decide) ?_
  walk_at "pk"
  exact h.imp fun nm p M' q => ⟨_,_,_,rfl,rfl,q⟩
 | over a b c h =>
  walk_at "pk"
  refine mS S (by decide) ?_
  walk_at "pk"
  exact h.imp fun nm p M' q => ⟨_,_,_,rfl,rfl,q⟩
 | rest a b c h =>
  walk_at "pk"
  refine mS S (by decide) ?_
  walk_at "pk"
  exact h.imp fun nm p M' q => ⟨_,_,_,rfl,rfl,q⟩
 | first a b h =>
  walk_at "pk"
  refine mS S (by decide) ?_
  walk_at "pk"
  exact h.imp fun nm p M' q => ⟨_,_,_,rfl,rfl,q⟩
 | second a b h =>
  walk_at "pk"
  refine mS S (by decide) ?_
  walk_at "pk"
  exact h.imp fun nm p M' q => ⟨_,_,_,rfl,rfl,q⟩
 | setL a b h =>
  walk_at "pk"
  refine mS S (by decide) ?_
  walk_at "pk"
  exact h.imp fun nm p M' q => ⟨_,_,_,rfl,rfl,q⟩
 | setR a b h =>
  walk_at "pk"
  refine mS S (by decide) ?_
  walk_at "pk"
  exact h.imp fun nm p M' q => ⟨_,_,_,rfl,rfl,q⟩
 | below a b h =>
  walk_at "pk"
  refine mS S (by decide) ?_
  walk_at "pk"
  exact h.imp fun nm p M' q => ⟨_,_,_,rfl,rfl,q⟩
abbrev Xj:Stmt:=top 22
theorem scDone:FnScope ["store", "deed", "word", "value", "e"] ["store", "deed"] (qc Xj):=⟨rfl,rfl,rfl,by decide +kernel,rfl,by decide +kernel,by decide +kernel⟩
def gDone (C D:Addr):List U→MM→UK→Prop:=fun us M Q => ∃ (k:Nat) (ds:List T),us = [.m k, .p (.tup ds)]∧Out C D ds k M (fun u M' => ∃ t,u = .p t∧Q (.p (.tup [.str "", t])) M') fun nm p M' => Q (.p (.tup [.str nm,pT p])) M'
theorem Out.imp {C D:Addr} {ds:List T} {k:Nat} {M:MM} {Q Q':UK} {X X':UX} (h:Out C D ds k M Q X) (hq:∀ u M',Q u M'→Q' u M') (hx:∀ p M',X "WrongKind" (some p) M'→X' "WrongKind" (some p) M') (hn:∀ M',X "Nought" none M'→X' "Nought" none M'):Out C D ds k M Q' X':=by
 obtain ⟨s,ws,ps,e,S,h⟩:=h
 refine ⟨s,ws,ps,e,S, ?_⟩
 rcases h with ⟨ws',ps',hd,q⟩ | ⟨ans,hd,q⟩ | ⟨nm,pp,hd,q⟩ | ⟨pp,hd,q⟩
 ·exact .inl ⟨ws',ps',hd,fun M' s' a b => hq _ _ (q M' s' a b)⟩
 ·exact .inr (.inl ⟨ans,hd,hq _ _ q⟩)
 ·refine .inr (.inr (.inl ⟨nm,pp,hd, ?_⟩))
  cases hd <;> first | exact hx _ _ q | exact hn _ q
 ·exact .inr (.inr (.inr ⟨pp,hd,hx _ _ q⟩))
theorem ok_doneU {C D CN CW g:Addr} {f:Addr} {fd:FuncData} (F:Fun K "_law_done" "_law_done" Xj f fd) (N:Nms mg) (ONought:ExcC K mg "Nought" CN) (CWk:ExcK K CW g) (AWk:NoAttr K CW "part") (BWk:mg "WrongKind" = some (.ref CW)) (BNought:mg "Nought" = some (.ref CN)) (EWk_Wk:PySem.W.exmOne K (.ref CW) (.ref CW) = some true) (ENought_Wk:PySem.W.exmOne K (.ref CN) (.ref CW) = some false) (ENought_Nought:PySem.W.exmOne K (.ref CN) (.ref CN) = some true)
  (DDeedDone:DefX P w K mg base "_law_deed_done" 6 ["store", "deed"] (spX mg (js C D))):FnOk P w K mg base CX0 7 f fd ["store", "deed"] (spU (gDone C D)):=by
 refine F.zU scDone (fun us M Qu h => ?_) (fun cdv A outer s H E hr => ?_)
 ·obtain ⟨_,_,rfl,_⟩:=h
  rfl
 refine ⟨_,(qh (vq (i:=2) scDone.nd rfl (Or.inl rfl) ql)
  (qh (vq (i:=3) scDone.nd rfl (Or.inl rfl) kQ)
  (qh (qs_try (l:=[("WrongKind", _),("Nought", _)]) ⟨rfl,rfl,rfl,rfl⟩ (fun _ _ =>
   (qZ (Jk (i:=3) scDone.nd rfl (Or.inl rfl) (zW DDeedDone (hr.mono (by first | decide | exact Nat.le_refl _)) (qa_c (qv 0) (qa_c (qv 1) qd))))))
   (Qw BWk (fun _ => (qh_as (i:=4) (j:=2) (k:=3) ⟨rfl,rfl,rfl,rfl⟩ CWk AWk BWk EWk_Wk scDone.nd rfl rfl rfl (by decide) (by decide) rfl rfl rfl)) (Qw BNought (fun _ => (Jo BWk ENought_Wk (qh_hit ONought.b ENought_Nought (fun _ => (qk (vq (i:=2) scDone.nd rfl (Or.inl rfl) ql)))))) hh_nil)))
  (qk (qF (vg (qa_c (qv 2) (qa_c (qv 3) qd)))))))),_,(qo (qQ (ce_c (.str _)) (qX 2))
   (qo (qQ (ce_c .non) (qX 3))
   (qo (cs_try (V8 (zZ (qa (qb 0) (qa (qb 1) qf)))) (Qd (fun _ => cs_as) (Qd (fun _ => (qQ (ce_c (.str _)) (qX 2))) zh_nil)))
   (qM (vm (qa (qb 2) (qa (qb 3) qf))))))),fun us M Qu h => ?_⟩
 obtain ⟨k,ds,rfl,h⟩:=h
 walk_at "pk"
 refine ⟨k,ds,rfl,h.imp (fun u M' ⟨t,e,q⟩ => ?_) (fun p M' q => ?_) fun M' q => ?_⟩
 ·subst e
  walk_at "pk"
  exact q
 ·refine ⟨_,_,_,_,rfl,rfl,rfl,_,rfl, ?_⟩
  walk_at "pk"
  exact q
 ·refine ⟨_,_,_,_,rfl,rfl,rfl, ?_⟩
  walk_at "pk"
  exact q
theorem zT {a b:T} {x:V} {ts:List T} {ys:List V} {Q:T→Prop} (b0:Bool) (h1:vt a = some x) (h2:seqT b = some ts) (h3:vts ts = some ys) (h4:inV x ys = b0) (q:Q (.bl b0)):sIn false a b Q:=⟨x,ts,ys,h1,h2,h3,by rw [h4]; exact q⟩
local macro_rules | `(tactic| walk_at "pk") => `(tactic| (walk_at "v"; repeat ((first | refine zS (by decide) ?_ | refine vQ rfl ?_ | refine zT false rfl rfl rfl (by decide) ?_ | refine zT true rfl rfl rfl (by decide) ?_); walk_at "v")))
def ol (ws:List Wt):MO:=.lst (ws.map fun x => U.p (tO x))
def pl (x:Wt × Wt):MO:=.lst [.p (tO x.1), .p (tO x.2)]
def cl (o:Nm) (n:Nat):MO:=.lst ((List.range n).map fun i => U.m (o (i + 3)))
structure Own (M:MM) (o:Nm) (ws:List Wt) (ps:WW):Prop where
 o0:M[o 0]? = some (.lst [.m (o 1), .m (o 2)])
 b:M[o 1]? = some (ol ws)
 c:M[o 2]? = some (cl o ps.length)
 p:∀ (i:Nat) x,ps[i]? = some x→M[o (i + 3)]? = some (pl x)
 n:ws.length = 8
 inj:∀ i j,i < ps.length + 3→j < ps.length + 3→o i = o j→i = j
 ww:∀ x ∈ ws,okW ps.length x
 wp:∀ x ∈ ps,okW ps.length x.1∧okW ps.length x.2
section
variable {M:MM} {o:Nm} {ws:List Wt} {ps:WW} {x y:Wt} {r q p i n:Nat} {Q:UK}
theorem Own.wq (S:Own M o ws ps) (h:ws[q]? = some x):okW ps.length x:=S.ww x (List.mem_of_getElem? h)
theorem Own.wi (S:Own M o ws ps) {x:Wt × Wt} (h:ps[i]? = some x):okW ps.length x.1∧okW ps.length x.2:=S.wp x (List.mem_of_getElem? h)
theorem Own.put (S:Own M o ws ps) (hx:okW ps.length x):Own (M.set (o 1) (ol (ws.set r x))) o (ws.set r x) ps :=
 ⟨by rw [List.getElem?_set_ne fun z => by have:=S.inj 1 0 (by omega) (by omega) z; omega]; exact S.o0,
   List.getElem?_set_self (List.getElem?_eq_some_iff.mp S.b).1,
   by rw [List.getElem?_set_ne fun z => by have:=S.inj 1 2 (by omega) (by omega) z; omega]; exact S.c,
   fun i x hi => by
  have:=(List.getElem?_eq_some_iff.mp hi).1
  rw [List.getElem?_set_ne fun z => by have:=S.inj 1 (i + 3) (by omega) (by omega) z; omega]; exact S.p i x hi,
   by rw [List.length_set]; exact S.n,S.inj,zY S.ww hx,S.wp⟩
theorem Own.setp (S:Own M o ws ps) {x:Wt × Wt} (hi:i < ps.length) (hx:okW ps.length x.1∧okW ps.length x.2):Own (M.set (o (i + 3)) (pl x)) o ws (ps.set i x):=by
 have hm:=(List.getElem?_eq_some_iff.mp (S.p i _ (List.getElem?_eq_getElem hi))).1
 refine ⟨?_, ?_, ?_,fun j y hj => ?_,S.n,by rw [List.length_set]; exact S.inj,by rw [List.length_set]; exact S.ww,by rw [List.length_set]; exact zY S.wp hx⟩
 ·rw [List.getElem?_set_ne fun z => by have:=S.inj (i + 3) 0 (by omega) (by omega) z; omega]; exact S.o0
 ·rw [List.getElem?_set_ne fun z => by have:=S.inj (i + 3) 1 (by omega) (by omega) z; omega]; exact S.b
 ·rw [List.length_set,List.getElem?_set_ne fun z => by have:=S.inj (i + 3) 2 (by omega) (by omega) z; omega]; exact S.c
 ·have hj2:=(List.getElem?_eq_some_iff.mp hj).1
  rw [List.length_set] at hj2
  by_cases e:i = j
  ·subst e
   rw [List.getElem?_set_self hj2] at hj
   cases hj
   exact List.getElem?_set_self hm
  ·rw [List.getElem?_set_ne e] at hj
   rw [List.getElem?_set_ne fun z => by have:=S.inj (i + 3) (j + 3) (by omega) (by omega) z; omega]
   exact S.p j y hj
theorem Own.lt (S:Own M o ws ps) (hi:i < ps.length + 3):o i < M.length:=by
 match i,hi with
 | 0,_ => exact (List.getElem?_eq_some_iff.mp S.o0).1
 | 1,_ => exact (List.getElem?_eq_some_iff.mp S.b).1
 | 2,_ => exact (List.getElem?_eq_some_iff.mp S.c).1
 | i + 3,hi => exact (List.getElem?_eq_some_iff.mp (S.p i _ (List.getElem?_eq_getElem (show i < ps.length by omega)))).1
theorem cl_new {k:Nat}:cl (zH o (n + 3) k) (n + 1) = .lst (((List.range n).map fun i => U.m (o (i + 3))) ++ [.m k]):=by
 unfold cl
 rw [List.range_succ,List.map_append]
 have e:(List.range n).map (fun i => U.m (zH o (n + 3) k (i + 3))) = (List.range n).map fun i => U.m (o (i + 3)):=List.map_congr_left fun i hi => by
  have:=List.mem_range.mp hi
  rw [zl (by omega)]
 rw [e]
 show MO.lst (_ ++ [U.m (zH o (n + 3) k (n + 3))]) = _
 rw [xR]
theorem Own.new (S:Own M o ws ps) {x:Wt × Wt} (hx:okW ps.length x.1∧okW ps.length x.2) :
  Own (((M ++ [pl x]).set (o 2) (cl (zH o (ps.length + 3) M.length) (ps.length + 1))).set (o 1) (ol (ws.set r (.pr ps.length)))) (zH o (ps.length + 3) M.length) (ws.set r (.pr ps.length)) (ps ++ [x]) ∧
  Go M (((M ++ [pl x]).set (o 2) (cl (zH o (ps.length + 3) M.length) (ps.length + 1))).set (o 1) (ol (ws.set r (.pr ps.length)))) o (zH o (ps.length + 3) M.length) (ps.length + 3) ((ps ++ [x]).length + 3):=by
 have h0:=S.lt (i:=0) (by omega)
 have h1:=S.lt (i:=1) (by omega)
 have h2:=S.lt (i:=2) (by omega)
 have e0:zH o (ps.length + 3) M.length 0 = o 0:=zl (by omega)
 have e1:zH o (ps.length + 3) M.length 1 = o 1:=zl (by omega)
 have e2:zH o (ps.length + 3) M.length 2 = o 2:=zl (by omega)
 have el:(ps ++ [x]).length = ps.length + 1:=by rw [List.length_append]; rfl
 have ne:∀ i j,i≠j→i < ps.length + 3→j < ps.length + 3→o i≠o j:=fun i j a b c z => a (S.inj i j b c z)
 refine ⟨⟨?_, ?_, ?_,fun j y hj => ?_,by rw [List.length_set]; exact S.n,fun i j hi hj z => ?_, ?_, ?_⟩,⟨?_,fun k hk h => ?_,fun i hi => ?_,e0⟩⟩
 ·rw [e0,e1,e2,List.getElem?_set_ne (ne 1 0 (by omega) (by omega) (by omega)),List.getElem?_set_ne (ne 2 0 (by omega) (by omega) (by omega)),xn h0]; exact S.o0
 ·rw [e1,List.getElem?_set_self (by rw [List.length_set,List.length_append]; omega)]
 ·rw [e2,el,List.getElem?_set_ne (ne 1 2 (by omega) (by omega) (by omega)),List.getElem?_set_self (by rw [List.length_append]; omega)]
 ·by_cases hj2:j < ps.length
  ·rw [List.getElem?_append_left hj2] at hj
   rw [zl (by omega),List.getElem?_set_ne (ne 1 (j + 3) (by omega) (by omega) (by omega)),List.getElem?_set_ne (ne 2 (j + 3) (by omega) (by omega) (by omega)),xn (S.lt (by omega)),S.p j y hj]
  ·have hj3:=(List.getElem?_eq_some_iff.mp hj).1
   have:j = ps.length:=by omega
   subst this
   rw [vF] at hj
   cases hj
   rw [xR,List.getElem?_set_ne (by omega),List.getElem?_set_ne (by omega),vF]
 ·rw [el] at hi hj
  by_cases a:i = ps.length + 3 <;> by_cases b:j = ps.length + 3
  ·omega
  ·subst a
   rw [xR,zl b] at z
   have:=S.lt (i:=j) (by omega)
   omega
  ·subst b
   rw [xR,zl a] at z
   have:=S.lt (i:=i) (by omega)
   omega
  ·rw [zl a,zl b] at z
   exact S.inj i j (by omega) (by omega) z
 ·rw [el]
  exact zY (fun y hy => (S.ww y hy).mono (by omega)) (show ps.length < ps.length + 1 by omega)
 ·rw [el]
  intro y hy
  rcases List.mem_append.mp hy with hy | hy
  ·have:=S.wp y hy
   exact ⟨this.1.mono (by omega),this.2.mono (by omega)⟩
  ·cases List.mem_singleton.mp hy
   exact ⟨hx.1.mono (by omega),hx.2.mono (by omega)⟩
 ·rw [List.length_set,List.length_set,List.length_append]; omega
 ·rw [List.getElem?_set_ne (Ne.symm (h 1 (by omega))),List.getElem?_set_ne (Ne.symm (h 2 (by omega))),xn hk]
 ·rw [el] at hi
  by_cases a:i = ps.length + 3
  ·subst a
   exact .inr (by rw [xR]; exact Nat.le_refl _)
  ·exact .inl ⟨i,by omega,zl a⟩
theorem vd (O:Own M o ws ps) (q:Q (.m (o 1)) M):IxS vf M (.m (o 0)) (.p (.int 0)) Q:=j3 (us:=[.m (o 1), .m (o 2)]) (by simp [vf,O.o0]) rfl q
theorem xV (O:Own M o ws ps) (q:Q (.m (o 2)) M):IxS vf M (.m (o 0)) (.p (.int 1)) Q:=j3 (us:=[.m (o 1), .m (o 2)]) (by simp [vf,O.o0]) rfl q
theorem vE {k:Nat} (h:M[k]? = some (ol ws)) (hq:ws[q]? = some x) (qq:Q (.p (tO x)) M):IxS vf M (.m k) (.p (.int (q:Int))) Q :=
 j3 (us:=ws.map fun x => U.p (tO x)) (by simp [vf,h,ol]) (xy (by rw [List.getElem?_map,hq]; rfl)) qq
theorem Z0 {k:Nat} (h:M[k]? = some (cl o n)) (hi:i < n) (qq:Q (.m (o (i + 3))) M):IxS vf M (.m k) (.p (.int (i:Int))) Q :=
 j3 (us:=(List.range n).map fun i => U.m (o (i + 3))) (by simp [vf,h,cl]) (xy (by rw [List.getElem?_map,List.getElem?_range hi]; rfl)) qq
theorem xt {k:Nat} {R:MM→Prop} (h:M[k]? = some (ol ws)) (hr:r < ws.length) (q:R (M.set k (ol (ws.set r x)))):SubS M (.m k) (.p (.int (r:Int))) (.p (tO x)) R:=by
 refine Q1 h (by rw [List.length_map]; exact hr) ?_
 have e:(ws.map fun x => U.p (tO x)).set r (.p (tO x)) = (ws.set r x).map fun x => U.p (tO x):=by rw [List.map_set]
 rw [e]
 exact q
end
abbrev xD:Stmt:=top 25
theorem Jb:FnScope ["worth"] ["worth"] (qc xD):=⟨rfl,rfl,rfl,by decide +kernel,rfl,by decide +kernel,by decide +kernel⟩
def Vf:List T→(T→Prop)→Prop:=fun ts Q => ∃ x:Wt,ts = [tO x]∧Q (.str (vP x))
theorem Q8 {f:Addr} {fd:FuncData} (F:Fun K "_law_own_kind" "_law_own_kind" xD f fd) (N:Nms mg):FnOk P w K mg base CX0 1 f fd ["worth"] (spP Vf):=by
 refine F.zP Jb (fun ts Qt h => ?_) (fun cdv A outer s H E hr => ?_)
 ·obtain ⟨_,rfl,_⟩:=h
  rfl
 refine ⟨_,(qh (vz (zQ (qL (vZ (K:=K) rfl) (by rfl) N.isinstance qA (qa_c (qv 0) (qa_c (vM (v:=.ty "int") (by rfl) N.int XJ rfl) qd))))
   (qk (qF ql))
   qG)
  (qh (vz (zQ (qL (vZ (K:=K) rfl) (by rfl) N.isinstance qA (qa_c (qv 0) (qa_c (vM (v:=.ty "str") (by rfl) N.str b_str rfl) qd))))
   (qk (qF ql))
   qG)
  (qk (qF (qr (qt (K:=K) rfl) (qv 0) qe (fun _ _ => rfl)))))),_,(qo (vi (ct_b (ce_isi .int (qb 0)))
   (qM (ce_c (.str _)))
   qB)
   (qo (vi (ct_b (ce_isi .str (qb 0)))
   (qM (ce_c (.str _)))
   qB)
   (qM (qD (qb 0) (ce_c (.int _)))))),fun ts Qt h => ?_⟩
 obtain ⟨x,rfl,q⟩:=h
 cases x <;> (walk_at "v"; simp only [tO]; walk_at "v"; exact q)
abbrev xa:Stmt:=top 20
theorem Xd:FnScope ["word", "a", "b"] ["word", "a", "b"] (qc xa):=⟨rfl,rfl,rfl,by decide +kernel,rfl,by decide +kernel,by decide +kernel⟩
def gReck:List T→(T→Prop)→Prop:=fun ts Q => ∃ (w:Str) (a b:Int),ts = [.str w, .int a, .int b]∧((w = "plus" ∧ Q (.int (a + b)))∨(w = "less" ∧ Q (.int (a - b)))∨(w = "times" ∧ IntMulOk a b∧Q (.int (a * b)))∨(w = "over" ∧ b≠0∧Builtin.divisionGoesByPylong a b = false∧Q (.int (a.fdiv b)))∨(w = "rest" ∧ b≠0∧Q (.int (a.fmod b))))
theorem ok_reckU {f:Addr} {fd:FuncData} (F:Fun K "_law_reckoned" "_law_reckoned" xa f fd) (N:Nms mg):FnOk P w K mg base CX0 1 f fd ["word", "a", "b"] (spP gReck):=by
 refine F.zP Xd (fun ts Qt h => ?_) (fun cdv A outer s H E hr => ?_)
 ·obtain ⟨_,_,_,rfl,_⟩:=h
  rfl
 refine ⟨_,(qh (vz (qu op_eq (qv 0) ql (qC _))
   (qk (qF (vp xm (qv 1) (qv 2))))
   qG)
  (qh (vz (qu op_eq (qv 0) ql (qC _))
   (qk (qF (vp ki (qv 1) (qv 2))))
   qG)
  (qh (vz (qu op_eq (qv 0) ql (qC _))
   (qk (qF (vp Jx (qv 1) (qv 2))))
   qG)
  (qk (qF (xl (qu op_eq (qv 0) ql (qC _)) (vp Zs (qv 1) (qv 2)) (vp Jy (qv 1) (qv 2)))))))),_,(qo (vi (qw (qE ve (qb 0) (ce_c (.str _))))
   (qM (qE (zq fun _ _ => .int _) (qb 1) (qb 2)))
   qB)
   (qo (vi (qw (qE ve (qb 0) (ce_c (.str _))))
   (qM (qE (zq fun _ _ => .int _) (qb 1) (qb 2)))
   qB)
   (qo (vi (qw (qE ve (qb 0) (ce_c (.str _))))
   (qM (qE (jl fun _ _ => .int _) (qb 1) (qb 2)))
   qB)
   (qM (Zb (qw (qE ve (qb 0) (ce_c (.str _)))) (qE (jl fun _ _ => .int _) (qb 1) (qb 2)) (qE (jl fun _ _ => .int _) (qb 1) (qb 2))))))),fun ts Qt h => ?_⟩
 obtain ⟨w,a,b,rfl,h⟩:=h
 rcases h with ⟨rfl,q⟩ | ⟨rfl,q⟩ | ⟨rfl,hm,q⟩ | ⟨rfl,hb,hd,q⟩ | ⟨rfl,hb,q⟩
 ·walk_at "pk"; exact q
 ·walk_at "pk"; exact q
 ·walk_at "pk"; exact ⟨hm,q⟩
 ·walk_at "pk"; exact ⟨⟨hb,hd⟩,q⟩
 ·walk_at "pk"; exact ⟨hb,q⟩
local macro_rules | `(tactic| walk_at "pk") => `(tactic| (walk_at "v"; repeat ((first | refine zS (by decide) ?_ | refine vQ rfl ?_ | refine zT false rfl rfl rfl (by decide) ?_ | refine zT true rfl rfl rfl (by decide) ?_); walk_at "v")))
theorem gReck.imp {ts:List T} {Q Q':T→Prop} (h:gReck ts Q) (hq:∀ t,Q t→Q' t):gReck ts Q':=by
 obtain ⟨w,a,b,e,h⟩:=h
 refine ⟨w,a,b,e, ?_⟩
 rcases h with ⟨e,k⟩ | ⟨e,k⟩ | ⟨e,hm,k⟩ | ⟨e,hb,hd,k⟩ | ⟨e,hb,k⟩
 ·exact .inl ⟨e,hq _ k⟩
 ·exact .inr (.inl ⟨e,hq _ k⟩)
 ·exact .inr (.inr (.inl ⟨e,hm,hq _ k⟩))
 ·exact .inr (.inr (.inr (.inl ⟨e,hb,hd,hq _ k⟩)))
 ·exact .inr (.inr (.inr (.inr ⟨e,hb,hq _ k⟩)))
abbrev zt:Stmt:=top 26
theorem scOwnNumbers:FnScope ["own", "deed", "word", "r", "q", "p", "part", "at", "a", "b"] ["own", "deed"] (qc zt):=⟨rfl,rfl,rfl,by decide +kernel,rfl,by decide +kernel,by decide +kernel⟩
def Z8 (w:Str) (a b:Int) (Z:Prop) (R:Int→Prop):Prop:=((w = "over" ∨ w = "rest")∧b = 0∧Z)∨(five w∧((w = "over" ∨ w = "rest")→b≠0)∧gReck [.str w, .int a, .int b] fun t => ∃ n,t = .int n∧R n)
def VU:List U→MM→UK→Prop:=fun us M Q => ∃ (o:Nm) (ws:List Wt) (ps:WW) (w:Str) (r q p:Nat) (x y:Wt),us = [.m (o 0), .p (.tup [.str w, .int (r:Int), .int (q:Int), .int (p:Int)])]∧five w∧Own M o ws ps∧r < 8∧ws[q]? = some x∧ws[p]? = some y ∧
 NeedN x y (fun a b => Z8 w a b (Q (.p (.tup [.str "Nought", .non])) M) fun n => Q (.p (.tup [.str "", .non])) (M.set (o 1) (ol (ws.set r (.num n))))) fun nm pp => Q (.p (.tup [.str nm,pT pp])) M
theorem VO {f:Addr} {fd:FuncData} (F:Fun K "_law_own_numbers" "_law_own_numbers" zt f fd) (N:Nms mg) (DOwnKind:Def P w K mg base "_law_own_kind" 1 ["worth"] (spP Vf)) (DReckoned:Def P w K mg base "_law_reckoned" 1 ["word", "a", "b"] (spP gReck)):FnOk P w K mg base CX0 2 f fd ["own", "deed"] (spU VU):=by
 refine F.zU scOwnNumbers (fun us M Qu h => ?_) (fun cdv A outer s H E hr => ?_)
 ·obtain ⟨_,_,_,_,_,_,_,_,_,rfl,_⟩:=h
  rfl
 refine ⟨_,(qh (vO (qv 1) (qg_tup rfl (j7 (zw (i:=2) scOwnNumbers.nd rfl (Or.inl rfl)) (j7 (zw (i:=3) scOwnNumbers.nd rfl (Or.inl rfl)) (j7 (zw (i:=4) scOwnNumbers.nd rfl (Or.inl rfl)) (j7 (zw (i:=5) scOwnNumbers.nd rfl (Or.inl rfl)) qgs_nil))))))
  (qh (kP PassesOwn.never rfl (xF (K:=K) rfl (vG (qa_c (vg (qa_c qe (qa_c (qv 4) qd))) (qa_c (vg (qa_c qe (qa_c (qv 5) qd))) qd)))) (qg_t2K (K:=K) (i:=6) (j:=7) rfl scOwnNumbers.nd rfl rfl rfl (Or.inl rfl) (Or.inl rfl) (Or.inl rfl) (Or.inl rfl))
   (qk (vz (qu jP (qU DOwnKind (hr.mono (by first | decide | exact Nat.le_refl _)) (qa_c (qr (qm (K:=K) rfl) (qr (qm (K:=K) rfl) (qv 0) qe (fun _ _ => rfl)) (qv 7) (fun _ _ => rfl)) qd)) ql (qC _))
    (qk (qF (vg (qa_c ql (qa_c (qv 6) qd)))))
    qG)))
  (qh (qs_par (i:=8) (j:=9) rfl scOwnNumbers.nd rfl rfl (by decide) rfl rfl (qa_c (qr (qm (K:=K) rfl) (qr (qm (K:=K) rfl) (qv 0) qe (fun _ _ => rfl)) (qv 4) (fun _ _ => rfl)) (qa_c (qr (qm (K:=K) rfl) (qr (qm (K:=K) rfl) (qv 0) qe (fun _ _ => rfl)) (qv 5) (fun _ _ => rfl)) qd)) rfl)
  (qh (vz (Qk (Zo (qu (kj (K:=K) rfl) (qv 2) (vG (qa_c ql (qa_c ql qd))) (by with_unfolding_all rfl)) (Ql (qu op_eq (qv 9) qe (qC _)))))
   (qk (qF (vg (qa_c ql (qa_c kQ qd)))))
   qG)
  (qh (vO (qU DReckoned (hr.mono (by first | decide | exact Nat.le_refl _)) (qa_c (qv 2) (qa_c (qv 8) (qa_c (qv 9) qd)))) (vR (qr (qm (K:=K) rfl) (qv 0) qe (fun _ _ => rfl)) (qv 3) va))
  (qk (qF (vg (qa_c ql (qa_c kQ qd)))))))))),_,(qo (qQ (qb 1) (cg_name4 2 3 4 5))
   (qo (Vn (QL (v9 (qa (vm (qa (ce_c (.int _)) (qa (qb 4) qf))) (qa (vm (qa (ce_c (.int _)) (qa (qb 5) qf))) qf)))) (Z3 6 7)
   (vi (qw (qE jk (vW (qa (qK (qK (qb 0) (ce_c (.int _))) (qb 7)) qf)) (ce_c (.str _))))
   (qM (vm (qa (ce_c (.str _)) (qa (qb 6) qf))))
   qB))
   (qo (cs_par (qa (qK (qK (qb 0) (ce_c (.int _))) (qb 4)) (qa (qK (qK (qb 0) (ce_c (.int _))) (qb 5)) qf)))
   (qo (vi (Ks (qw (qE kh (qb 2) (v9 (qa (ce_c (.str _)) (qa (ce_c (.str _)) qf))))) (qw (qE ve (qb 9) (ce_c (.int _)))))
   (qM (vm (qa (ce_c (.str _)) (qa (ce_c .non) qf))))
   qB)
   (qo (qQ (vW (qa (qb 2) (qa (qb 8) (qa (qb 9) qf)))) (zp (qK (qb 0) (ce_c (.int _))) (qb 3)))
   (qM (vm (qa (ce_c (.str _)) (qa (ce_c .non) qf))))))))),fun us M Qu h => ?_⟩
 obtain ⟨o,ws,ps,w,r,q,p,x,y,rfl,hw,O,hr8,hx,hy,k⟩:=h
 walk_at "v"
 refine QN (fun j ρ M' => M' = M∧(∃ x6 x7,ρ = [some (.m (o 0)),some (.p (.tup [.str w, .int (r:Int), .int (q:Int), .int (p:Int)])),some (.p (.str w)),some (.p (.int (r:Int))),some (.p (.int (q:Int))),some (.p (.int (p:Int))),x6,x7,none,none])∧(1≤j→∃ a,x = .num a)∧(2≤j→∃ b,y = .num b)) ⟨rfl,⟨_,_,rfl⟩,fun h => by omega,fun h => by omega⟩ ?_ ?_
 ·rintro j t ρ M' ht ⟨rfl,⟨x6,x7,rfl⟩,h1,h2⟩
  match j,ht,h1 with
  | 0,ht,_ =>
   cases ht
   walk_at "v"
   refine vd O ?_
   walk_at "v"
   refine vE O.b hx ?_
   walk_at "v"
   refine ⟨x,rfl, ?_⟩
   cases x with
   | num a =>
    simp only [vP]
    walk_at "pk"
    exact ⟨⟨_,_,rfl⟩,fun _ => ⟨a,rfl⟩,fun h => by omega⟩
   | _ =>
    simp only [vP]
    walk_at "pk"
    exact k
  | 1,ht,h1 =>
   obtain ⟨a,rfl⟩:=h1 (by omega)
   cases ht
   walk_at "v"
   refine vd O ?_
   walk_at "v"
   refine vE O.b hy ?_
   walk_at "v"
   refine ⟨y,rfl, ?_⟩
   cases y with
   | num b =>
    simp only [vP]
    walk_at "pk"
    exact ⟨⟨_,_,rfl⟩,fun _ => ⟨a,rfl⟩,fun _ => ⟨b,rfl⟩⟩
   | _ =>
    simp only [vP]
    walk_at "pk"
    exact k
  | j + 2,ht,_ => simp at ht
 ·rintro ρ M' ⟨rfl,⟨x6,x7,rfl⟩,h1,h2⟩
  obtain ⟨a,rfl⟩:=h1 (by show 1≤2; omega)
  obtain ⟨b,rfl⟩:=h2 (by show 2≤2; omega)
  have k2:Z8 w a b _ _:=k
  clear k
  walk_at "v"
  refine vd O ?_
  walk_at "v"
  refine vE O.b hx ?_
  refine vd O ?_
  walk_at "v"
  refine vE O.b hy ?_
  simp only [tO]
  walk_at "v"
  rcases k2 with ⟨hz,rfl,k⟩ | ⟨_,hnz,k⟩
  ·rcases hz with rfl | rfl <;>
   ·refine zT true rfl rfl rfl (by decide) ?_
    walk_at "pk"
    exact k
  ·have fin:∀ t,(∃ n,t = T.int n∧Qu (.p (.tup [.str "", .non])) (M'.set (o 1) (ol (ws.set r (.num n)))))→SubS M' (.m (o 1)) (.p (.int (r:Int))) (.p t) fun M3 => Qu (.p (.tup [.str "", .non])) M3:=fun t ⟨n,e,k⟩ => by
    subst e
    exact xt (x:=.num n) O.b (by rw [O.n]; exact hr8) k
   rcases hw with rfl | rfl | rfl | rfl | rfl
   iterate 3
    ·refine zT false rfl rfl rfl (by decide) ?_
     walk_at "pk"
     refine gReck.imp k fun t h => ?_
     walk_at "pk"
     refine vd O ?_
     walk_at "pk"
     exact fin t h
   iterate 2
    ·have hb:b≠0:=hnz (by decide)
     refine zT true rfl rfl rfl (by decide) ?_
     walk_at "v"
     refine zS (by simpa using hb) ?_
     walk_at "v"
     refine gReck.imp k fun t h => ?_
     walk_at "pk"
     refine vd O ?_
     walk_at "pk"
     exact fin t h
abbrev kO:Stmt:=top 27
theorem scOwnDo:FnScope ["own", "deed", "word", "some", "q", "thing"] ["own", "deed"] (qc kO):=⟨rfl,rfl,rfl,by decide +kernel,rfl,by decide +kernel,by decide +kernel⟩
def ZO:List U→MM→UK→Prop:=fun us M Q => ∃ (o:Nm) (ws:List Wt) (ps:WW) (ds:List T),us = [.m (o 0), .p (.tup ds)]∧Own M o ws ps∧ps.length < 1000 ∧
 ((∃ ws' ps',DeedDo ws ps ds ws' ps'∧∀ M' o',Own M' o' ws' ps'→Go M M' o o' (ps.length + 3) (ps'.length + 3)→Q (.p (.tup [.str "", .non])) M')∨(∃ nm p,DeedNo ws ds nm p∧Q (.p (.tup [.str nm,pT p])) M))
theorem Xr {f:Addr} {fd:FuncData} (F:Fun K "_law_own_do" "_law_own_do" kO f fd) (N:Nms mg) (DOwnKind:Def P w K mg base "_law_own_kind" 1 ["worth"] (spP Vf)) (DOwnNumbers:Def P w K mg base "_law_own_numbers" 2 ["own", "deed"] (spU VU)):FnOk P w K mg base CX0 3 f fd ["own", "deed"] (spU ZO):=by
 refine F.zU scOwnDo (fun us M Qu h => ?_) (fun cdv A outer s H E hr => ?_)
 ·obtain ⟨_,_,_,_,rfl,_⟩:=h
  rfl
 refine ⟨_,(qh (vq (i:=2) scOwnDo.nd rfl (Or.inl rfl) (qr (qt (K:=K) rfl) (qv 1) qe (fun _ _ => rfl)))
  (qh (vq (i:=3) scOwnDo.nd rfl (Or.inl rfl) (qr (qm (K:=K) rfl) (qv 0) qe (fun _ _ => rfl)))
  (qh (vz (qu (kj (K:=K) rfl) (qv 2) (vG (qa_c ql (qa_c ql (qa_c ql (qa_c ql (qa_c ql qd)))))) (by with_unfolding_all rfl))
   (qk (qF (qU DOwnNumbers (hr.mono (by first | decide | exact Nat.le_refl _)) (qa_c (qv 0) (qa_c (qv 1) qd)))))
   qG)
  (qh (vz (qu (kj (K:=K) rfl) (qv 2) (vG (qa_c ql (qa_c ql qd))) (by with_unfolding_all rfl))
   (qk (vO (qr (qt (K:=K) rfl) (qv 1) qe (fun _ _ => rfl)) (vR (qv 3) (qr (qt (K:=K) rfl) (qv 1) qe (fun _ _ => rfl)) va)))
   qG)
  (qh (vz (qu op_eq (qv 2) ql (qC _))
   (qk (vO (vg (qa_c ql (qa_c (qr (qt (K:=K) rfl) (qv 1) qe (fun _ _ => rfl)) qd))) (vR (qv 3) (qr (qt (K:=K) rfl) (qv 1) qe (fun _ _ => rfl)) va)))
   qG)
  (qh (vz (qu op_eq (qv 2) ql (qC _))
   (qk (vO (qr (qm (K:=K) rfl) (qv 3) (qr (qt (K:=K) rfl) (qv 1) qe (fun _ _ => rfl)) (fun _ _ => rfl)) (vR (qv 3) (qr (qt (K:=K) rfl) (qv 1) qe (fun _ _ => rfl)) va)))
   qG)
  (qh (vz (qu op_eq (qv 2) ql (qC _))
   (qh (VH (qe_lm PySem.F.slot_list_append PySem.F.type_list_append jn (qr (qm (K:=K) rfl) (qv 0) qe (fun _ _ => rfl)) (qa_c (vG (qa_c (qr (qm (K:=K) rfl) (qv 3) (qr (qt (K:=K) rfl) (qv 1) qe (fun _ _ => rfl)) (fun _ _ => rfl)) (qa_c (qr (qm (K:=K) rfl) (qv 3) (qr (qt (K:=K) rfl) (qv 1) qe (fun _ _ => rfl)) (fun _ _ => rfl)) qd))) qd)))
   (qk (vO (vg (qa_c ql (qa_c (vp ki (qL kC (by rfl) N.len XH (qa_c (qr (qm (K:=K) rfl) (qv 0) qe (fun _ _ => rfl)) qd)) qe) qd))) (vR (qv 3) (qr (qt (K:=K) rfl) (qv 1) qe (fun _ _ => rfl)) va))))
   qG)
  (qh (vz (qu (kj (K:=K) rfl) (qv 2) (vG (qa_c ql (qa_c ql (qa_c ql (qa_c ql qd))))) (by with_unfolding_all rfl))
   (qh (vq (i:=4) scOwnDo.nd rfl (Or.inl rfl) (xl (qu (kj (K:=K) rfl) (qv 2) (vG (qa_c ql (qa_c ql qd))) (by with_unfolding_all rfl)) (qr (qt (K:=K) rfl) (qv 1) qe (fun _ _ => rfl)) (qr (qt (K:=K) rfl) (qv 1) qe (fun _ _ => rfl))))
   (qh (vz (qu jP (qU DOwnKind (hr.mono (by first | decide | exact Nat.le_refl _)) (qa_c (qr (qm (K:=K) rfl) (qv 3) (qv 4) (fun _ _ => rfl)) qd)) ql (qC _))
    (qk (qF (vg (qa_c ql (qa_c qe qd)))))
    qG)
   (qh (vq (i:=5) scOwnDo.nd rfl (Or.inl rfl) (qr (qm (K:=K) rfl) (qr (qm (K:=K) rfl) (qv 0) qe (fun _ _ => rfl)) (qr (qt (K:=K) rfl) (qr (qm (K:=K) rfl) (qv 3) (qv 4) (fun _ _ => rfl)) qe (fun _ _ => rfl)) (fun _ _ => rfl)))
   (qk (vz (qu (kj (K:=K) rfl) (qv 2) (vG (qa_c ql (qa_c ql qd))) (by with_unfolding_all rfl))
    (qk (vO (qr (qm (K:=K) rfl) (qv 5) (jj Vt (by rfl) N.int XJ (qa_c (zx op_eq (qv 2) ql (qC _)) qd)) (fun _ _ => rfl)) (vR (qv 3) (qr (qt (K:=K) rfl) (qv 1) qe (fun _ _ => rfl)) va)))
    (qk (vO (qr (qm (K:=K) rfl) (qv 3) (qr (qt (K:=K) rfl) (qv 1) qe (fun _ _ => rfl)) (fun _ _ => rfl)) (vR (qv 5) (jj Vt (by rfl) N.int XJ (qa_c (zx op_eq (qv 2) ql (qC _)) qd)) va))))))))
   qG)
  (qk (qF (vg (qa_c ql (qa_c kQ qd))))))))))))),_,(qo (qQ (qD (qb 1) (ce_c (.int _))) (qX 2))
   (qo (qQ (qK (qb 0) (ce_c (.int _))) (qX 3))
   (qo (vi (qw (qE kh (qb 2) (v9 (qa (ce_c (.str _)) (qa (ce_c (.str _)) (qa (ce_c (.str _)) (qa (ce_c (.str _)) (qa (ce_c (.str _)) qf))))))))
   (qM (qJ (qa (qb 0) (qa (qb 1) qf))))
   qB)
   (qo (vi (qw (qE kh (qb 2) (v9 (qa (ce_c (.str _)) (qa (ce_c (.str _)) qf)))))
   (qQ (qD (qb 1) (ce_c (.int _))) (zp (qb 3) (qD (qb 1) (ce_c (.int _)))))
   qB)
   (qo (vi (qw (qE ve (qb 2) (ce_c (.str _))))
   (qQ (vm (qa (ce_c (.str _)) (qa (qD (qb 1) (ce_c (.int _))) qf))) (zp (qb 3) (qD (qb 1) (ce_c (.int _)))))
   qB)
   (qo (vi (qw (qE ve (qb 2) (ce_c (.str _))))
   (qQ (qK (qb 3) (qD (qb 1) (ce_c (.int _)))) (zp (qb 3) (qD (qb 1) (ce_c (.int _)))))
   qB)
   (qo (vi (qw (qE ve (qb 2) (ce_c (.str _))))
   (qo (V9 (ce_me jQ (qK (qb 0) (ce_c (.int _))) (qa (Qa (qa (qK (qb 3) (qD (qb 1) (ce_c (.int _)))) (qa (qK (qb 3) (qD (qb 1) (ce_c (.int _)))) qf))) qf)))
   (qQ (vm (qa (ce_c (.str _)) (qa (qE (zq fun _ _ => .int _) (ce_len (qa (qK (qb 0) (ce_c (.int _))) qf)) (ce_c (.int _))) qf))) (zp (qb 3) (qD (qb 1) (ce_c (.int _))))))
   qB)
   (qo (vi (qw (qE kh (qb 2) (v9 (qa (ce_c (.str _)) (qa (ce_c (.str _)) (qa (ce_c (.str _)) (qa (ce_c (.str _)) qf)))))))
   (qo (qQ (Zb (qw (qE kh (qb 2) (v9 (qa (ce_c (.str _)) (qa (ce_c (.str _)) qf))))) (qD (qb 1) (ce_c (.int _))) (qD (qb 1) (ce_c (.int _)))) (qX 4))
   (qo (vi (qw (qE jk (vW (qa (qK (qb 3) (qb 4)) qf)) (ce_c (.str _))))
   (qM (vm (qa (ce_c (.str _)) (qa (ce_c (.int _)) qf))))
   qB)
   (qo (qQ (qK (qK (qb 0) (ce_c (.int _))) (qD (qK (qb 3) (qb 4)) (ce_c (.int _)))) (qX 5))
   (vi (qw (qE kh (qb 2) (v9 (qa (ce_c (.str _)) (qa (ce_c (.str _)) qf)))))
   (qQ (qK (qb 5) (ce_cb KD (qa (qE ve (qb 2) (ce_c (.str _))) qf))) (zp (qb 3) (qD (qb 1) (ce_c (.int _)))))
   (qQ (qK (qb 3) (qD (qb 1) (ce_c (.int _)))) (zp (qb 5) (ce_cb KD (qa (qE ve (qb 2) (ce_c (.str _))) qf))))))))
   qB)
   (qM (vm (qa (ce_c (.str _)) (qa (ce_c .non) qf)))))))))))),fun us M Qu h => ?_⟩
 obtain ⟨o,ws,ps,ds,rfl,O,hsz,h⟩:=h
 have hl:=O.n
 by_cases hfv:∃ (w:Str) (r q p:Nat) (x y:Wt),ds = [.str w, .int (r:Int), .int (q:Int), .int (p:Int)]∧five w∧r < 8∧ws[q]? = some x∧ws[p]? = some y∧NeedN x y (fun a b => Z8 w a b (Qu (.p (.tup [.str "Nought", .non])) M) fun n => Qu (.p (.tup [.str "", .non])) (M.set (o 1) (ol (ws.set r (.num n))))) (fun nm pp => Qu (.p (.tup [.str nm,pT pp])) M)
 ·obtain ⟨w,r,q,p,x,y,rfl,hw,hr,hq,hp,k⟩:=hfv
  have hin:inV (.str w) [.str "plus", .str "less", .str "times", .str "over", .str "rest"] = true:=by rcases hw with rfl | rfl | rfl | rfl | rfl <;> decide
  walk_at "v"
  refine vd O ?_
  walk_at "v"
  refine zT true rfl rfl rfl hin ?_
  walk_at "v"
  exact ⟨o,ws,ps,w,r,q,p,_,_,rfl,hw,O,hr,hq,hp,k⟩
 have num5:∀ (w:Str) (r q p:Nat) (x y:Wt),ds = [.str w, .int (r:Int), .int (q:Int), .int (p:Int)]→five w→r < 8→ws[q]? = some x→ws[p]? = some y→NeedN x y (fun a b => Z8 w a b (Qu (.p (.tup [.str "Nought", .non])) M) fun n => Qu (.p (.tup [.str "", .non])) (M.set (o 1) (ol (ws.set r (.num n))))) (fun nm pp => Qu (.p (.tup [.str nm,pT pp])) M)→False:=fun w r q p x y e hw hr hq hp k => hfv ⟨w,r,q,p,x,y,e,hw,hr,hq,hp,k⟩
 clear hfv
 rcases h with ⟨ws',ps',hd,k⟩ | ⟨nm,pp,hd,k⟩
 ·cases hd with
  | num r n hr =>
   walk_at "pk"
   refine vd O ?_
   walk_at "pk"
   refine xt (x:=.num n) O.b (by omega) ?_
   walk_at "pk"
   exact k _ o (O.put trivial) (.set (by omega))
  | sgn r n hr =>
   walk_at "pk"
   refine vd O ?_
   walk_at "pk"
   refine xt (x:=.sgn n) O.b (by omega) ?_
   walk_at "pk"
   exact k _ o (O.put trivial) (.set (by omega))
  | one r n hr =>
   walk_at "pk"
   refine vd O ?_
   walk_at "pk"
   refine xt (x:=.one n) O.b (by omega) ?_
   walk_at "pk"
   exact k _ o (O.put trivial) (.set (by omega))
  | copy r q x hr hq =>
   walk_at "pk"
   refine vd O ?_
   walk_at "pk"
   refine vE O.b hq ?_
   walk_at "pk"
   refine xt (x:=x) O.b (by omega) ?_
   walk_at "pk"
   exact k _ o (O.put (O.wq hq)) (.set (by omega))
  | pair r q p x y hr hq hp =>
   have nw:=O.new (r:=r) (x:=(x,y)) ⟨O.wq hq,O.wq hp⟩
   have h0:=O.lt (i:=0) (by omega)
   have h1:=O.lt (i:=1) (by omega)
   have h2:=O.lt (i:=2) (by omega)
   walk_at "pk"
   refine vd O ?_
   walk_at "pk"
   refine xV O ?_
   refine Xy O.c ?_
   walk_at "pk"
   refine vE O.b hq ?_
   walk_at "pk"
   refine vE O.b hp ?_
   walk_at "pk"
   refine ⟨_,(xn h2).trans O.c,by rw [List.length_map,List.length_range]; exact Nat.lt_of_lt_of_le hsz (by show 1000≤sizeLine; decide), ?_⟩
   rw [← cl_new (o:=o)]
   have g0:((M ++ [pl (x,y)]).set (o 2) (cl (zH o (ps.length + 3) M.length) (ps.length + 1)))[o 0]? = some (.lst [.m (o 1), .m (o 2)]):=by
    rw [List.getElem?_set_ne fun z => by have:=O.inj 2 0 (by omega) (by omega) z; omega,xn h0]; exact O.o0
   have g1:((M ++ [pl (x,y)]).set (o 2) (cl (zH o (ps.length + 3) M.length) (ps.length + 1)))[o 1]? = some (ol ws):=by
    rw [List.getElem?_set_ne fun z => by have:=O.inj 2 1 (by omega) (by omega) z; omega,xn h1]; exact O.b
   have g2:((M ++ [pl (x,y)]).set (o 2) (cl (zH o (ps.length + 3) M.length) (ps.length + 1)))[o 2]? = some (cl (zH o (ps.length + 3) M.length) (ps.length + 1)):=List.getElem?_set_self (by rw [List.length_append]; omega)
   have kk:=k _ _ nw.1 nw.2
   show IxS vf ((M ++ [pl (x,y)]).set (o 2) (cl (zH o (ps.length + 3) M.length) (ps.length + 1))) (.m (o 0)) (.p (.int 1)) _
   generalize (M ++ [pl (x,y)]).set (o 2) (cl (zH o (ps.length + 3) M.length) (ps.length + 1)) = M2 at g0 g1 g2 kk ⊢
   refine j3 (us:=[.m (o 1), .m (o 2)]) (by simp [vf,g0]) rfl ?_
   refine VS g2 ?_
   rw [List.length_map,List.length_range]
   walk_at "pk"
   rw [show ((ps.length + 1:Nat):Int) - 1 = (ps.length:Int) by omega]
   refine xt (x:=.pr ps.length) g1 (by omega) ?_
   walk_at "pk"
   exact kk
  | first r q i z hr hq hi =>
   have hil:i < ps.length:=O.wq hq
   walk_at "pk"
   refine vd O ?_
   walk_at "pk"
   refine vE O.b hq ?_
   walk_at "pk"
   refine ⟨_,rfl, ?_⟩
   simp only [vP]
   walk_at "pk"
   refine xV O ?_
   walk_at "pk"
   refine vE O.b hq ?_
   simp only [tO]
   walk_at "pk"
   refine Z0 O.c hil ?_
   walk_at "pk"
   rw [if_neg (by decide)]
   refine j3 (us:=[.p (tO z.1), .p (tO z.2)]) (by simp [vf,O.p i z hi,pl]) rfl ?_
   walk_at "pk"
   refine xt (x:=z.1) O.b (by omega) ?_
   walk_at "pk"
   exact k _ o (O.put (O.wi hi).1) (.set (by omega))
  | second r q i z hr hq hi =>
   have hil:i < ps.length:=O.wq hq
   walk_at "pk"
   refine vd O ?_
   walk_at "pk"
   refine vE O.b hq ?_
   walk_at "pk"
   refine ⟨_,rfl, ?_⟩
   simp only [vP]
   walk_at "pk"
   refine xV O ?_
   walk_at "pk"
   refine vE O.b hq ?_
   simp only [tO]
   walk_at "pk"
   refine Z0 O.c hil ?_
   walk_at "pk"
   refine j3 (us:=[.p (tO z.1), .p (tO z.2)]) (by simp [vf,O.p i z hi,pl]) rfl ?_
   walk_at "pk"
   refine xt (x:=z.2) O.b (by omega) ?_
   walk_at "pk"
   exact k _ o (O.put (O.wi hi).2) (.set (by omega))
  | setL q p i z y hq hi hp =>
   have hil:i < ps.length:=O.wq hq
   rw [List.length_set] at k
   walk_at "pk"
   refine vd O ?_
   walk_at "pk"
   refine vE O.b hq ?_
   walk_at "pk"
   refine ⟨_,rfl, ?_⟩
   simp only [vP]
   walk_at "pk"
   refine xV O ?_
   walk_at "pk"
   refine vE O.b hq ?_
   simp only [tO]
   walk_at "pk"
   refine Z0 O.c hil ?_
   walk_at "pk"
   refine vE O.b hp ?_
   walk_at "pk"
   rw [if_neg (by decide)]
   refine Q1 (r:=0) (O.p i z hi) (by show 0 < 2; omega) ?_
   walk_at "pk"
   exact k _ o (O.setp (x:=(y,z.2)) hil ⟨O.wq hp,(O.wi hi).2⟩) (.set (by omega))
  | setR q p i z y hq hi hp =>
   have hil:i < ps.length:=O.wq hq
   rw [List.length_set] at k
   walk_at "pk"
   refine vd O ?_
   walk_at "pk"
   refine vE O.b hq ?_
   walk_at "pk"
   refine ⟨_,rfl, ?_⟩
   simp only [vP]
   walk_at "pk"
   refine xV O ?_
   walk_at "pk"
   refine vE O.b hq ?_
   simp only [tO]
   walk_at "pk"
   refine Z0 O.c hil ?_
   walk_at "pk"
   refine vE O.b hp ?_
   walk_at "pk"
   refine Q1 (r:=1) (O.p i z hi) (by show 1 < 2; omega) ?_
   walk_at "pk"
   exact k _ o (O.setp (x:=(z.1,y)) hil ⟨(O.wi hi).1,O.wq hp⟩) (.set (by omega))
  | plus r q p a b hr hq hp =>
   have kk:=fun h => k _ o (O.put (r:=r) (x:=.num _) trivial) (.set h)
   have kk:=kk (by omega)
   exact (num5 _ r q p _ _ rfl (.inl rfl) hr hq hp (.inr ⟨.inl rfl,fun h => absurd h (by decide),_,_,_,rfl, .inl ⟨rfl,_,rfl,kk⟩⟩)).elim
  | less r q p a b hr hq hp =>
   have kk:=fun h => k _ o (O.put (r:=r) (x:=.num _) trivial) (.set h)
   have kk:=kk (by omega)
   exact (num5 _ r q p _ _ rfl (.inr (.inl rfl)) hr hq hp (.inr ⟨.inr (.inl rfl),fun h => absurd h (by decide),_,_,_,rfl, .inr (.inl ⟨rfl,_,rfl,kk⟩)⟩)).elim
  | times r q p a b hr hq hp hm =>
   have kk:=fun h => k _ o (O.put (r:=r) (x:=.num _) trivial) (.set h)
   have kk:=kk (by omega)
   exact (num5 _ r q p _ _ rfl (.inr (.inr (.inl rfl))) hr hq hp (.inr ⟨.inr (.inr (.inl rfl)),fun h => absurd h (by decide),_,_,_,rfl, .inr (.inr (.inl ⟨rfl,hm,_,rfl,kk⟩))⟩)).elim
  | over r q p a b hr hq hp hb hdd =>
   have kk:=fun h => k _ o (O.put (r:=r) (x:=.num _) trivial) (.set h)
   have kk:=kk (by omega)
   exact (num5 _ r q p _ _ rfl (.inr (.inr (.inr (.inl rfl)))) hr hq hp (.inr ⟨.inr (.inr (.inr (.inl rfl))),fun _ => hb,_,_,_,rfl, .inr (.inr (.inr (.inl ⟨rfl,hb,hdd,_,rfl,kk⟩)))⟩)).elim
  | rest r q p a b hr hq hp hb =>
   have kk:=fun h => k _ o (O.put (r:=r) (x:=.num _) trivial) (.set h)
   have kk:=kk (by omega)
   exact (num5 _ r q p _ _ rfl (.inr (.inr (.inr (.inr rfl)))) hr hq hp (.inr ⟨.inr (.inr (.inr (.inr rfl))),fun _ => hb,_,_,_,rfl, .inr (.inr (.inr (.inr ⟨rfl,hb,_,rfl,kk⟩)))⟩)).elim
 ·cases hd with
  | n1 ww hw r q p x y hr hq hx hp => exact (num5 _ r q p _ _ rfl hw hr hq hp (xX hx k)).elim
  | n2 ww hw r q p a y hr hq hp hy => exact (num5 _ r q p _ _ rfl hw hr hq hp (xW hy k)).elim
  | nz ww hw r q p a hr hq hp =>
   have hf:five ww:=hw.elim (fun h => .inr (.inr (.inr (.inl h)))) fun h => .inr (.inr (.inr (.inr h)))
   exact (num5 _ r q p (.num a) (.num 0) rfl hf hr hq hp (.inl ⟨hw,rfl,k⟩)).elim
  | p1 ww hw r q x hr hq hx =>
   rcases hw with rfl | rfl <;>
   ·walk_at "pk"
    refine vd O ?_
    walk_at "pk"
    refine vE O.b hq ?_
    walk_at "pk"
    refine ⟨_,rfl, ?_⟩
    walk_at "v"
    refine vQ (by simpa using hx) ?_
    walk_at "pk"
    exact k
  | p2 ww hw q p x y hq hx hp =>
   rcases hw with rfl | rfl <;>
   ·walk_at "pk"
    refine vd O ?_
    walk_at "pk"
    refine vE O.b hq ?_
    walk_at "pk"
    refine ⟨_,rfl, ?_⟩
    walk_at "v"
    refine vQ (by simpa using hx) ?_
    walk_at "pk"
    exact k
local macro_rules | `(tactic| walk_at "pk") => `(tactic| (walk_at "v"; repeat ((first | refine zS (by decide) ?_ | refine vQ rfl ?_ | refine zT false rfl rfl rfl (by decide) ?_ | refine zT true rfl rfl rfl (by decide) ?_); walk_at "v")))
abbrev jL:Stmt:=top 28
theorem scOwnAsk:FnScope ["own", "deed", "word", "one", "other"] ["own", "deed"] (qc jL):=⟨rfl,rfl,rfl,by decide +kernel,rfl,by decide +kernel,by decide +kernel⟩
def Qx:List U→MM→UK→Prop:=fun us M Q => ∃ (o:Nm) (ws:List Wt) (ps:WW) (ds:List T),us = [.m (o 0), .p (.tup ds)]∧Own M o ws ps∧((∃ ans,DeedAsk ws ds ans∧Q (.p (.tup [.str "", ans])) M)∨∃ p,AskNo ws ds p∧Q (.p (.tup [.str "WrongKind", .int p])) M)
theorem VP {f:Addr} {fd:FuncData} (F:Fun K "_law_own_ask" "_law_own_ask" jL f fd) (N:Nms mg) (DOwnKind:Def P w K mg base "_law_own_kind" 1 ["worth"] (spP Vf)):FnOk P w K mg base CX0 2 f fd ["own", "deed"] (spU Qx):=by
 refine F.zU scOwnAsk (fun us M Qu h => ?_) (fun cdv A outer s H E hr => ?_)
 ·obtain ⟨_,_,_,_,rfl,_⟩:=h
  rfl
 refine ⟨_,(qh (vq (i:=2) scOwnAsk.nd rfl (Or.inl rfl) (qr (qt (K:=K) rfl) (qv 1) qe (fun _ _ => rfl)))
  (qh (vq (i:=3) scOwnAsk.nd rfl (Or.inl rfl) (qr (qm (K:=K) rfl) (qr (qm (K:=K) rfl) (qv 0) qe (fun _ _ => rfl)) (qr (qt (K:=K) rfl) (qv 1) qe (fun _ _ => rfl)) (fun _ _ => rfl)))
  (qh (vz (qu op_eq (qv 2) ql (qC _))
   (qk (qF (vg (qa_c ql (qa_c (qU DOwnKind (hr.mono (by first | decide | exact Nat.le_refl _)) (qa_c (qv 3) qd)) qd)))))
   qG)
  (qh (vz (qu op_eq (qv 2) ql (qC _))
   (qk (qF (vg (qa_c ql (qa_c (xl (qu op_eq (qU DOwnKind (hr.mono (by first | decide | exact Nat.le_refl _)) (qa_c (qv 3) qd)) ql (qC _)) ql (qv 3)) qd)))))
   qG)
  (qh (vq (i:=4) scOwnAsk.nd rfl (Or.inl rfl) (qr (qm (K:=K) rfl) (qr (qm (K:=K) rfl) (qv 0) qe (fun _ _ => rfl)) (qr (qt (K:=K) rfl) (qv 1) qe (fun _ _ => rfl)) (fun _ _ => rfl)))
  (qh (vz (qu op_eq (qv 2) ql (qC _))
   (qk (qF (vg (qa_c ql (qa_c (Zq (zx op_eq (qU DOwnKind (hr.mono (by first | decide | exact Nat.le_refl _)) (qa_c (qv 3) qd)) (qU DOwnKind (hr.mono (by first | decide | exact Nat.le_refl _)) (qa_c (qv 4) qd)) (qC _)) (Q6 (zx (op_eqW (K:=K) rfl hr.units) (qv 3) (qv 4) (qC _)))) qd)))))
   qG)
  (qh (vz (qu jP (qU DOwnKind (hr.mono (by first | decide | exact Nat.le_refl _)) (qa_c (qv 3) qd)) ql (qC _))
   (qk (qF (vg (qa_c ql (qa_c qe qd)))))
   qG)
  (qk (qF (xl (qu jP (qU DOwnKind (hr.mono (by first | decide | exact Nat.le_refl _)) (qa_c (qv 4) qd)) ql (qC _)) (vg (qa_c ql (qa_c qe qd))) (vg (qa_c ql (qa_c (zx VL (qv 3) (qv 4) (qC _)) qd))))))))))))),_,(qo (qQ (qD (qb 1) (ce_c (.int _))) (qX 2))
   (qo (qQ (qK (qK (qb 0) (ce_c (.int _))) (qD (qb 1) (ce_c (.int _)))) (qX 3))
   (qo (vi (qw (qE ve (qb 2) (ce_c (.str _))))
   (qM (vm (qa (ce_c (.str _)) (qa (vW (qa (qb 3) qf)) qf))))
   qB)
   (qo (vi (qw (qE ve (qb 2) (ce_c (.str _))))
   (qM (vm (qa (ce_c (.str _)) (qa (Zb (qw (qE ve (vW (qa (qb 3) qf)) (ce_c (.str _)))) (ce_c (.str _)) (qb 3)) qf))))
   qB)
   (qo (qQ (qK (qK (qb 0) (ce_c (.int _))) (qD (qb 1) (ce_c (.int _)))) (qX 4))
   (qo (vi (qw (qE ve (qb 2) (ce_c (.str _))))
   (qM (vm (qa (ce_c (.str _)) (qa (Zc (qE ve (vW (qa (qb 3) qf)) (vW (qa (qb 4) qf))) (qE Jv (qb 3) (qb 4))) qf))))
   qB)
   (qo (vi (qw (qE jk (vW (qa (qb 3) qf)) (ce_c (.str _))))
   (qM (vm (qa (ce_c (.str _)) (qa (ce_c (.int _)) qf))))
   qB)
   (qM (Zb (qw (qE jk (vW (qa (qb 4) qf)) (ce_c (.str _)))) (vm (qa (ce_c (.str _)) (qa (ce_c (.int _)) qf))) (vm (qa (ce_c (.str _)) (qa (qE (zq fun _ _ => .bl _) (qb 3) (qb 4)) qf)))))))))))),fun us M Qu h => ?_⟩
 obtain ⟨o,ws,ps,ds,rfl,O,h⟩:=h
 rcases h with ⟨ans,hd,q⟩ | ⟨pp,hd,q⟩
 ·cases hd with
  | kind qq x hq =>
   walk_at "pk"
   refine vd O ?_
   walk_at "pk"
   refine vE O.b hq ?_
   walk_at "pk"
   refine ⟨x,rfl, ?_⟩
   walk_at "pk"
   exact q
  | told qq x hq =>
   walk_at "pk"
   refine vd O ?_
   walk_at "pk"
   refine vE O.b hq ?_
   walk_at "pk"
   refine ⟨x,rfl, ?_⟩
   cases x with
   | pr i =>
    simp only [vP]
    walk_at "pk"
    exact q
   | _ =>
    simp only [vP]
    walk_at "pk"
    exact q
  | same qq p x y hq hp =>
   walk_at "pk"
   refine vd O ?_
   walk_at "pk"
   refine vE O.b hq ?_
   walk_at "pk"
   refine vd O ?_
   walk_at "pk"
   refine vE O.b hp ?_
   walk_at "pk"
   refine ⟨x,rfl, ?_⟩
   walk_at "pk"
   refine ⟨y,rfl, ?_⟩
   walk_at "pk"
   refine ite2 (fun hk => eqW_at q) (fun hk => ?_)
   have:decide (x = y) = false:=decide_eq_false fun z => hk (by rw [z])
   rw [this] at q
   exact q
  | below qq p a b hq hp =>
   walk_at "pk"
   refine vd O ?_
   walk_at "pk"
   refine vE O.b hq ?_
   walk_at "pk"
   refine vd O ?_
   walk_at "pk"
   refine vE O.b hp ?_
   walk_at "pk"
   refine ⟨_,rfl, ?_⟩
   simp only [vP]
   walk_at "pk"
   refine ⟨_,rfl, ?_⟩
   simp only [vP,tO]
   walk_at "pk"
   exact q
 ·cases hd with
  | b1 qq p x y hq hx hp =>
   walk_at "pk"
   refine vd O ?_
   walk_at "pk"
   refine vE O.b hq ?_
   walk_at "pk"
   refine vd O ?_
   walk_at "pk"
   refine vE O.b hp ?_
   walk_at "pk"
   refine ⟨_,rfl, ?_⟩
   walk_at "v"
   refine vQ (by simpa using hx) ?_
   walk_at "pk"
   exact q
  | b2 qq p a y hq hp hy =>
   walk_at "pk"
   refine vd O ?_
   walk_at "pk"
   refine vE O.b hq ?_
   walk_at "pk"
   refine vd O ?_
   walk_at "pk"
   refine vE O.b hp ?_
   walk_at "pk"
   refine ⟨_,rfl, ?_⟩
   simp only [vP]
   walk_at "pk"
   refine ⟨_,rfl, ?_⟩
   walk_at "v"
   refine vQ (by simpa using hy) ?_
   walk_at "pk"
   exact q
theorem depT2_tT (x:Wt):depT 2 (tT x):=by
 cases x with
 | sgn k =>
  refine ⟨by show 2≤100000; decide,fun y hy => ?_⟩
  simp only [List.mem_cons,List.not_mem_nil,or_false] at hy
  rcases hy with rfl | rfl <;> trivial
 | _ => trivial
theorem DeedAsk.dep {ws:List Wt} {ds:List T} {ans:T} (h:DeedAsk ws ds ans):depT 2 ans:=by
 cases h with
 | told => exact depT2_tT _
 | _ => trivial
theorem xM {a b:T} (ha:depT 2 a) (hb:depT 2 b):depT 3 (.tup [a,b]):=by
 refine ⟨by show 2≤100000; decide,fun y hy => ?_⟩
 simp only [List.mem_cons,List.not_mem_nil,or_false] at hy
 rcases hy with rfl | rfl
 ·exact ha
 ·exact hb
theorem dep_pT {p:Option Int}:depT 2 (pT p):=by cases p <;> trivial
structure Two (C D:Addr) (M:MM) (s o:Nm) (ws:List Wt) (ps:WW):Prop where
 S:Sto C D M s ws ps
 O:Own M o ws ps
 d:∀ i j,i < ps.length + 2→j < ps.length + 3→s i≠o j
theorem Sto.go {C D:Addr} {M M':MM} {s:Nm} {ws:List Wt} {ps:WW} (S:Sto C D M s ws ps) (h:∀ i,i < ps.length + 2→M'[s i]? = M[s i]?):Sto C D M' s ws ps :=
 ⟨(h 0 (by omega)).trans S.s0,(h 1 (by omega)).trans S.h,fun i x hi => (h _ (by have:=(List.getElem?_eq_some_iff.mp hi).1; omega)).trans (S.p i x hi),S.n,S.inj,S.ww,S.wp⟩
theorem Own.go {M M':MM} {o:Nm} {ws:List Wt} {ps:WW} (S:Own M o ws ps) (h:∀ i,i < ps.length + 3→M'[o i]? = M[o i]?):Own M' o ws ps :=
 ⟨(h 0 (by omega)).trans S.o0,(h 1 (by omega)).trans S.b,(h 2 (by omega)).trans S.c,fun i x hi => (h _ (by have:=(List.getElem?_eq_some_iff.mp hi).1; omega)).trans (S.p i x hi),S.n,S.inj,S.ww,S.wp⟩
structure Go2 (M M':MM) (s o s' o':Nm) (n n':Nat):Prop where
 len:M.length≤M'.length
 fr:∀ k,k < M.length→(∀ i,i < n + 2→k≠s i)→(∀ i,i < n + 3→k≠o i)→M'[k]? = M[k]?
 ns:∀ i,i < n' + 2→(∃ j,j < n + 2∧s' i = s j)∨M.length≤s' i
 no:∀ i,i < n' + 3→(∃ j,j < n + 3∧o' i = o j)∨M.length≤o' i
 z:s' 0 = s 0
 y:o' 0 = o 0
theorem Two.step {C D:Addr} {M M1 M2:MM} {s o s' o':Nm} {ws ws':List Wt} {ps ps':WW} (W:Two C D M s o ws ps) (S1:Sto C D M1 s' ws' ps') (g1:Go M M1 s s' (ps.length + 2) (ps'.length + 2)) (O2:Own M2 o' ws' ps') (g2:Go M1 M2 o o' (ps.length + 3) (ps'.length + 3)):Two C D M2 s' o' ws' ps'∧Go2 M M2 s o s' o' ps.length ps'.length:=by
 have lt:∀ j,j < ps.length + 3→o j < M.length:=fun j hj => W.O.lt hj
 have ne:∀ i j,i < ps'.length + 2→j < ps.length + 3→s' i≠o j:=fun i j hi hj z => by
  rcases g1.nw i hi with ⟨l,hl,e⟩ | e
  ·exact W.d l j hl hj (e.symm.trans z)
  ·have:=lt j hj
   omega
 refine ⟨⟨S1.go fun i hi => g2.fr _ (S1.lt hi) fun j hj => ne i j hi hj,O2,fun i j hi hj z => ?_⟩,⟨Nat.le_trans g1.len g2.len,fun k hk h1 h2 => ?_,g1.nw,fun i hi => ?_,g1.z,g2.z⟩⟩
 ·rcases g2.nw j hj with ⟨l,hl,e⟩ | e
  ·exact ne i l hi hl (z.trans e)
  ·have:=S1.lt hi
   omega
 ·have:=g1.len
  rw [g2.fr k (by omega) h2,g1.fr k hk h1]
 ·have:=g1.len
  rcases g2.nw i hi with h | h
  ·exact .inl h
  ·exact .inr (by omega)
theorem Two.mid {C D:Addr} {M M1:MM} {s o s':Nm} {ws:List Wt} {ps:WW} {n':Nat} (W:Two C D M s o ws ps) (g1:Go M M1 s s' (ps.length + 2) n'):Own M1 o ws ps:=W.O.go fun i hi => g1.fr _ (W.O.lt hi) fun j hj z => W.d j i hj hi z.symm
def askW (w:Str) (b:Bool):Prop:=inV (.str w) [.str "kind", .str "told", .str "same", .str "below"] = b
theorem DeedDo.word {ws ws':List Wt} {ps ps':WW} {ds:List T} (h:DeedDo ws ps ds ws' ps'):∃ w r,ds = .str w :: r∧askW w false:=by cases h <;> exact ⟨_,_,rfl,by unfold askW; decide⟩
theorem DeedAsk.word {ws:List Wt} {ds:List T} {ans:T} (h:DeedAsk ws ds ans):∃ w r,ds = .str w :: r∧askW w true:=by cases h <;> exact ⟨_,_,rfl,by unfold askW; decide⟩
theorem AskNo.word {ws:List Wt} {ds:List T} {p:Int} (h:AskNo ws ds p):∃ w r,ds = .str w :: r∧askW w true:=by cases h <;> exact ⟨_,_,rfl,by unfold askW; decide⟩
theorem DeedNo.word {ws:List Wt} {ds:List T} {nm:Str} {p:Option Int} (h:DeedNo ws ds nm p):∃ w r,ds = .str w :: r∧askW w false:=by
 cases h with
 | n1 w hw => exact ⟨_,_,rfl,by unfold askW; rcases hw with rfl | rfl | rfl | rfl | rfl <;> decide⟩
 | n2 w hw => exact ⟨_,_,rfl,by unfold askW; rcases hw with rfl | rfl | rfl | rfl | rfl <;> decide⟩
 | nz w hw => exact ⟨_,_,rfl,by unfold askW; rcases hw with rfl | rfl <;> decide⟩
 | p1 w hw => exact ⟨_,_,rfl,by unfold askW; rcases hw with rfl | rfl <;> decide⟩
 | p2 w hw => exact ⟨_,_,rfl,by unfold askW; rcases hw with rfl | rfl <;> decide⟩
abbrev Xk:Stmt:=top 29
theorem scBoth:FnScope ["store", "own", "deed"] ["store", "own", "deed"] (qc Xk):=⟨rfl,rfl,rfl,by decide +kernel,rfl,by decide +kernel,by decide +kernel⟩
def VX (C D:Addr):List U→MM→UK→Prop:=fun us M Q => ∃ (s o:Nm) (ws:List Wt) (ps:WW) (ds:List T),us = [.m (s 0), .m (o 0), .p (.tup ds)]∧Two C D M s o ws ps∧ps.length < 1000 ∧
 ((∃ ws' ps',DeedDo ws ps ds ws' ps'∧∀ M' s' o',Two C D M' s' o' ws' ps'→Go2 M M' s o s' o' ps.length ps'.length→Q (.p (.bl true)) M')∨(∃ ans,DeedAsk ws ds ans∧Q (.p (.bl true)) M)∨(∃ nm p,DeedNo ws ds nm p∧Q (.p (.bl true)) M)∨∃ p,AskNo ws ds p∧Q (.p (.bl true)) M)
theorem ok_bothU {C D:Addr} {f:Addr} {fd:FuncData} (F:Fun K "_law_both" "_law_both" Xk f fd) (N:Nms mg) (DDone:Def P w K mg base "_law_done" 7 ["store", "deed"] (spU (gDone C D))) (DOwnDo:Def P w K mg base "_law_own_do" 3 ["own", "deed"] (spU ZO)) (DOwnAsk:Def P w K mg base "_law_own_ask" 2 ["own", "deed"] (spU Qx)) (DAlike:Def P w K mg base "_law_alike" 4 ["found", "due"] (spP (Vg 3))):FnOk P w K mg base CX0 8 f fd ["store", "own", "deed"] (spU (VX C D)):=by
 refine F.zU scBoth (fun us M Qu h => ?_) (fun cdv A outer s H E hr => ?_)
 ·obtain ⟨_,_,_,_,_,rfl,_⟩:=h
  rfl
 refine ⟨_,(qh (vz (qu (kj (K:=K) rfl) (qr (qt (K:=K) rfl) (qv 2) qe (fun _ _ => rfl)) (vG (qa_c ql (qa_c ql (qa_c ql (qa_c ql qd))))) (by with_unfolding_all rfl))
   (qk (qF (qU DAlike (hr.mono (by first | decide | exact Nat.le_refl _)) (qa_c (qU DDone (hr.mono (by first | decide | exact Nat.le_refl _)) (qa_c (qv 0) (qa_c (qv 2) qd))) (qa_c (qU DOwnAsk (hr.mono (by first | decide | exact Nat.le_refl _)) (qa_c (qv 1) (qa_c (qv 2) qd))) qd)))))
   qG)
  (qk (qF (qU DAlike (hr.mono (by first | decide | exact Nat.le_refl _)) (qa_c (qU DDone (hr.mono (by first | decide | exact Nat.le_refl _)) (qa_c (qv 0) (qa_c (qv 2) qd))) (qa_c (qU DOwnDo (hr.mono (by first | decide | exact Nat.le_refl _)) (qa_c (qv 1) (qa_c (qv 2) qd))) qd)))))),_,(qo (vi (qw (qE kh (qD (qb 2) (ce_c (.int _))) (v9 (qa (ce_c (.str _)) (qa (ce_c (.str _)) (qa (ce_c (.str _)) (qa (ce_c (.str _)) qf)))))))
   (qM (vW (qa (qJ (qa (qb 0) (qa (qb 2) qf))) (qa (qJ (qa (qb 1) (qa (qb 2) qf))) qf))))
   qB)
   (qM (vW (qa (qJ (qa (qb 0) (qa (qb 2) qf))) (qa (qJ (qa (qb 1) (qa (qb 2) qf))) qf))))),fun us M Qu h => ?_⟩
 obtain ⟨s,o,ws,ps,ds,rfl,W,hsz,h⟩:=h
 rcases h with ⟨ws',ps',hd,q⟩ | ⟨ans,hd,q⟩ | ⟨nm,pp,hd,q⟩ | ⟨pp,hd,q⟩
 ·obtain ⟨ww,rr,rfl,hw⟩:=hd.word
  walk_at "v"
  refine zD at0 ?_
  walk_at "v"
  refine zT false rfl rfl rfl hw ?_
  walk_at "v"
  refine ⟨_,_,rfl,s,ws,ps,rfl,W.S, .inl ⟨_,_,hd,fun M1 s1 S1 g1 => ⟨.non,rfl, ?_⟩⟩⟩
  walk_at "v"
  refine ⟨o,ws,ps,_,rfl,W.mid g1,hsz, .inl ⟨_,_,hd,fun M2 o2 O2 g2 => ?_⟩⟩
  walk_at "v"
  refine ⟨_,rfl,xM trivial trivial, ?_⟩
  walk_at "v"
  have:=W.step S1 g1 O2 g2
  exact q M2 _ _ this.1 this.2
 ·obtain ⟨ww,rr,rfl,hw⟩:=hd.word
  walk_at "v"
  refine zD at0 ?_
  walk_at "v"
  refine zT true rfl rfl rfl hw ?_
  walk_at "v"
  refine ⟨_,_,rfl,s,ws,ps,rfl,W.S, .inr (.inl ⟨_,hd,_,rfl, ?_⟩)⟩
  walk_at "v"
  refine ⟨o,ws,ps,_,rfl,W.O, .inl ⟨_,hd, ?_⟩⟩
  walk_at "v"
  refine ⟨_,rfl,xM trivial hd.dep, ?_⟩
  walk_at "v"
  exact q
 ·obtain ⟨ww,rr,rfl,hw⟩:=hd.word
  walk_at "v"
  refine zD at0 ?_
  walk_at "v"
  refine zT false rfl rfl rfl hw ?_
  walk_at "v"
  refine ⟨_,_,rfl,s,ws,ps,rfl,W.S, .inr (.inr (.inl ⟨_,_,hd, ?_⟩))⟩
  walk_at "v"
  refine ⟨o,ws,ps,_,rfl,W.O,hsz, .inr ⟨_,_,hd, ?_⟩⟩
  walk_at "v"
  refine ⟨_,rfl,xM trivial dep_pT, ?_⟩
  walk_at "v"
  exact q
 ·obtain ⟨ww,rr,rfl,hw⟩:=hd.word
  walk_at "v"
  refine zD at0 ?_
  walk_at "v"
  refine zT true rfl rfl rfl hw ?_
  walk_at "v"
  refine ⟨_,_,rfl,s,ws,ps,rfl,W.S, .inr (.inr (.inr ⟨_,hd, ?_⟩))⟩
  walk_at "v"
  refine ⟨o,ws,ps,_,rfl,W.O, .inr ⟨_,hd, ?_⟩⟩
  walk_at "v"
  refine ⟨_,rfl,xM trivial dep_pT, ?_⟩
  walk_at "v"
  exact q
abbrev xE:Stmt:=top 30
theorem scAllSame:FnScope ["store", "own", "turn", "q", "deed"] ["store", "own", "turn"] (qc xE):=⟨rfl,rfl,rfl,by decide +kernel,rfl,by decide +kernel,by decide +kernel⟩
def j8 (C D:Addr):List U→MM→UK→Prop:=fun us M Q => ∃ (s o:Nm) (ws:List Wt) (ps:WW) (turn:Nat),us = [.m (s 0), .m (o 0), .p (.int (turn:Int))]∧Two C D M s o ws ps∧ps.length < 1000∧Q (.p (.bl true)) M
theorem KK {C D:Addr} {M:MM} {s o:Nm} {ws:List Wt} {ps:WW} {ds:List T} {ans:T} {Q:UK} (W:Two C D M s o ws ps) (hsz:ps.length < 1000) (hd:DeedAsk ws ds ans) (q:Q (.p (.bl true)) M):VX C D [.m (s 0), .m (o 0), .p (.tup ds)] M Q:=⟨s,o,ws,ps,ds,rfl,W,hsz, .inr (.inl ⟨ans,hd,q⟩)⟩
theorem xT {ws:List Wt} (h:ws.length = 8) {q:Nat} (hq:q < 8):∃ x,ws[q]? = some x:=⟨ws[q]'(by omega),List.getElem?_eq_getElem _⟩
theorem Q9 {C D:Addr} {f:Addr} {fd:FuncData} (F:Fun K "_law_all_same" "_law_all_same" xE f fd) (N:Nms mg) (DBoth:Def P w K mg base "_law_both" 8 ["store", "own", "deed"] (spU (VX C D))):FnOk P w K mg base CX0 9 f fd ["store", "own", "turn"] (spU (j8 C D)):=by
 refine F.zU scAllSame (fun us M Qu h => ?_) (fun cdv A outer s H E hr => ?_)
 ·obtain ⟨_,_,_,_,_,rfl,_⟩:=h
  rfl
 refine ⟨_,(qh (kP PassesOwn.never rfl (ji rfl N.range (qa_c qe qd)) (zw (i:=3) scAllSame.nd rfl (Or.inl rfl))
   (qk (kP PassesOwn.never rfl (xF (K:=K) rfl (vG (qa_c (vg (qa_c ql (qa_c (qv 3) qd))) (qa_c (vg (qa_c ql (qa_c (qv 3) qd))) (qa_c (vg (qa_c ql (qa_c (qv 3) (qa_c (vp jV (vp xm (qv 3) (qv 2)) qe) qd)))) (qa_c (vg (qa_c ql (qa_c (vp jV (qv 2) qe) (qa_c (qv 3) qd)))) qd)))))) (zw (i:=4) scAllSame.nd rfl (Or.inl rfl))
    (qk (vz (jh (zQ (qU DBoth (hr.mono (by first | decide | exact Nat.le_refl _)) (qa_c (qv 0) (qa_c (qv 1) (qa_c (qv 4) qd))))))
     (qk (qF xr))
     qG)))))
  (qk (qF xr))),_,(qo (Vn (Za (qa (ce_c (.int _)) qf)) (qX 3)
   (Vn (QL (v9 (qa (vm (qa (ce_c (.str _)) (qa (qb 3) qf))) (qa (vm (qa (ce_c (.str _)) (qa (qb 3) qf))) (qa (vm (qa (ce_c (.str _)) (qa (qb 3) (qa (qE (jl fun _ _ => .int _) (qE (zq fun _ _ => .int _) (qb 3) (qb 2)) (ce_c (.int _))) qf)))) (qa (vm (qa (ce_c (.str _)) (qa (qE (jl fun _ _ => .int _) (qb 2) (ce_c (.int _))) (qa (qb 3) qf)))) qf)))))) (qX 4)
   (vi (jX (ct_b (qJ (qa (qb 0) (qa (qb 1) (qa (qb 4) qf))))))
   (qM (ce_c (.bl _)))
   qB)))
   (qM (ce_c (.bl _)))),fun us M Qu h => ?_⟩
 obtain ⟨s,o,ws,ps,turn,rfl,W,hsz,q⟩:=h
 have hn:=W.S.n
 walk_at "v"
 refine Jg (by decide) (by decide) ?_
 refine Qe (fun i ρ M' => ∃ x3 x4,ρ = [some (.m (s 0)),some (.m (o 0)),some (.p (.int (turn:Int))),x3,x4]∧M' = M) ⟨_,_,rfl,rfl⟩ ?_ ?_
 ·rintro i ρ M' hi ⟨x3,x4,rfl,rfl⟩
  have hi8:i < 8:=hi
  walk_at "v"
  have hall:∀ t ∈ [T.tup [T.str "kind", T.int (i:Int)],T.tup [T.str "told", T.int (i:Int)],T.tup [T.str "same", T.int (i:Int),T.int (((i:Int) + (turn:Int)) % 8)],T.tup [T.str "same", T.int ((turn:Int) % 8),T.int (i:Int)]],∃ ds ans,t = .tup ds∧DeedAsk ws ds ans:=by
   obtain ⟨x,hx⟩:=xT hn hi8
   obtain ⟨y,hy⟩:=xT hn (q:=(i + turn) % 8) (Nat.mod_lt _ (by decide))
   obtain ⟨z,hz⟩:=xT hn (q:=turn % 8) (Nat.mod_lt _ (by decide))
   rw [show ((i:Int) + (turn:Int)) % 8 = (((i + turn) % 8:Nat):Int) by omega,show (turn:Int) % 8 = ((turn % 8:Nat):Int) by omega]
   intro t ht
   simp only [List.mem_cons,List.not_mem_nil,or_false] at ht
   rcases ht with rfl | rfl | rfl | rfl
   ·exact ⟨_,_,rfl, .kind i x hx⟩
   ·exact ⟨_,_,rfl, .told i x hx⟩
   ·exact ⟨_,_,rfl, .same i _ x y hx hy⟩
   ·exact ⟨_,_,rfl, .same _ i z x hz hx⟩
  refine ⟨by decide,by decide, ?_⟩
  refine QN (fun j ρ M2 => ∃ x4,ρ = [some (.m (s 0)),some (.m (o 0)),some (.p (.int (turn:Int))),some (.p (.int (i:Int))),x4]∧M2 = M') ⟨_,rfl,rfl⟩ ?_ ?_
  ·rintro j t ρ M2 ht ⟨x4,rfl,rfl⟩
   obtain ⟨ds,ans,rfl,hd⟩:=hall t (List.mem_of_getElem? ht)
   walk_at "v"
   refine KK W hsz hd ?_
   walk_at "v"
   exact ⟨_,rfl⟩
  ·rintro ρ M2 ⟨x4,rfl,rfl⟩
   exact ⟨_,_,rfl,rfl⟩
 ·rintro ρ M' ⟨x3,x4,rfl,rfl⟩
  walk_at "v"
  exact q
abbrev zN:Stmt:=top 24
theorem scAnyNumber:FnScope ["bag", "kind", "sign"] ["bag"] (qc zN):=⟨rfl,rfl,rfl,by decide +kernel,rfl,by decide +kernel,by decide +kernel⟩
def xL:List U→MM→UK→Prop:=fun us M Q => ∃ (k:Nat) (o:MO),us = [.m k]∧M[k]? = some o∧BagO o∧∀ (n:Int) (o':MO),BagO o'→Bt 300 n→Q (.p (.int n)) (M.set k o')
theorem kI {f:Addr} {fd:FuncData} (F:Fun K "_law_any_number" "_law_any_number" zN f fd) (N:Nms mg) (DDraw:Def P w K mg base "_law_draw" 1 ["bag", "many"] (spU VW)):FnOk P w K mg base CX0 2 f fd ["bag"] (spU xL):=by
 refine F.zV scAnyNumber (fun us M Qu h => ?_) (fun cdv A outer s H E hr => ?_)
 ·obtain ⟨_,_,rfl,_⟩:=h
  rfl
 refine ⟨_,(qh (vq (i:=1) scAnyNumber.nd rfl (Or.inl rfl) (qU DDraw (hr.mono (by first | decide | exact Nat.le_refl _)) (qa_c (qv 0) (qa_c qe qd))))
  (qh (vq (i:=2) scAnyNumber.nd rfl (Or.inl rfl) (vp ki (vp kS (qU DDraw (hr.mono (by first | decide | exact Nat.le_refl _)) (qa_c (qv 0) (qa_c qe qd))) qe) qe))
  (qh (vz (qu VL (qv 1) qe (qC _))
   (qk (qF (vp ki (qU DDraw (hr.mono (by first | decide | exact Nat.le_refl _)) (qa_c (qv 0) (qa_c qe qd))) qe)))
   qG)
  (qh (vz (qu VL (qv 1) qe (qC _))
   (qk (qF (vp kS (qv 2) (vp ki (vp xm (vp op_shl qe (qU DDraw (hr.mono (by first | decide | exact Nat.le_refl _)) (qa_c (qv 0) (qa_c qe qd)))) (qU DDraw (hr.mono (by first | decide | exact Nat.le_refl _)) (qa_c (qv 0) (qa_c qe qd)))) qe))))
   qG)
  (qk (qF (vp kS (qv 2) (qU DDraw (hr.mono (by first | decide | exact Nat.le_refl _)) (qa_c (qv 0) (qa_c (qr (qm (K:=K) rfl) (vG (qa_c (vp Zr qe qe) (qa_c (vp Zr qe qe) qd))) (vp ki (qv 1) qe) (fun _ _ => rfl)) qd)))))))))),_,(qo (qQ (qJ (qa (qb 0) (qa (ce_c (.int _)) qf))) (qX 1))
   (qo (qQ (qE (zq fun _ _ => .int _) (qE (jl fun _ _ => .int _) (qJ (qa (qb 0) (qa (ce_c (.int _)) qf))) (ce_c (.int _))) (ce_c (.int _))) (qX 2))
   (qo (vi (qw (qE (zq fun _ _ => .bl _) (qb 1) (ce_c (.int _))))
   (qM (qE (zq fun _ _ => .int _) (qJ (qa (qb 0) (qa (ce_c (.int _)) qf))) (ce_c (.int _))))
   qB)
   (qo (vi (qw (qE (zq fun _ _ => .bl _) (qb 1) (ce_c (.int _))))
   (qM (qE (jl fun _ _ => .int _) (qb 2) (qE (zq fun _ _ => .int _) (qE (zq fun _ _ => .int _) (qE (jl fun _ _ => .int _) (ce_c (.int _)) (qJ (qa (qb 0) (qa (ce_c (.int _)) qf)))) (qJ (qa (qb 0) (qa (ce_c (.int _)) qf)))) (ce_c (.int _)))))
   qB)
   (qM (qE (jl fun _ _ => .int _) (qb 2) (qJ (qa (qb 0) (qa (qK (v9 (qa (qE (jl fun _ _ => .int _) (ce_c (.int _)) (ce_c (.int _))) (qa (qE (jl fun _ _ => .int _) (ce_c (.int _)) (ce_c (.int _))) qf))) (qE (zq fun _ _ => .int _) (qb 1) (ce_c (.int _)))) qf))))))))),fun us M M1 Qu e1 h => ?_⟩
 obtain ⟨k,o,rfl,em,hB,post⟩:=h
 obtain ⟨hkl,eM⟩:=MB_start em
 rw [e1.trans eM]
 have fin:∀ (z:Int) (o':MO),BagO o'→Bt 300 z→xS M (MB M k o' [])∧Qu (.p (.int z)) (List.take (List.length M) (MB M k o' [])):=fun z o' B h1 => ⟨MB_trim B.pur,by rw [MB_take]; exact post z o' B h1⟩
 walk_at "v"
 refine xZ hkl hB (by decide) (by decide) fun kd o1 w0 w1 B1 => ?_
 walk_at "v"
 refine xZ hkl B1 (by decide) (by decide) fun d2 o3 d20 d21 B3 => ?_
 walk_at "v"
 have hsg:d2 * 2 - 1 = 1∨d2 * 2 - 1 = -1:=by omega
 refine ⟨.inl ⟨by omega,by omega⟩, ?_⟩
 walk_at "v"
 refine ite2 (fun h1 => ?_) (fun h1 => ?_)
 ·refine xZ hkl B3 (by decide) (by decide) fun d o2 d0 d1 B2 => ?_
  walk_at "v"
  exact fin _ _ B2 (Bt.small (by omega) (by omega) (by decide))
 walk_at "v"
 refine ite2 (fun h2 => ?_) (fun h2 => ?_)
 ·refine xZ hkl B3 (by decide) (by decide) fun x o4 x0 x1 B4 => ?_
  walk_at "v"
  refine ⟨⟨by omega,by omega,by decide⟩, ?_⟩
  refine xZ hkl B4 (by decide) (by decide) fun d5 o5 d50 d51 B5 => ?_
  walk_at "v"
  refine ⟨.inl ⟨by omega,by omega⟩, ?_⟩
  refine fin _ _ B5 ?_
  have e2:=(Bt.pow x.toNat).add (Bt.small (i:=d5 - 2) (n:=62) (by omega) (by omega) (by decide))
  have e3:=(e2.sign hsg).mono (m:=300) (by omega)
  rw [show (1:Int) * 2 ^ x.toNat + d5 - 2 = 1 * 2 ^ x.toNat + (d5 - 2) by omega]
  exact e3
 ·walk_at "v"
  refine ⟨⟨by decide,by decide,by decide⟩,⟨by decide,by decide,by decide⟩, ?_⟩
  have h10:Bt 300 ((10:Int) ^ Int.toNat 60):=by unfold Bt; decide +kernel
  have h20:Bt 300 ((10:Int) ^ Int.toNat 20):=by unfold Bt; decide +kernel
  rcases (show kd = 4∨kd = 5 by omega) with rfl | rfl
  ·refine jp rfl ?_
   refine xZ hkl B3 (by decide) (by decide +kernel) fun x o4 x0 x1 B4 => ?_
   walk_at "v"
   refine ⟨.inl ⟨by omega,by omega⟩, ?_⟩
   walk_at "v"
   exact fin _ _ B4 ((h10.nonneg_le x0 (Int.le_of_lt x1)).sign hsg)
  ·refine jp rfl ?_
   refine xZ hkl B3 (by decide) (by decide +kernel) fun x o4 x0 x1 B4 => ?_
   walk_at "v"
   refine ⟨.inl ⟨by omega,by omega⟩, ?_⟩
   walk_at "v"
   exact fin _ _ B4 ((h20.nonneg_le x0 (Int.le_of_lt x1)).sign hsg)
def szW (m:Nat):Wt→Prop
 | .num n => Bt m n
 | _ => True
def szL (m:Nat) (ws:List Wt) (ps:WW):Prop:=(∀ x ∈ ws,szW m x)∧∀ x ∈ ps,szW m x.1∧szW m x.2
theorem szW.mono {m n:Nat} {x:Wt} (h:szW m x) (hm:m≤n):szW n x:=by
 cases x with
 | num a => exact Bt.mono h hm
 | _ => trivial
theorem szL.mono {m n:Nat} {ws:List Wt} {ps:WW} (h:szL m ws ps) (hm:m≤n):szL n ws ps:=⟨fun x hx => (h.1 x hx).mono hm,fun x hx => ⟨(h.2 x hx).1.mono hm,(h.2 x hx).2.mono hm⟩⟩
theorem szL.put {m r:Nat} {ws:List Wt} {ps:WW} {x:Wt} (h:szL m ws ps) (hx:szW (m + 1) x):szL (m + 1) (ws.set r x) ps:=⟨zY (fun y hy => (h.1 y hy).mono (by omega)) hx,fun y hy => ⟨(h.2 y hy).1.mono (by omega),(h.2 y hy).2.mono (by omega)⟩⟩
theorem szL.at {m q:Nat} {ws:List Wt} {ps:WW} {x:Wt} (h:szL m ws ps) (hq:ws[q]? = some x):szW m x:=h.1 x (List.mem_of_getElem? hq)
theorem szL.pi {m q:Nat} {ws:List Wt} {ps:WW} {x:Wt × Wt} (h:szL m ws ps) (hq:ps[q]? = some x):szW m x.1∧szW m x.2:=h.2 x (List.mem_of_getElem? hq)
theorem noPy {x y:Int} (h:Bt 13400 x):Builtin.divisionGoesByPylong x y = false:=by
 have key:(if x == 0 then 0 else x.natAbs.log2 / 30 + 1)≤447:=by
  by_cases hx:(x == 0) = true
  ·rw [if_pos hx]; exact Nat.zero_le _
  ·rw [if_neg hx]
   have h0:x.natAbs≠0:=fun z => hx (by rw [Int.natAbs_eq_zero.mp z]; rfl)
   have:=(Nat.log2_lt h0).mpr h
   omega
 show (decide ((if y == 0 then 0 else y.natAbs.log2 / 30 + 1) > 300) && decide ((if x == 0 then 0 else x.natAbs.log2 / 30 + 1) > (if y == 0 then 0 else y.natAbs.log2 / 30 + 1) + 150)) = false
 generalize (if y == 0 then 0 else y.natAbs.log2 / 30 + 1) = dy
 generalize (if x == 0 then 0 else x.natAbs.log2 / 30 + 1) = dx at key ⊢
 by_cases hy:dy > 300
 ·rw [decide_eq_false (p:=dx > dy + 150) (by omega),Bool.and_false]
 ·rw [decide_eq_false hy,Bool.false_and]
theorem bt_fdiv {n:Nat} {a b:Int} (ha:Bt n a) (hb:b≠0):Bt (n + 1) (a.fdiv b):=by
 unfold Bt at ha ⊢
 have key:∀ {x y:Int},0 < y→x.natAbs < 2 ^ n→(x.fdiv y).natAbs < 2 ^ (n + 1):=fun {x y} hy hx => by
  rw [Int.fdiv_eq_ediv_of_nonneg x (by omega)]
  have h1:=Int.natAbs_ediv_le_natAbs x y
  rw [Nat.pow_succ]; omega
 rcases Int.lt_or_lt_of_ne hb with h | h
 ·rw [← Int.neg_fdiv_neg]
  exact key (by omega) (by rwa [Int.natAbs_neg])
 ·exact key h ha
theorem bt_fmod {n:Nat} {a b:Int} (hb':Bt n b) (hb:b≠0):Bt n (a.fmod b):=by
 unfold Bt at hb' ⊢
 rcases Int.lt_or_lt_of_ne hb with h | h
 ·have e:a.fmod b = -((-a).fmod (-b)):=by rw [Int.neg_fmod_neg]; omega
  rw [e,Int.natAbs_neg,Int.fmod_eq_emod_of_nonneg _ (by omega)]
  have h1:=Int.emod_nonneg (-a) (show -b≠0 by omega)
  have h2:=Int.emod_lt_of_pos (-a) (show 0 < -b by omega)
  omega
 ·rw [Int.fmod_eq_emod_of_nonneg _ (by omega)]
  have h1:=Int.emod_nonneg a hb
  have h2:=Int.emod_lt_of_pos a h
  omega
inductive Formed:List T→Prop
 | num (r:Nat) (n:Int) (hr:r < 8) (hb:Bt 300 n):Formed [.str "number", .int (r:Int), .int n]
 | sgn (r:Nat) (n:Int) (hr:r < 8):Formed [.str "sign", .int (r:Int), .int n]
 | one (r:Nat) (n:Str) (hr:r < 8):Formed [.str "one", .int (r:Int), .str n]
 | copy (r q:Nat) (hr:r < 8) (hq:q < 8):Formed [.str "copy", .int (r:Int), .int (q:Int)]
 | five (w:Str) (hw:five w) (r q p:Nat) (hr:r < 8) (hq:q < 8) (hp:p < 8):Formed [.str w, .int (r:Int), .int (q:Int), .int (p:Int)]
 | pair (r q p:Nat) (hr:r < 8) (hq:q < 8) (hp:p < 8):Formed [.str "pair", .int (r:Int), .int (q:Int), .int (p:Int)]
 | get (w:Str) (hw:w = "first" ∨ w = "second") (r q:Nat) (hr:r < 8) (hq:q < 8):Formed [.str w, .int (r:Int), .int (q:Int)]
 | set (w:Str) (hw:w = "set_first" ∨ w = "set_second") (q p:Nat) (hq:q < 8) (hp:p < 8):Formed [.str w, .int (q:Int), .int (p:Int)]
 | below (q p:Nat) (hq:q < 8) (hp:p < 8):Formed [.str "below", .int (q:Int), .int (p:Int)]
def Tame (ws:List Wt) (ds:List T):Prop:=∀ (r q p:Nat) (a b:Int),ds = [.str "times", .int (r:Int), .int (q:Int), .int (p:Int)]→ws[q]? = some (.num a)→ws[p]? = some (.num b)→Bt 12000 (a * b)
theorem pr_or {x:Wt}:(∃ i,x = .pr i)∨vP x ≠ "pair" := by
 cases x with
 | pr i => exact .inl ⟨i,rfl⟩
 | _ => exact .inr (by dsimp only [vP]; decide)
theorem Zv {x:Wt}:(∃ a,x = .num a)∨vP x ≠ "number" := by
 cases x with
 | num i => exact .inl ⟨i,rfl⟩
 | _ => exact .inr (by dsimp only [vP]; decide)
def Comes (m:Nat) (ws:List Wt) (ps:WW) (ds:List T):Prop:=(∃ ws' ps',DeedDo ws ps ds ws' ps'∧ps'.length≤ps.length + 1∧szL (m + 1) ws' ps')∨(∃ ans,DeedAsk ws ds ans)∨(∃ nm p,DeedNo ws ds nm p)∨∃ p,AskNo ws ds p
theorem Formed.comes {m:Nat} {ws:List Wt} {ps:WW} {ds:List T} (h:Formed ds) (ht:Tame ws ds) (hn:ws.length = 8) (hk:∀ x ∈ ws,okW ps.length x) (hz:szL m ws ps) (m0:12000≤m) (m1:m≤13000):Comes m ws ps ds:=by
 cases h with
 | num r n hr hb => exact .inl ⟨_,_, .num r n hr,by omega,hz.put (hb.mono (by omega))⟩
 | sgn r n hr => exact .inl ⟨_,_, .sgn r n hr,by omega,hz.put trivial⟩
 | one r n hr => exact .inl ⟨_,_, .one r n hr,by omega,hz.put trivial⟩
 | copy r q hr hq =>
  obtain ⟨x,hx⟩:=xT hn hq
  exact .inl ⟨_,_, .copy r q x hr hx,by omega,hz.put ((hz.at hx).mono (by omega))⟩
 | five w hw r q p hr hq hp =>
  obtain ⟨x,hx⟩:=xT hn hq
  obtain ⟨y,hy⟩:=xT hn hp
  rcases Zv (x:=x) with ⟨a,rfl⟩ | hxk
  ·rcases Zv (x:=y) with ⟨b,rfl⟩ | hyk
   ·have ha:Bt m a:=hz.at hx
    have hb:Bt m b:=hz.at hy
    rcases hw with rfl | rfl | rfl | rfl | rfl
    ·exact .inl ⟨_,_, .plus r q p a b hr hx hy,by omega,hz.put ((ha.add hb).mono (by omega))⟩
    ·exact .inl ⟨_,_, .less r q p a b hr hx hy,by omega,hz.put ((ha.sub hb).mono (by omega))⟩
    ·exact .inl ⟨_,_, .times r q p a b hr hx hy (.of_bits (Nat.le_trans ha.bits (by omega)) (Nat.le_trans hb.bits (by omega))),by omega,hz.put ((ht r q p a b rfl hx hy).mono (by omega))⟩
    ·by_cases h0:b = 0
     ·subst h0
      exact .inr (.inr (.inl ⟨_,_, .nz _ (.inl rfl) r q p a hr hx hy⟩))
     ·exact .inl ⟨_,_, .over r q p a b hr hx hy h0 (noPy (ha.mono (by omega))),by omega,hz.put (bt_fdiv ha h0)⟩
    ·by_cases h0:b = 0
     ·subst h0
      exact .inr (.inr (.inl ⟨_,_, .nz _ (.inr rfl) r q p a hr hx hy⟩))
     ·exact .inl ⟨_,_, .rest r q p a b hr hx hy h0,by omega,hz.put ((bt_fmod hb h0).mono (by omega))⟩
   ·exact .inr (.inr (.inl ⟨_,_, .n2 w hw r q p a y hr hx hy hyk⟩))
  ·exact .inr (.inr (.inl ⟨_,_, .n1 w hw r q p x y hr hx hxk hy⟩))
 | pair r q p hr hq hp =>
  obtain ⟨x,hx⟩:=xT hn hq
  obtain ⟨y,hy⟩:=xT hn hp
  refine .inl ⟨_,_, .pair r q p x y hr hx hy,by rw [List.length_append]; exact Nat.le_refl _,(hz.put (r:=r) (x:=.pr ps.length) trivial).1,fun z hzz => ?_⟩
  rcases List.mem_append.mp hzz with h | h
  ·exact ⟨(hz.2 z h).1.mono (by omega),(hz.2 z h).2.mono (by omega)⟩
  ·cases List.mem_singleton.mp h
   exact ⟨(hz.at hx).mono (by omega),(hz.at hy).mono (by omega)⟩
 | get w hw r q hr hq =>
  obtain ⟨x,hx⟩:=xT hn hq
  rcases pr_or (x:=x) with ⟨i,rfl⟩ | hxk
  ·have hi:i < ps.length:=hk _ (List.mem_of_getElem? hx)
   have hpi:=List.getElem?_eq_getElem hi
   rcases hw with rfl | rfl
   ·exact .inl ⟨_,_, .first r q i _ hr hx hpi,by omega,hz.put ((hz.pi hpi).1.mono (by omega))⟩
   ·exact .inl ⟨_,_, .second r q i _ hr hx hpi,by omega,hz.put ((hz.pi hpi).2.mono (by omega))⟩
  ·exact .inr (.inr (.inl ⟨_,_, .p1 w hw r q x hr hx hxk⟩))
 | set w hw q p hq hp =>
  obtain ⟨x,hx⟩:=xT hn hq
  obtain ⟨y,hy⟩:=xT hn hp
  rcases pr_or (x:=x) with ⟨i,rfl⟩ | hxk
  ·have hi:i < ps.length:=hk _ (List.mem_of_getElem? hx)
   have hpi:=List.getElem?_eq_getElem hi
   have sy:=(hz.at hy).mono (n:=m + 1) (by omega)
   have s1:=(hz.pi hpi).1.mono (n:=m + 1) (by omega)
   have s2:=(hz.pi hpi).2.mono (n:=m + 1) (by omega)
   have z1:=hz.mono (n:=m + 1) (by omega)
   rcases hw with rfl | rfl
   ·exact .inl ⟨_,_, .setL q p i _ y hx hpi hy,by rw [List.length_set]; omega,z1.1,zY z1.2 ⟨sy,s2⟩⟩
   ·exact .inl ⟨_,_, .setR q p i _ y hx hpi hy,by rw [List.length_set]; omega,z1.1,zY z1.2 ⟨s1,sy⟩⟩
  ·exact .inr (.inr (.inl ⟨_,_, .p2 w hw q p x y hx hxk hy⟩))
 | below q p hq hp =>
  obtain ⟨x,hx⟩:=xT hn hq
  obtain ⟨y,hy⟩:=xT hn hp
  rcases Zv (x:=x) with ⟨a,rfl⟩ | hxk
  ·rcases Zv (x:=y) with ⟨b,rfl⟩ | hyk
   ·exact .inr (.inl ⟨_, .below q p a b hx hy⟩)
   ·exact .inr (.inr (.inr ⟨_, .b2 q p a y hx hy hyk⟩))
  ·exact .inr (.inr (.inr ⟨_, .b1 q p x y hx hxk hy⟩))
local macro_rules | `(tactic| walk_at "vx") => `(tactic| simp only [QU,XS,XR,QQ,kf,uTry,QV,QR,XX,XZ,endX,Zn,uAsG,rd_partE,rd_isX])
local macro_rules | `(tactic| walk_at "pk") => `(tactic| (walk_at "v"; repeat ((first | walk_at "vx" | refine zS (by decide) ?_ | refine vQ rfl ?_); walk_at "v")))
theorem No_is {ws:List Wt} {ds:List T} {nm:Str} {p:Option Int} (h:DeedNo ws ds nm p):(nm = "WrongKind" ∧ ∃ n,p = some n)∨(nm = "Nought" ∧ p = none):=by
 cases h <;> first | exact .inl ⟨rfl,_,rfl⟩ | exact .inr ⟨rfl,rfl⟩
theorem Qf {M L:MM}:xS M (M ++ L):=fun i o hi e => .inl (by rw [List.getElem?_append_left hi] at e; exact e)
theorem VC {M:MM} {a b c d:Bool}:sn (M ++ [.lst [.p (.bl a), .p (.bl b), .p (.bl c), .p (.bl d)]]) (.m M.length) = some (.lst ([a,b,c,d].map T.bl)):=by
 simp only [sn,vF]
 rfl
abbrev zu:Stmt:=top 31
theorem scClassRight:FnScope ["store", "deed", "word", "part", "told", "found", "e"] ["store", "deed", "word", "part"] (qc zu):=⟨rfl,rfl,rfl,by decide +kernel,rfl,by decide +kernel,by decide +kernel⟩
def Refd (ws:List Wt) (ds:List T) (nm:Str) (p:Option Int):Prop:=DeedNo ws ds nm p∨∃ q,nm = "WrongKind" ∧ p = some q∧AskNo ws ds q
def xY (C D:Addr):List U→MM→UK→Prop:=fun us M Q => ∃ (s:Nm) (ws:List Wt) (ps:WW) (ds:List T) (nm:Str) (p:Option Int),us = [.m (s 0), .p (.tup ds), .p (.str nm), .p (pT p)]∧Sto C D M s ws ps∧Refd ws ds nm p∧Q (.p (.bl true)) M
theorem kn {C D CEWk CENought CEWordError CENoRoom CEFaulty CENoText CENotFormed g:Addr} {f:Addr} {fd:FuncData} (F:Fun K "_law_class_right" "_law_class_right" zu f fd) (N:Nms mg) (NVE:mg "ValueError" = none)
  (CWk:ExcK K CEWk g) (AWk:NoAttr K CEWk "part") (BWk:mg "WrongKind" = some (.ref CEWk)) (BNought:mg "Nought" = some (.ref CENought)) (BWordError:mg "WordError" = some (.ref CEWordError)) (BNoRoom:mg "NoRoom" = some (.ref CENoRoom)) (BFaulty:mg "Faulty" = some (.ref CEFaulty)) (BNoText:mg "NoText" = some (.ref CENoText)) (BNotFormed:mg "NotFormed" = some (.ref CENotFormed))
  (EWk_Wk:PySem.W.exmOne K (.ref CEWk) (.ref CEWk) = some true) (ENought_Wk:PySem.W.exmOne K (.ref CENought) (.ref CEWk) = some false) (ENought_Nought:PySem.W.exmOne K (.ref CENought) (.ref CENought) = some true)
  (TWk:ExcT K CEWk) (TNought:ExcT K CENought)
  (IWk_ValueError:PySem.W.kitOne K (.ref CEWk) (.type "ValueError") = some true) (IWk_WordError:PySem.W.kitOne K (.ref CEWk) (.ref CEWordError) = some true) (IWk_Nought:PySem.W.kitOne K (.ref CEWk) (.ref CENought) = some false) (IWk_NoRoom_Faulty_NoText_NotFormed:PySem.W.kitAny K (.ref CEWk) [.ref CENoRoom, .ref CEFaulty, .ref CENoText, .ref CENotFormed] = some false)
  (INought_ValueError:PySem.W.kitOne K (.ref CENought) (.type "ValueError") = some true) (INought_WordError:PySem.W.kitOne K (.ref CENought) (.ref CEWordError) = some true) (INought_Wk:PySem.W.kitOne K (.ref CENought) (.ref CEWk) = some false) (INought_NoRoom_Faulty_NoText_NotFormed:PySem.W.kitAny K (.ref CENought) [.ref CENoRoom, .ref CEFaulty, .ref CENoText, .ref CENotFormed] = some false)
  (DDeedDone:DefX P w K mg base "_law_deed_done" 6 ["store", "deed"] (spX mg (js C D))) (DAlike:Def P w K mg base "_law_alike" 4 ["found", "due"] (spP (Vg 3))):FnOk P w K mg base CX0 7 f fd ["store", "deed", "word", "part"] (spU (xY C D)):=by
 refine F.zV scClassRight (fun us M Qu h => ?_) (fun cdv A outer s H E hr => ?_)
 ·obtain ⟨_,_,_,_,_,_,rfl,_⟩:=h
  rfl
 refine ⟨_,(qh (vq (i:=4) scClassRight.nd rfl (Or.inl rfl) (vG qd))
  (qh (vq (i:=5) scClassRight.nd rfl (Or.inl rfl) kQ)
  (qh (qs_try (l:=[("WrongKind", _),("Nought", _)]) ⟨rfl,rfl,rfl,rfl⟩ (fun _ _ =>
   (qZ (xk (zW DDeedDone (hr.mono (by first | decide | exact Nat.le_refl _)) (qa_c (qv 0) (qa_c (qv 1) qd))))))
   (Qw BWk (fun _ => (qh_gen (i:=6) ⟨rfl,rfl,rfl,rfl⟩ BWk EWk_Wk scClassRight.nd rfl rfl (fun _ _ _ ob => (qh (vq (i:=5) scClassRight.nd rfl (Or.inl rfl) (qe_part CWk AWk ob jo (qv 6)))
   (qh (vq (i:=4) scClassRight.nd rfl (Or.inl rfl) (vG (qa_c (Zq (qL (xN (K:=K) rfl TWk ob jo) (by rfl) N.isinstance qA (qa_c (qv 6) (qa_c (vM (v:=.ty "ValueError") (by rfl) NVE j2 rfl) qd))) (Q6 (qL (xN (K:=K) rfl TWk ob jo) (by rfl) N.isinstance qA (qa_c (qv 6) (qa_c (zG (v:=.ref CEWordError) rfl BWordError rfl) qd))))) (qa_c xr (qa_c (qL (xN (K:=K) rfl TWk ob jo) (by rfl) N.isinstance qA (qa_c (qv 6) (qa_c (zG (v:=.ref CENought) rfl BNought rfl) qd))) qd)))))
   (qk (VH (qe_lm PySem.F.slot_list_append PySem.F.type_list_append jn (qv 4) (qa_c (qL (Vs (K:=K) rfl TWk ob jo) (by rfl) N.isinstance qA (qa_c (qv 6) (qa_c (vg (qa_c (zG (v:=.ref CENoRoom) rfl BNoRoom rfl) (qa_c (zG (v:=.ref CEFaulty) rfl BFaulty rfl) (qa_c (zG (v:=.ref CENoText) rfl BNoText rfl) (qa_c (zG (v:=.ref CENotFormed) rfl BNotFormed rfl) qd))))) qd))) qd))))))))) (Qw BNought (fun _ => (Jo BWk ENought_Wk (qh_gen (i:=6) ⟨rfl,rfl,rfl,rfl⟩ BNought ENought_Nought scClassRight.nd rfl rfl (fun _ _ _ ob => (qh (vq (i:=4) scClassRight.nd rfl (Or.inl rfl) (vG (qa_c (Zq (qL (xN (K:=K) rfl TNought ob jo) (by rfl) N.isinstance qA (qa_c (qv 6) (qa_c (vM (v:=.ty "ValueError") (by rfl) NVE j2 rfl) qd))) (Q6 (qL (xN (K:=K) rfl TNought ob jo) (by rfl) N.isinstance qA (qa_c (qv 6) (qa_c (zG (v:=.ref CEWordError) rfl BWordError rfl) qd))))) (qa_c (qL (xN (K:=K) rfl TNought ob jo) (by rfl) N.isinstance qA (qa_c (qv 6) (qa_c (zG (v:=.ref CEWk) rfl BWk rfl) qd))) (qa_c xr qd)))))
   (qk (VH (qe_lm PySem.F.slot_list_append PySem.F.type_list_append jn (qv 4) (qa_c (qL (Vs (K:=K) rfl TNought ob jo) (by rfl) N.isinstance qA (qa_c (qv 6) (qa_c (vg (qa_c (zG (v:=.ref CENoRoom) rfl BNoRoom rfl) (qa_c (zG (v:=.ref CEFaulty) rfl BFaulty rfl) (qa_c (zG (v:=.ref CENoText) rfl BNoText rfl) (qa_c (zG (v:=.ref CENotFormed) rfl BNotFormed rfl) qd))))) qd))) qd))))))))) hh_nil)))
  (qh (vz (qu (Jw (K:=K) rfl hr.units) (qv 4) (vG (qa_c xr (qa_c (zx op_eq (qv 2) ql (qC _)) (qa_c (zx op_eq (qv 2) ql (qC _)) (qa_c xr qd))))) (qC _))
   (qk (qF xr))
   qG)
  (qk (qF (qe_or (zx op_eq (qv 2) ql (qC _)) (Q6 (qU DAlike (hr.mono (by first | decide | exact Nat.le_refl _)) (qa_c (qv 5) (qa_c (qv 3) qd))))))))))),_,(qo (qQ (Qa qf) (qX 4))
   (qo (qQ (ce_c .non) (qX 5))
   (qo (cs_try (zM (zZ (qa (qb 0) (qa (qb 1) qf)))) (Qd (fun _ => (cs_asG (fun _ _ => (qo (qQ (ce_part (qb 6)) (qX 5))
   (qo (qQ (Qa (qa (Zc (Qb (c:=.ty "ValueError") (cv:=.type "ValueError") rfl IWk_ValueError (qb 6)) (Qb (c:=.ref CEWordError) (cv:=.ref CEWordError) rfl IWk_WordError (qb 6))) (qa (ce_c (.bl _)) (qa (Qb (c:=.ref CENought) (cv:=.ref CENought) rfl IWk_Nought (qb 6)) qf)))) (qX 4))
   (V9 (ce_me jQ (qb 4) (qa (Kz (cs:=[.ref CENoRoom, .ref CEFaulty, .ref CENoText, .ref CENotFormed]) (cvs:=[.ref CENoRoom, .ref CEFaulty, .ref CENoText, .ref CENotFormed]) rfl IWk_NoRoom_Faulty_NoText_NotFormed (qb 6) (by simp)) qf)))))))) (Qd (fun _ => (cs_asG (fun _ _ => (qo (qQ (Qa (qa (Zc (Qb (c:=.ty "ValueError") (cv:=.type "ValueError") rfl INought_ValueError (qb 6)) (Qb (c:=.ref CEWordError) (cv:=.ref CEWordError) rfl INought_WordError (qb 6))) (qa (Qb (c:=.ref CEWk) (cv:=.ref CEWk) rfl INought_Wk (qb 6)) (qa (ce_c (.bl _)) qf)))) (qX 4))
   (V9 (ce_me jQ (qb 4) (qa (Kz (cs:=[.ref CENoRoom, .ref CEFaulty, .ref CENoText, .ref CENotFormed]) (cvs:=[.ref CENoRoom, .ref CEFaulty, .ref CENoText, .ref CENotFormed]) rfl INought_NoRoom_Faulty_NoText_NotFormed (qb 6) (by simp)) qf))))))) zh_nil)))
   (qo (vi (qw (qE Ju (qb 4) (v9 (qa (ce_c (.bl _)) (qa (qE ve (qb 2) (ce_c (.str _))) (qa (qE ve (qb 2) (ce_c (.str _))) (qa (ce_c (.bl _)) qf)))))))
   (qM (ce_c (.bl _)))
   qB)
   (qM (ce_orV (qE ve (qb 2) (ce_c (.str _))) (vW (qa (qb 5) (qa (qb 3) qf))))))))),fun us M M1 Qu e1 h => ?_⟩
 obtain ⟨s,ws,ps,ds,nm,p,rfl,S,hd,q⟩:=h
 rw [e1]
 have S2:Sto C D (M ++ [.lst []]) s ws ps:=S.go fun i hi => xn (S.lt hi)
 walk_at "pk"
 refine ⟨_,_,rfl,s,ws,ps,rfl,S2, ?_⟩
 rcases hd with hd | ⟨n,rfl,rfl,hd⟩
 ·rcases No_is hd with ⟨rfl,n,rfl⟩ | ⟨rfl,rfl⟩
  ·refine .inr (.inr (.inl ⟨_,_,hd, ?_⟩))
   refine ⟨_,_,_,_,rfl,rfl,rfl,fun a d => ?_⟩
   walk_at "pk"
   refine ⟨n,rfl, ?_⟩
   walk_at "pk"
   refine ⟨⟨_,rfl⟩,⟨_,rfl⟩,⟨_,rfl⟩, ?_⟩
   refine Xy vF ?_
   walk_at "pk"
   refine ⟨⟨_,rfl⟩,_,vF,by show 3 < sizeLine; decide, ?_⟩
   rw [j6]
   walk_at "pk"
   refine ⟨_,_,VC,rfl,eqBls (ns:=[true,true,false,false]) (ms:=[true,true,decide (Str.ofString "WrongKind" = Str.ofString "Nought"),false]) ?_⟩
   rw [decide_eq_false (show ¬ Str.ofString "WrongKind" = Str.ofString "Nought" by decide)]
   walk_at "pk"
   refine ⟨.int n,rfl,trivial, ?_⟩
   walk_at "pk"
   rw [List.append_assoc]
   exact ⟨Qf,by rw [List.take_left]; exact q⟩
  ·refine .inr (.inr (.inl ⟨_,_,hd, ?_⟩))
   refine ⟨_,_,_,_,rfl,rfl,rfl,fun a d => ?_⟩
   walk_at "pk"
   refine ⟨⟨_,rfl⟩,⟨_,rfl⟩,⟨_,rfl⟩, ?_⟩
   refine Xy vF ?_
   walk_at "pk"
   refine ⟨⟨_,rfl⟩,_,vF,by show 3 < sizeLine; decide, ?_⟩
   rw [j6]
   walk_at "pk"
   refine ⟨_,_,VC,rfl,eqBls (ns:=[true,false,true,false]) (ms:=[true,decide (Str.ofString "Nought" = Str.ofString "WrongKind"),true,false]) ?_⟩
   rw [decide_eq_false (show ¬ Str.ofString "Nought" = Str.ofString "WrongKind" by decide)]
   walk_at "pk"
   rw [List.append_assoc]
   exact ⟨Qf,by rw [List.take_left]; exact q⟩
 ·refine .inr (.inr (.inr ⟨_,hd, ?_⟩))
  refine ⟨_,_,_,_,rfl,rfl,rfl,fun a d => ?_⟩
  walk_at "pk"
  refine ⟨n,rfl, ?_⟩
  walk_at "pk"
  refine ⟨⟨_,rfl⟩,⟨_,rfl⟩,⟨_,rfl⟩, ?_⟩
  refine Xy vF ?_
  walk_at "pk"
  refine ⟨⟨_,rfl⟩,_,vF,by show 3 < sizeLine; decide, ?_⟩
  rw [j6]
  walk_at "pk"
  refine ⟨_,_,VC,rfl,eqBls (ns:=[true,true,false,false]) (ms:=[true,true,decide (Str.ofString "WrongKind" = Str.ofString "Nought"),false]) ?_⟩
  rw [decide_eq_false (show ¬ Str.ofString "WrongKind" = Str.ofString "Nought" by decide)]
  walk_at "pk"
  refine ⟨.int n,rfl,trivial, ?_⟩
  walk_at "pk"
  rw [List.append_assoc]
  exact ⟨Qf,by rw [List.take_left]; exact q⟩
structure Run (C D:Addr) (M:MM) (s o:Nm) (ob:MO) (ws:List Wt) (ps:WW):Prop where
 b:M[0]? = some ob
 B:BagO ob
 W:Two C D M s o ws ps
 zs:∀ i,i < ps.length + 2→0 < s i
 zo:∀ i,i < ps.length + 3→0 < o i
section
variable {C D:Addr} {M M':MM} {s o s' o':Nm} {ob ob':MO} {ws ws':List Wt} {ps ps':WW} {Q:UK} {ds:List T}
theorem Two.frame (W:Two C D M s o ws ps) (h1:∀ i,i < ps.length + 2→M'[s i]? = M[s i]?) (h2:∀ i,i < ps.length + 3→M'[o i]? = M[o i]?):Two C D M' s o ws ps:=⟨W.S.go h1,W.O.go h2,W.d⟩
theorem Run.draw (R:Run C D M s o ob ws ps) (B':BagO ob'):Run C D (M.set 0 ob') s o ob' ws ps :=
 ⟨List.getElem?_set_self (List.getElem?_eq_some_iff.mp R.b).1,B',R.W.frame (fun i hi => List.getElem?_set_ne (by have:=R.zs i hi; omega)) fun i hi => List.getElem?_set_ne (by have:=R.zo i hi; omega),R.zs,R.zo⟩
theorem Run.go (R:Run C D M s o ob ws ps) (W':Two C D M' s' o' ws' ps') (g:Go2 M M' s o s' o' ps.length ps'.length):Run C D M' s' o' ob ws' ps':=by
 have hl:=(List.getElem?_eq_some_iff.mp R.b).1
 refine ⟨(g.fr 0 hl (fun i hi => by have:=R.zs i hi; omega) fun i hi => by have:=R.zo i hi; omega).trans R.b,R.B,W',fun i hi => ?_,fun i hi => ?_⟩
 ·rcases g.ns i hi with ⟨j,hj,e⟩ | e
  ·have:=R.zs j hj
   omega
  ·omega
 ·rcases g.no i hi with ⟨j,hj,e⟩ | e
  ·have:=R.zo j hj
   omega
  ·omega
theorem Run.drawS (R:Run C D M s o ob ws ps) {many:Int} (h0:0 < many) (h1:many.natAbs.log2 < 9000) (q:∀ (M':MM) (found:Int) (ob':MO),0≤found→found < many→Run C D M' s o ob' ws ps→Q (.p (.int found)) M'):VW [.m 0, .p (.int many)] M Q :=
 ⟨0,ob,many,rfl,R.b,R.B,h0,h1,fun f o' f0 f1 B' => q _ f o' f0 f1 (R.draw B')⟩
theorem Run.doS (R:Run C D M s o ob ws ps) (hz:ps.length < 1000) (hd:DeedDo ws ps ds ws' ps') (q:∀ (M':MM) (s' o':Nm),s' 0 = s 0→o' 0 = o 0→Run C D M' s' o' ob ws' ps'→Q (.p (.bl true)) M'):VX C D [.m (s 0), .m (o 0), .p (.tup ds)] M Q :=
 ⟨s,o,ws,ps,ds,rfl,R.W,hz, .inl ⟨ws',ps',hd,fun M' s' o' W g => q M' s' o' g.z g.y (R.go W g)⟩⟩
theorem Run.sameS (R:Run C D M s o ob ws ps) (hz:ps.length < 1000) {k:Nat} (q:Q (.p (.bl true)) M):j8 C D [.m (s 0), .m (o 0), .p (.int (k:Int))] M Q:=⟨s,o,ws,ps,k,rfl,R.W,hz,q⟩
end
theorem Two.stepO {C D:Addr} {M M1 M2:MM} {s o s' o':Nm} {ws ws':List Wt} {ps ps':WW} (W:Two C D M s o ws ps) (O1:Own M1 o' ws' ps') (g1:Go M M1 o o' (ps.length + 3) (ps'.length + 3)) (S2:Sto C D M2 s' ws' ps') (g2:Go M1 M2 s s' (ps.length + 2) (ps'.length + 2)):Two C D M2 s' o' ws' ps'∧Go2 M M2 s o s' o' ps.length ps'.length:=by
 have lt:∀ j,j < ps.length + 2→s j < M.length:=fun j hj => W.S.lt hj
 have ne:∀ i j,i < ps.length + 2→j < ps'.length + 3→s i≠o' j:=fun i j hi hj z => by
  rcases g1.nw j hj with ⟨l,hl,e⟩ | e
  ·exact W.d i l hi hl (z.trans e)
  ·have:=lt i hi
   omega
 refine ⟨⟨S2,O1.go fun i hi => g2.fr _ (O1.lt hi) fun j hj z => ne j i hj hi z.symm,fun i j hi hj z => ?_⟩,⟨Nat.le_trans g1.len g2.len,fun k hk h1 h2 => ?_,fun i hi => ?_,g1.nw,g2.z,g1.z⟩⟩
 ·rcases g2.nw i hi with ⟨l,hl,e⟩ | e
  ·exact ne l j hl hj (e.symm.trans z)
  ·have:=O1.lt hj
   omega
 ·have:=g1.len
  rw [g2.fr k (by omega) h1,g1.fr k hk h2]
 ·have:=g1.len
  rcases g2.nw i hi with h | h
  ·exact .inl h
  ·exact .inr (by omega)
theorem Two.midS {C D:Addr} {M M1:MM} {s o o':Nm} {ws:List Wt} {ps:WW} {n':Nat} (W:Two C D M s o ws ps) (g1:Go M M1 o o' (ps.length + 3) n'):Sto C D M1 s ws ps:=W.S.go fun i hi => g1.fr _ (W.S.lt hi) fun j hj z => W.d i j hi hj z
def Xm (x:Wt × Wt):T:=.lst [tO x.1,tO x.2]
def keptL (ws:List Wt) (ps:WW):List T:=[.lst (ws.map tO), .lst (ps.map Xm)]
theorem Kg {f:U→Option T}:∀ {us:List U} {ts:List T},us.length = ts.length→(∀ (i:Nat) u t,us[i]? = some u→ts[i]? = some t→f u = some t)→frzs f us = some ts
 | [], [],_,_ => rfl
 | u :: us,t :: ts,hl,h => by
  have h0:=h 0 u t rfl rfl
  have ih:=Kg (us:=us) (ts:=ts) (by simpa using hl) fun i a b ha hb => h (i + 1) a b (by simpa using ha) (by simpa using hb)
  simp [frzs,h0,ih]
 | [],_ :: _,hl,_ => by simp at hl
 | _ :: _, [],hl,_ => by simp at hl
theorem Qy {n k:Nat} {M:MM} {us:List U} {ts:List T} (e:M[k]? = some (.lst us)) (hl:us.length = ts.length) (h:∀ (i:Nat) u t,us[i]? = some u→ts[i]? = some t→frzN n M u = some t):frzN (n + 1) M (.m k) = some (.lst ts):=by
 simp only [frzN,e]
 rw [Kg hl h]
 rfl
theorem frz_p {n:Nat} {M:MM} {t:T}:frzN n M (.p t) = some t:=by cases n <;> rfl
theorem Own.frz {M:MM} {o:Nm} {ws:List Wt} {ps:WW} (O:Own M o ws ps):frzN 5 M (.m (o 0)) = some (.lst (keptL ws ps)):=by
 refine Qy O.o0 rfl fun i u t hu ht => ?_
 match i with
 | 0 =>
  cases hu; cases ht
  refine Qy O.b (by rw [List.length_map,List.length_map]) fun i u t hu ht => ?_
  rw [List.getElem?_map] at hu ht
  cases e:ws[i]? with
  | none => rw [e] at hu; cases hu
  | some x => rw [e] at hu ht; cases hu; cases ht; exact frz_p
 | 1 =>
  cases hu; cases ht
  refine Qy O.c (by rw [List.length_map,List.length_map,List.length_range]) fun i u t hu ht => ?_
  rw [List.getElem?_map] at hu ht
  cases e:ps[i]? with
  | none => rw [e] at ht; cases ht
  | some x =>
   have hi:=(List.getElem?_eq_some_iff.mp e).1
   rw [List.getElem?_range hi] at hu
   rw [e] at ht
   cases hu; cases ht
   refine Qy (O.p i x e) rfl fun j u t hu ht => ?_
   match j with
   | 0 => cases hu; cases ht; exact frz_p
   | 1 => cases hu; cases ht; exact frz_p
   | j + 2 => simp at hu
 | i + 2 => simp at hu
theorem fl_tO (x:Wt):flD 3 (tO x):=by
 cases x with
 | sgn k => intro y hy; simp only [List.mem_cons,List.not_mem_nil,or_false] at hy; rcases hy with rfl | rfl <;> trivial
 | pr k => intro y hy; simp only [List.mem_cons,List.not_mem_nil,or_false] at hy; rcases hy with rfl | rfl <;> trivial
 | _ => trivial
theorem Kk:∀ {n:Nat} {t:T},flD n t→flD (n + 1) t
 | 0,_,h => h.elim
 | n + 1, .tup xs,h => fun x hx => Kk (h x hx)
 | n + 1, .lst xs,h => fun x hx => Kk (h x hx)
 | n + 1, .non,_ => trivial
 | n + 1, .bl _,_ => trivial
 | n + 1, .int _,_ => trivial
 | n + 1, .str _,_ => trivial
theorem flD_le {n m:Nat} {t:T} (h:flD n t) (hm:n≤m):flD m t:=by
 induction hm with
 | refl => exact h
 | step _ ih => exact Kk ih
theorem QF {ws:List Wt} {ps:WW}:∀ x ∈ keptL ws ps,flD 20 x:=fun x hx => by
 simp only [keptL,List.mem_cons,List.not_mem_nil,or_false] at hx
 rcases hx with rfl | rfl
 ·exact fun y hy => by
   obtain ⟨z,_,rfl⟩:=List.mem_map.mp hy
   exact flD_le (m:=19) (fl_tO z) (by decide)
 ·exact fun y hy => by
   obtain ⟨z,_,rfl⟩:=List.mem_map.mp hy
   intro u hu
   simp only [List.mem_cons,List.not_mem_nil,or_false] at hu
   rcases hu with rfl | rfl <;> exact flD_le (m:=18) (fl_tO _) (by decide)
theorem Own.sn1 {M:MM} {o:Nm} {ws:List Wt} {ps:WW} (O:Own M o ws ps):sn M (.m (o 1)) = some (.lst (ws.map tO)):=by
 have e:(ws.map fun x => U.p (tO x)) = (ws.map tO).map U.p:=by rw [List.map_map]; rfl
 simp only [sn,O.b,ol,e,xG]
 rfl
theorem Own.snp {M:MM} {o:Nm} {ws:List Wt} {ps:WW} (O:Own M o ws ps) {i:Nat} {x:Wt × Wt} (h:ps[i]? = some x):sn M (.m (o (i + 3))) = some (Xm x):=by
 simp only [sn,O.p i x h,pl]
 rfl
abbrev jN:Stmt:=top 32
theorem scFilled:FnScope ["bag", "store", "own", "r", "kind", "some"] ["bag", "store", "own"] (qc jN):=⟨rfl,rfl,rfl,by decide +kernel,rfl,by decide +kernel,by decide +kernel⟩
def VV (C D:Addr):List U→MM→UK→Prop:=fun us M Q => ∃ (s o:Nm) (ob:MO) (ws:List Wt),us = [.m 0, .m (s 0), .m (o 0)]∧Run C D M s o ob ws []∧szL 300 ws []∧∀ M' s' o' ob' ws' ps',s' 0 = s 0→o' 0 = o 0→ps'.length≤8→szL 300 ws' ps'→Run C D M' s' o' ob' ws' ps'→Q (.p (.bl true)) M'
theorem szL.put0 {m r:Nat} {ws:List Wt} {ps:WW} {x:Wt} (h:szL m ws ps) (hx:szW m x):szL m (ws.set r x) ps:=⟨zY h.1 hx,h.2⟩
theorem Run.anyS {C D:Addr} {M:MM} {s o:Nm} {ob:MO} {ws:List Wt} {ps:WW} {Q:UK} (R:Run C D M s o ob ws ps) (q:∀ (M':MM) (n:Int) (ob':MO),Bt 300 n→Run C D M' s o ob' ws ps→Q (.p (.int n)) M'):xL [.m 0] M Q :=
 ⟨0,ob,rfl,R.b,R.B,fun n o' B' h => q _ n o' h (R.draw B')⟩
theorem Xs {C D:Addr} {f:Addr} {fd:FuncData} (F:Fun K "_law_filled" "_law_filled" jN f fd) (N:Nms mg) (DDraw:Def P w K mg base "_law_draw" 1 ["bag", "many"] (spU VW)) (DAnyNumber:Def P w K mg base "_law_any_number" 2 ["bag"] (spU xL)) (DBoth:Def P w K mg base "_law_both" 8 ["store", "own", "deed"] (spU (VX C D))):FnOk P w K mg base CX0 9 f fd ["bag", "store", "own"] (spU (VV C D)):=by
 refine F.zU scFilled (fun us M Qu h => ?_) (fun cdv A outer s H E hr => ?_)
 ·obtain ⟨_,_,_,_,rfl,_⟩:=h
  rfl
 refine ⟨_,(qh (kP PassesOwn.never rfl (ji rfl N.range (qa_c qe qd)) (zw (i:=3) scFilled.nd rfl (Or.inl rfl))
   (qh (vq (i:=4) scFilled.nd rfl (Or.inl rfl) (qU DDraw (hr.mono (by first | decide | exact Nat.le_refl _)) (qa_c (qv 0) (qa_c qe qd))))
   (qh (vq (i:=5) scFilled.nd rfl (Or.inl rfl) (vG (qa_c (vg (qa_c ql (qa_c (qv 3) (qa_c (qU DAnyNumber (hr.mono (by first | decide | exact Nat.le_refl _)) (qa_c (qv 0) qd)) qd)))) (qa_c (vg (qa_c ql (qa_c (qv 3) (qa_c qe qd)))) (qa_c (vg (qa_c ql (qa_c (qv 3) (qa_c (qU DDraw (hr.mono (by first | decide | exact Nat.le_refl _)) (qa_c (qv 0) (qa_c qe qd))) qd)))) qd)))))
   (qh (vq (i:=5) scFilled.nd rfl (Or.inl rfl) (vp JA (qv 5) (vG (qa_c (vg (qa_c ql (qa_c (qv 3) (qa_c (qr (qm (K:=K) rfl) (vG (qa_c ql (qa_c ql (qa_c ql qd)))) (qU DDraw (hr.mono (by first | decide | exact Nat.le_refl _)) (qa_c (qv 0) (qa_c qe qd))) (fun _ _ => rfl)) qd)))) (qa_c (vg (qa_c ql (qa_c (qv 3) (qa_c (qU DDraw (hr.mono (by first | decide | exact Nat.le_refl _)) (qa_c (qv 0) (qa_c qe qd))) (qa_c (qv 3) qd))))) qd)))))
   (qk (vz (jh (zQ (qU DBoth (hr.mono (by first | decide | exact Nat.le_refl _)) (qa_c (qv 1) (qa_c (qv 2) (qa_c (qr (qm (K:=K) rfl) (qv 5) (qv 4) (fun _ _ => rfl)) qd))))))
    (qk (qF xr))
    qG))))))
  (qk (qF xr))),_,(qo (Vn (Za (qa (ce_c (.int _)) qf)) (qX 3)
   (qo (qQ (qJ (qa (qb 0) (qa (ce_c (.int _)) qf))) (qX 4))
   (qo (qQ (v9 (qa (vm (qa (ce_c (.str _)) (qa (qb 3) (qa (qJ (qa (qb 0) qf)) qf)))) (qa (vm (qa (ce_c (.str _)) (qa (qb 3) (qa (ce_c (.int _)) qf)))) (qa (vm (qa (ce_c (.str _)) (qa (qb 3) (qa (qJ (qa (qb 0) (qa (ce_c (.int _)) qf))) qf)))) qf)))) (qX 5))
   (qo (qQ (qE VJ (qb 5) (v9 (qa (vm (qa (ce_c (.str _)) (qa (qb 3) (qa (qK (v9 (qa (ce_c (.str _)) (qa (ce_c (.str _)) (qa (ce_c (.str _)) qf)))) (qJ (qa (qb 0) (qa (ce_c (.int _)) qf)))) qf)))) (qa (vm (qa (ce_c (.str _)) (qa (qb 3) (qa (qJ (qa (qb 0) (qa (ce_c (.int _)) qf))) (qa (qb 3) qf))))) qf)))) (qX 5))
   (vi (jX (ct_b (qJ (qa (qb 1) (qa (qb 2) (qa (qK (qb 5) (qb 4)) qf))))))
   (qM (ce_c (.bl _)))
   qB)))))
   (qM (ce_c (.bl _)))),fun us M Qu h => ?_⟩
 obtain ⟨s0,o0,ob0,ws0,rfl,R0,hz0,post⟩:=h
 walk_at "v"
 refine Jg (by decide) (by decide) ?_
 refine Qe (fun i ρ M' => ∃ s o ob ws ps x3 x4 x5,ρ = [some (.m 0),some (.m (s 0)),some (.m (o 0)),x3,x4,x5]∧s 0 = s0 0∧o 0 = o0 0∧ps.length≤i∧szL 300 ws ps∧Run C D M' s o ob ws ps) ⟨s0,o0,ob0,ws0, [],_,_,_,rfl,rfl,rfl,Nat.le_refl _,hz0,R0⟩ ?_ ?_
 ·rintro i ρ M' hi ⟨s,o,ob,ws,ps,x3,x4,x5,rfl,es,eo,hl,hz,R⟩
  have hi8:i < 8:=hi
  walk_at "v"
  refine R.drawS (by decide) (by decide) fun M1 kd ob1 k0 k1 R1 => ?_
  walk_at "v"
  refine R1.anyS fun M2 n ob2 hn R2 => ?_
  walk_at "v"
  refine R2.drawS (by decide) (by decide) fun M3 sg ob3 g0 g1 R3 => ?_
  walk_at "v"
  refine R3.drawS (by decide) (by decide) fun M4 e2 ob4 e20 e21 R4 => ?_
  obtain ⟨tx,htx⟩:∃ tx:Str,atI [T.str "none", T.str "no", T.str "yes"] e2 = some (.str tx):=by
   rcases (show e2 = 0∨e2 = 1∨e2 = 2 by omega) with rfl | rfl | rfl <;> exact ⟨_,rfl⟩
  refine jp htx ?_
  walk_at "v"
  refine R4.drawS (by decide) (by decide) fun M5 q ob5 q0 q1 R5 => ?_
  obtain ⟨q,rfl⟩:∃ j:Nat,q = (j:Int):=⟨q.toNat,by omega⟩
  have hq8:q < 8:=by omega
  walk_at "v"
  refine ⟨by show 3 + 2≤sizeLine; decide, ?_⟩
  walk_at "v"
  obtain ⟨x,hx⟩:=xT R5.W.S.n hq8
  obtain ⟨y,hy⟩:=xT R5.W.S.n hi8
  obtain ⟨dd,ws',ps',hdd,hd,hl',hz'⟩:∃ dd ws' ps',atI [T.tup [T.str "number", T.int (i:Int),T.int n],T.tup [T.str "number", T.int (i:Int),T.int 0],T.tup [T.str "sign", T.int (i:Int),T.int sg],T.tup [T.str "one", T.int (i:Int),T.str tx],T.tup [T.str "pair", T.int (i:Int),T.int (q:Int),T.int (i:Int)]] kd = some (.tup dd)∧DeedDo ws ps dd ws' ps'∧ps'.length≤i + 1∧szL 300 ws' ps':=by
   rcases (show kd = 0∨kd = 1∨kd = 2∨kd = 3∨kd = 4 by omega) with rfl | rfl | rfl | rfl | rfl
   ·exact ⟨_,_,_,rfl, .num i n hi8,by omega,hz.put0 hn⟩
   ·exact ⟨_,_,_,rfl, .num i 0 hi8,by omega,hz.put0 (Bt.small (by decide) (by decide) (by decide))⟩
   ·exact ⟨_,_,_,rfl, .sgn i sg hi8,by omega,hz.put0 trivial⟩
   ·exact ⟨_,_,_,rfl, .one i tx hi8,by omega,hz.put0 trivial⟩
   ·refine ⟨_,_,_,rfl, .pair i q i x y hi8 hx hy,by rw [List.length_append]; exact Nat.succ_le_succ hl,(hz.put0 (r:=i) (x:=.pr ps.length) trivial).1,fun z hzz => ?_⟩
    rcases List.mem_append.mp hzz with h | h
    ·exact hz.2 z h
    ·cases List.mem_singleton.mp h
     exact ⟨hz.at hx,hz.at hy⟩
  refine jp hdd ?_
  refine R5.doS (by omega) hd fun M6 s6 o6 e3 e4 R6 => ?_
  walk_at "v"
  exact ⟨s6,o6,ob5,ws',ps',_,_,_,by rw [e3,e4],e3.trans es,e4.trans eo,hl',hz',R6⟩
 ·rintro ρ M' ⟨s,o,ob,ws,ps,x3,x4,x5,rfl,es,eo,hl,hz,R⟩
  walk_at "v"
  exact post M' s o ob ws ps es eo hl hz R
def X5 (K:PySem.W.Frag):Sp:=fun vs H Q _ => ∃ (a:Addr) (ns:List Int),vs = [.ref a]∧SqL K H a (ns.map V.int)∧ns.length≤63∧∀ H',Q (.bl true) H'
theorem law_okU {st:Stmt} {f:Addr} {fd:FuncData} {N:List Str} {k:Nat} (F:Fun K "law" "law" st f fd) (S:FnScope N ["script"] (qc st)) (hN:2≤N.length)
  (hbody:∀ (cdv:Value) (A:Around) (outer:List Env) (s:Shared) (H:Hp) (E:XK),Room k (A.deeper (envOfC "law" (qc st) s.heap.objs.size f cdv)) →
   ∃ tR,QSs (cxOf CX0 P w K mg base N "law" (qc st) f cdv A outer s H E).nox (qg st) (tSeq (tAsg (vL (spBag K) [] E0 (vo (tVar 0) tNil)) (qI 1)) tR)∧∃ uR,ZS tR uR∧∀ o,BagO o→uR { nx:=fun _ _ => False,rt:=fun z _ => z = .p (.bl true) } (none :: some (.m 0) :: List.replicate (N.length - 2) none) [o]):FnOk P w K mg base CX0 (k + 1) f fd ["script"] (X5 K):=by
 refine F.okQ S (fun vs H Q E h => ?_) (fun cdv A outer s H vs Q E hr h => ?_)
 ·obtain ⟨_,_,rfl,_⟩:=h
  rfl
 ·obtain ⟨a,ns,rfl,hS,hlen,k⟩:=h
  obtain ⟨tR,hT,uR,hU,hq⟩:=hbody cdv A outer s H E hr
  refine ⟨_,hT, ?_⟩
  have hN2:L2.start N [.ref a] = some (.ref a) :: none :: List.replicate (N.length - 2) none:=by
   unfold L2.start
   obtain ⟨m,hm⟩:∃ m,N.length = m + 2:=⟨N.length - 2,by omega⟩
   rw [hm]
   rfl
  rw [hN2]
  simp only [tSeq,tAsg,vL,vo,tNil,tVar,qI,List.getElem?_cons_zero,Option.some.injEq,exists_eq_left',List.append_nil,List.set_cons_zero,List.set_cons_succ]
  refine ⟨a,ns,rfl,hS,hlen,fun b H1 hb s1 B1 => ?_⟩
  obtain ⟨c,ns',i,a',st',n,hbb,hcc,r⟩:=id B1.ex
  have ncb:c≠b:=KG hbb hcc
  obtain ⟨o,hbo,ro,_⟩:=Z7 (A:=fun _ => False) (ι:=[b]) B1 ⟨_,hbb⟩ (fun z => z.elim id fun z => ncb (by simpa using z))
  have w1:L2.Wd (fun _ => False) [b] H1 [o]:=⟨by simp,rfl,fun x hx => hx.elim,fun x _ z => z,fun k a2 o2 e1 e2 => by
   match k,e1,e2 with
   | 0,e1,e2 => cases e1; cases e2; exact ro
   | k + 1,e1,_ => simp at e1⟩
  have env:EnvR (fun _ => False) [b] H1 (some (.ref a) :: some (.ref b) :: List.replicate (N.length - 2) none) (none :: some (.m 0) :: List.replicate (N.length - 2) none):=by
   refine .cons (fun u e => by cases e) (.cons (fun u e => by cases e; exact ⟨_,rfl, .m rfl⟩) ?_)
   generalize N.length - 2 = m
   induction m with
   | zero => exact .nil
   | succ m ih => exact .cons (fun u e => by cases e) ih
  refine hU.h (fun _ => False) [b] _ H1 _ [o] _ { nx:=fun _ _ => False,rt:=fun z _ => z = .p (.bl true) } w1 env ⟨fun _ _ _ _ _ _ _ _ q => q.elim,fun ι v H2 u M _ _ ru q => ?_,fun _ _ _ _ _ _ _ _ q => q.elim,fun _ _ _ _ _ _ _ _ q => q.elim⟩ (hq o hbo)
  have q:u = .p (.bl true):=q
  subst q
  cases ru with
  | p r => cases r; exact k H2
local macro_rules | `(tactic| walk_at "vx") => `(tactic| simp only [rd_cmpF])
local macro_rules | `(tactic| walk_at "pk") => `(tactic| (walk_at "v"; repeat ((first | walk_at "vx" | refine zS (by decide) ?_ | refine vQ rfl ?_); walk_at "v")))
abbrev sLaw:Stmt:=top 33
theorem scLaw:FnScope ["script", "bag", "k", "store", "own", "r", "q", "p", "some", "deed", "kept", "word", "part", "one"] ["script"] (qc sLaw):=⟨rfl,rfl,rfl,by decide +kernel,rfl,by decide +kernel,by decide +kernel⟩
def wsN:List Wt:=List.replicate 8 (.one "none")
def sB (n:Nat):Nm:=fun i => n + i
def oB (n:Nat):Nm:=fun i => if i = 0 then n + 4 else n + 1 + i
def NewM (C:Addr) (M:MM):MM:=M ++ [.ins C [("held", .m (M.length + 1))],hl id wsN,ol wsN, .lst [], .lst [.m (M.length + 2), .m (M.length + 3)]]
theorem app_at {α:Type} {l m:List α} {i:Nat}:(l ++ m)[l.length + i]? = m[i]?:=by rw [List.getElem?_append_right (by omega),Nat.add_sub_cancel_left]
theorem X6 {α:Type} {l:List α} {x y z:α}:(l ++ [x,y]).set l.length z = l ++ [z,y]:=by
 rw [List.set_append_right _ _ (Nat.le_refl _),Nat.sub_self]
 rfl
theorem Je {C D:Addr} {M:MM} {ob:MO} (h:M[0]? = some ob) (B:BagO ob):Run C D (NewM C M) (sB M.length) (oB M.length) ob wsN []:=by
 have hl:=(List.getElem?_eq_some_iff.mp h).1
 have h8:∀ x ∈ wsN,okW 0 x:=fun x hx => by
  rw [List.eq_of_mem_replicate hx]; trivial
 unfold NewM
 refine ⟨by rw [List.getElem?_append_left hl]; exact h,B,⟨⟨app_at (i:=0),app_at (i:=1),fun i x h => by simp at h,rfl,fun i j hi hj z => by unfold sB at z; omega,h8,fun x hx => by simp at hx⟩,⟨app_at (i:=4),app_at (i:=2),app_at (i:=3),fun i x h => by simp at h,rfl,fun i j hi hj z => ?_,h8,fun x hx => by simp at hx⟩,fun i j hi hj z => ?_⟩,fun i hi => by unfold sB; omega,fun i hi => ?_⟩
 ·unfold oB at z
  have hi:i < 3:=hi
  have hj:j < 3:=hj
  split at z <;> split at z <;> omega
 ·unfold sB oB at z
  have hi:i < 2:=hi
  have hj:j < 3:=hj
  split at z <;> omega
 ·unfold oB
  split <;> omega
theorem sz_new:szL 300 wsN []:=⟨fun x hx => by rw [List.eq_of_mem_replicate hx]; trivial,fun x hx => by simp at hx⟩
theorem bt_mul {n m:Nat} {i j:Int} (h:Bt n i) (h':Bt m j):Bt (n + m) (i * j):=by
 unfold Bt at h h' ⊢
 rw [Int.natAbs_mul,Nat.pow_add]
 exact Nat.mul_lt_mul'' h h'
theorem xO {ws:List Wt} {ps:WW} {w:Str} {r:List T} (hz:szL 300 ws ps):Tame ws (.str w :: r):=fun r' q' p' a b _ hq hp => (bt_mul (show Bt 300 a from hz.at hq) (show Bt 300 b from hz.at hp)).mono (by decide)
theorem JV {ws:List Wt} {ps:WW} {r q p:Nat} {dd:Int} (hz:szL 300 ws ps) (hr:r < 8) (hq:q < 8) (hp:p < 8) (d0:0≤dd) (d1:dd < 10):∃ ds:List T,atI [T.tup [T.str "plus", T.int (r:Int),T.int (q:Int),T.int (p:Int)],T.tup [T.str "less", T.int (r:Int),T.int (q:Int),T.int (p:Int)],T.tup [T.str "times", T.int (r:Int),T.int (q:Int),T.int (p:Int)],T.tup [T.str "over", T.int (r:Int),T.int (q:Int),T.int (p:Int)],T.tup [T.str "rest", T.int (r:Int),T.int (q:Int),T.int (p:Int)],T.tup [T.str "first", T.int (r:Int),T.int (q:Int)],T.tup [T.str "second", T.int (r:Int),T.int (q:Int)],T.tup [T.str "set_first", T.int (q:Int),T.int (p:Int)],T.tup [T.str "set_second", T.int (q:Int),T.int (p:Int)],T.tup [T.str "below", T.int (q:Int),T.int (p:Int)]] dd = some (.tup ds)∧Formed ds∧Tame ws ds:=by
 rcases (show dd = 0∨dd = 1∨dd = 2∨dd = 3∨dd = 4∨dd = 5∨dd = 6∨dd = 7∨dd = 8∨dd = 9 by omega) with rfl | rfl | rfl | rfl | rfl | rfl | rfl | rfl | rfl | rfl
 ·exact ⟨_,rfl, .five _ (.inl rfl) r q p hr hq hp,xO hz⟩
 ·exact ⟨_,rfl, .five _ (.inr (.inl rfl)) r q p hr hq hp,xO hz⟩
 ·exact ⟨_,rfl, .five _ (.inr (.inr (.inl rfl))) r q p hr hq hp,xO hz⟩
 ·exact ⟨_,rfl, .five _ (.inr (.inr (.inr (.inl rfl)))) r q p hr hq hp,xO hz⟩
 ·exact ⟨_,rfl, .five _ (.inr (.inr (.inr (.inr rfl)))) r q p hr hq hp,xO hz⟩
 ·exact ⟨_,rfl, .get _ (.inl rfl) r q hr hq,xO hz⟩
 ·exact ⟨_,rfl, .get _ (.inr rfl) r q hr hq,xO hz⟩
 ·exact ⟨_,rfl, .set _ (.inl rfl) q p hq hp,xO hz⟩
 ·exact ⟨_,rfl, .set _ (.inr rfl) q p hq hp,xO hz⟩
 ·exact ⟨_,rfl, .below q p hq hp,xO hz⟩
theorem Formed.word {ds:List T} (h:Formed ds):∃ w r,ds = .str w :: r∧(w = "below" ∨ (w ≠ "below" ∧ askW w false)):=by
 cases h with
 | five w hw => rcases hw with rfl | rfl | rfl | rfl | rfl <;> exact ⟨_,_,rfl, .inr ⟨by decide,by unfold askW; decide⟩⟩
 | get w hw => rcases hw with rfl | rfl <;> exact ⟨_,_,rfl, .inr ⟨by decide,by unfold askW; decide⟩⟩
 | set w hw => rcases hw with rfl | rfl <;> exact ⟨_,_,rfl, .inr ⟨by decide,by unfold askW; decide⟩⟩
 | below => exact ⟨_,_,rfl, .inl rfl⟩
 | _ => exact ⟨_,_,rfl, .inr ⟨by decide,by unfold askW; decide⟩⟩
theorem comes5 {m:Nat} {ws:List Wt} {ps:WW} {ds:List T} (hf:Formed ds) (hc:Comes m ws ps ds):(∃ w r,ds = .str w :: r∧w ≠ "below" ∧ ((∃ ws' ps',DeedDo ws ps ds ws' ps'∧ps'.length≤ps.length + 1)∨∃ nm p,DeedNo ws ds nm p))∨∃ r,ds = .str "below" :: r∧((∃ ans,DeedAsk ws ds ans)∨∃ p,AskNo ws ds p):=by
 obtain ⟨w,r,rfl,hw⟩:=hf.word
 have no:∀ {w':Str} {r':List T} {b c:Bool},T.str w :: r = .str w' :: r'→askW w' b→askW w c→b = c:=fun e h1 h2 => by
  cases e
  exact h1.symm.trans h2
 rcases hw with rfl | ⟨hne,hwf⟩
 ·have ht:askW "below" true:=by unfold askW; decide
  rcases hc with ⟨ws',ps',hd,_,_⟩ | h | ⟨nm,p,hd⟩ | h
  ·obtain ⟨w',r',e,h'⟩:=hd.word
   exact absurd (no e h' ht) (by decide)
  ·exact .inr ⟨_,rfl, .inl h⟩
  ·obtain ⟨w',r',e,h'⟩:=hd.word
   exact absurd (no e h' ht) (by decide)
  ·exact .inr ⟨_,rfl, .inr h⟩
 ·rcases hc with ⟨ws',ps',hd,hl,_⟩ | ⟨ans,hd⟩ | h | ⟨p,hd⟩
  ·exact .inl ⟨_,_,rfl,hne, .inl ⟨ws',ps',hd,hl⟩⟩
  ·obtain ⟨w',r',e,h'⟩:=hd.word
   exact absurd (no e h' hwf) (by decide)
  ·exact .inl ⟨_,_,rfl,hne, .inr h⟩
  ·obtain ⟨w',r',e,h'⟩:=hd.word
   exact absurd (no e h' hwf) (by decide)
theorem No_ne {ws:List Wt} {ds:List T} {nm:Str} {p:Option Int} (h:DeedNo ws ds nm p):nm ≠ "" := by rcases No_is h with ⟨rfl,_⟩ | ⟨rfl,_⟩ <;> decide
theorem ok_lawU {C D CEWk g:Addr} {f:Addr} {fd:FuncData} (F:Fun K "law" "law" sLaw f fd) (N:Nms mg) (CWk:ExcK K CEWk g) (AWk:NoAttr K CEWk "part") (DWk:ExcD P w K mg base "WrongKind" CEWk 1) (KXWk:PySem.W.keepIn K (.ref CEWk) = true) (KPs:MkDef P w K mg base C "PlainStore" 1 ["self"] (spU (Ke C))) (DBag:Def P w K mg base "_law_bag" 1 ["script"] (spBag K)) (DDraw:Def P w K mg base "_law_draw" 1 ["bag", "many"] (spU VW)) (DFilled:Def P w K mg base "_law_filled" 9 ["bag", "store", "own"] (spU (VV C D))) (DOwnAsk:Def P w K mg base "_law_own_ask" 2 ["own", "deed"] (spU Qx)) (DOwnDo:Def P w K mg base "_law_own_do" 3 ["own", "deed"] (spU ZO)) (DClassRight:Def P w K mg base "_law_class_right" 7 ["store", "deed", "word", "part"] (spU (xY C D))) (DAlike:Def P w K mg base "_law_alike" 4 ["found", "due"] (spP (Vg 3))) (DDone:Def P w K mg base "_law_done" 7 ["store", "deed"] (spU (gDone C D))) (DAllSame:Def P w K mg base "_law_all_same" 9 ["store", "own", "turn"] (spU (j8 C D))) (DBoth:Def P w K mg base "_law_both" 8 ["store", "own", "deed"] (spU (VX C D))):FnOk P w K mg base CX0 10 f fd ["script"] (X5 K):=by
 refine law_okU F scLaw (by decide) (fun cdv A outer s H E hr => ?_)
 refine ⟨_,(qh (vq (i:=1) scLaw.nd rfl (Or.inl rfl) (qU DBag (hr.mono (by first | decide | exact Nat.le_refl _)) (qa_c (qv 0) qd)))
  (qh (kP PassesOwn.never rfl (ji rfl N.range (qa_c qe qd)) (zw (i:=2) scLaw.nd rfl (Or.inl rfl))
   (qk (vz (Qk (Jl (qu VL (qv 2) qe (qC _)) (Q4 (qu VL (qr (qm (K:=K) rfl) (qv 1) qe (fun _ _ => rfl)) (qL kC (by rfl) N.len XH (qa_c (qr (qm (K:=K) rfl) (qv 1) qe (fun _ _ => rfl)) qd)) (qC _)))))
    (qh (vq (i:=3) scLaw.nd rfl (Or.inl rfl) (qe_mk0 KPs (hr.mono (by first | decide | exact Nat.le_refl _)) rfl))
    (qh (vq (i:=4) scLaw.nd rfl (Or.inl rfl) (vG (qa_c (vp op_rep (vG (qa_c ql qd)) qe) (qa_c (vG qd) qd))))
    (qh (vz (jh (zQ (qU DFilled (hr.mono (by first | decide | exact Nat.le_refl _)) (qa_c (qv 1) (qa_c (qv 3) (qa_c (qv 4) qd))))))
     (qk (qF xr))
     qG)
    (qh (vO (vg (qa_c (qU DDraw (hr.mono (by first | decide | exact Nat.le_refl _)) (qa_c (qv 1) (qa_c qe qd))) (qa_c (qU DDraw (hr.mono (by first | decide | exact Nat.le_refl _)) (qa_c (qv 1) (qa_c qe qd))) (qa_c (qU DDraw (hr.mono (by first | decide | exact Nat.le_refl _)) (qa_c (qv 1) (qa_c qe qd))) qd)))) (qg_t3K (K:=K) (i:=5) (j:=6) (k:=7) rfl scLaw.nd rfl rfl rfl rfl (Or.inr rfl) (Or.inr rfl) (Or.inr rfl) (Or.inl rfl) (Or.inl rfl) (Or.inl rfl)))
    (qh (qs_lc (i:=8) [false,false,false,false,false,true,true,true,false,false,false,false,false,false] [] scLaw.nd rfl rfl (xF (K:=K) rfl (vG (qa_c ql (qa_c ql (qa_c ql (qa_c ql (qa_c ql qd))))))) (fun _ _ _ => (zw (i:=11) scLaw.nd rfl (Or.inl rfl))) (fun _ _ _ => Qm) (fun _ _ _ => (vg (qa_c (qv 11) (qa_c (qv 5) (qa_c (qv 6) (qa_c (qv 7) qd)))))))
    (qh (vq (i:=8) scLaw.nd rfl (Or.inl rfl) (vp JA (qv 8) (vG (qa_c (vg (qa_c ql (qa_c (qv 5) (qa_c (qv 6) qd)))) (qa_c (vg (qa_c ql (qa_c (qv 5) (qa_c (qv 6) qd)))) (qa_c (vg (qa_c ql (qa_c (qv 6) (qa_c (qv 7) qd)))) (qa_c (vg (qa_c ql (qa_c (qv 6) (qa_c (qv 7) qd)))) qd)))))))
    (qh (vq (i:=9) scLaw.nd rfl (Or.inl rfl) (qr (qm (K:=K) rfl) (vp JA (qv 8) (vG (qa_c (vg (qa_c ql (qa_c (qv 6) (qa_c (qv 7) qd)))) qd))) (qU DDraw (hr.mono (by first | decide | exact Nat.le_refl _)) (qa_c (qv 1) (qa_c qe qd))) (fun _ _ => rfl)))
    (qh (vq (i:=10) scLaw.nd rfl (Or.inl rfl) (vG (qa_c (jj jY (by rfl) N.list Qc (qa_c (qr (qm (K:=K) rfl) (qv 4) qe (fun _ _ => rfl)) qd)) (qa_c (qe_lc [false,false,false,false,false,false,false,false,false,false,false,false,false,false] [] (xF (K:=K) rfl (qr (qm (K:=K) rfl) (qv 4) qe (fun _ _ => rfl))) (fun _ _ _ => (zw (i:=13) scLaw.nd rfl (Or.inl rfl))) (fun _ _ _ => Qm) (fun _ _ _ => (jj jY (by rfl) N.list Qc (qa_c (qv 13) qd)))) qd))))
    (qh (vO (xl (qu op_eq (qr (qt (K:=K) rfl) (qv 9) qe (fun _ _ => rfl)) ql (qC _)) (qU DOwnAsk (hr.mono (by first | decide | exact Nat.le_refl _)) (qa_c (qv 4) (qa_c (qv 9) qd))) (qU DOwnDo (hr.mono (by first | decide | exact Nat.le_refl _)) (qa_c (qv 4) (qa_c (qv 9) qd)))) (qg_t2K (K:=K) (i:=11) (j:=12) rfl scLaw.nd rfl rfl rfl (Or.inl rfl) (Or.inl rfl) (Or.inl rfl) (Or.inl rfl)))
    (qh (vz (qu jP (qv 11) ql (qC _))
     (qk (vz (Qk (Jl (qu (Jw (K:=K) rfl hr.units) (qv 4) (qv 10) (qC _)) (Q4 (jh (zQ (qU DClassRight (hr.mono (by first | decide | exact Nat.le_refl _)) (qa_c (qv 3) (qa_c (qv 9) (qa_c (qv 11) (qa_c (qv 12) qd))))))))))
      (qk (qF xr))
      qG))
     (qk (vz (Qk (Zo (qu op_eq (qr (qt (K:=K) rfl) (qv 9) qe (fun _ _ => rfl)) ql (qC _)) (Ql (jh (zQ (qU DBoth (hr.mono (by first | decide | exact Nat.le_refl _)) (qa_c (qv 3) (qa_c (qv 4) (qa_c (qv 9) qd)))))))))
      (qk (qF xr))
      (qk (vz (Qk (Zo (qu jP (qr (qt (K:=K) rfl) (qv 9) qe (fun _ _ => rfl)) ql (qC _)) (Ql (jh (zQ (qU DAlike (hr.mono (by first | decide | exact Nat.le_refl _)) (qa_c (qU DDone (hr.mono (by first | decide | exact Nat.le_refl _)) (qa_c (qv 3) (qa_c (qv 9) qd))) (qa_c (vg (qa_c ql (qa_c kQ qd))) qd))))))))
       (qk (qF xr))
       qG)))))
    (qk (vz (Qk (Jl (jh (zQ (qU DAllSame (hr.mono (by first | decide | exact Nat.le_refl _)) (qa_c (qv 3) (qa_c (qv 4) (qa_c (qv 2) qd)))))) (Q4 (jh (zQ (qU DAllSame (hr.mono (by first | decide | exact Nat.le_refl _)) (qa_c (qv 3) (qa_c (qv 4) (qa_c (vp xm (qv 2) qe) qd)))))))))
     (qk (qF xr))
     qG))))))))))))
    qG)))
  (qh (vq (i:=13) scLaw.nd rfl (Or.inl rfl) (qe_mkX DWk KXWk (hr.mono (by first | decide | exact Nat.le_refl _)) (qa_c qe qd)))
  (qk (qF (zx op_eq (qe_partO CWk AWk (qv 13)) qe (qC _))))))),_,(qo (Vn (Za (qa (ce_c (.int _)) qf)) (qX 2)
   (vi (ct_or (qw (qE (zq fun _ _ => .bl _) (qb 2) (ce_c (.int _)))) (qw (qE (zq fun _ _ => .bl _) (qK (qb 1) (ce_c (.int _))) (ce_len (qa (qK (qb 1) (ce_c (.int _))) qf)))))
   (qo (qQ (Ky qf) (qX 3))
   (qo (qQ (Qa (qa (Vq (v9 (qa (ce_c (.str _)) qf)) (ce_c (.int _))) (qa (Qa qf) qf))) (qX 4))
   (qo (vi (jX (ct_b (qJ (qa (qb 1) (qa (qb 3) (qa (qb 4) qf))))))
   (qM (ce_c (.bl _)))
   qB)
   (qo (qQ (vm (qa (qJ (qa (qb 1) (qa (ce_c (.int _)) qf))) (qa (qJ (qa (qb 1) (qa (ce_c (.int _)) qf))) (qa (qJ (qa (qb 1) (qa (ce_c (.int _)) qf))) qf)))) (cg_name3 5 6 7))
   (qo (qQ (KC (QL (v9 (qa (ce_c (.str _)) (qa (ce_c (.str _)) (qa (ce_c (.str _)) (qa (ce_c (.str _)) (qa (ce_c (.str _)) qf))))))) (Z2 11) ct_yes (vm (qa (qb 11) (qa (qb 5) (qa (qb 6) (qa (qb 7) qf)))))) (qX 8))
   (qo (qQ (qE VJ (qb 8) (v9 (qa (vm (qa (ce_c (.str _)) (qa (qb 5) (qa (qb 6) qf)))) (qa (vm (qa (ce_c (.str _)) (qa (qb 5) (qa (qb 6) qf)))) (qa (vm (qa (ce_c (.str _)) (qa (qb 6) (qa (qb 7) qf)))) (qa (vm (qa (ce_c (.str _)) (qa (qb 6) (qa (qb 7) qf)))) qf)))))) (qX 8))
   (qo (qQ (qK (qE VJ (qb 8) (v9 (qa (vm (qa (ce_c (.str _)) (qa (qb 6) (qa (qb 7) qf)))) qf))) (qJ (qa (qb 1) (qa (ce_c (.int _)) qf)))) (qX 9))
   (qo (qQ (v9 (qa (ce_cb Z5 (qa (qK (qb 4) (ce_c (.int _))) qf)) (qa (KC (QL (qK (qb 4) (ce_c (.int _)))) (Z2 13) ct_yes (ce_cb Z5 (qa (qb 13) qf))) qf))) (qX 10))
   (qo (qQ (Zb (qw (qE ve (qD (qb 9) (ce_c (.int _))) (ce_c (.str _)))) (qJ (qa (qb 4) (qa (qb 9) qf))) (qJ (qa (qb 4) (qa (qb 9) qf)))) (Z3 11 12))
   (qo (vi (qw (qE jk (qb 11) (ce_c (.str _))))
   (vi (ct_or (qw (ce_neF (qb 4) (qb 10))) (jX (ct_b (qJ (qa (qb 3) (qa (qb 9) (qa (qb 11) (qa (qb 12) qf))))))))
   (qM (ce_c (.bl _)))
   qB)
   (vi (Ks (qw (qE ve (qD (qb 9) (ce_c (.int _))) (ce_c (.str _)))) (jX (ct_b (qJ (qa (qb 3) (qa (qb 4) (qa (qb 9) qf)))))))
   (qM (ce_c (.bl _)))
   (vi (Ks (qw (qE jk (qD (qb 9) (ce_c (.int _))) (ce_c (.str _)))) (jX (ct_b (vW (qa (qJ (qa (qb 3) (qa (qb 9) qf))) (qa (vm (qa (ce_c (.str _)) (qa (ce_c .non) qf))) qf))))))
   (qM (ce_c (.bl _)))
   qB)))
   (vi (ct_or (jX (ct_b (qJ (qa (qb 3) (qa (qb 4) (qa (qb 2) qf)))))) (jX (ct_b (qJ (qa (qb 3) (qa (qb 4) (qa (qE (zq fun _ _ => .int _) (qb 2) (ce_c (.int _))) qf)))))))
   (qM (ce_c (.bl _)))
   qB)))))))))))
   qB))
   Kt),fun o B => ?_⟩
 walk_at "v"
 refine Jg (by decide) (by decide) ?_
 refine Qe (fun i ρ M' => ∃ x2 x3 x4 x5 x6 x7 x8 x9 x10 x11 x12 x13 o,ρ = [none,some (.m 0),x2,x3,x4,x5,x6,x7,x8,x9,x10,x11,x12,x13]∧M'[0]? = some o∧BagO o) ⟨_,_,_,_,_,_,_,_,_,_,_,_,o,rfl,rfl,B⟩ ?_ ?_
 ·rintro i ρ M' hi ⟨x2,x3,x4,x5,x6,x7,x8,x9,x10,x11,x12,x13,o1,rfl,hb,B1⟩
  walk_at "v"
  refine ite2 (fun h15 => ?_) (fun h15 => ?_)
  ·walk_at "v"
   refine ⟨M'.length,rfl,vF, ?_⟩
   refine ⟨rfl, ?_⟩
   walk_at "v"
   refine VE (by decide) (by decide) (by decide) ?_
   simp only [X6,List.length_append,List.length_cons,List.length_nil,List.append_assoc,List.cons_append,List.nil_append,Nat.reduceAdd]
   show uSeq _ _ _ [none,some (.m 0),some (.p (.int (i:Int))),some (.m (sB M'.length 0)),some (.m (oB M'.length 0)),x5,x6,x7,x8,x9,x10,x11,x12,x13] (NewM C M')
   have R0:=Je (C:=C) (D:=D) hb B1
   generalize NewM C M' = M0 at R0 ⊢
   generalize sB M'.length = sx at R0 ⊢
   generalize oB M'.length = ox at R0 ⊢
   walk_at "v"
   refine ⟨sx,ox,o1,wsN,rfl,R0,sz_new,fun M1 s1 o2 ob1 ws ps e1 e2 hl hz R1 => ?_⟩
   walk_at "v"
   rw [← e1, ← e2]
   refine R1.drawS (by decide) (by decide) fun M2 r ob2 r0 r1 R2 => ?_
   obtain ⟨r,rfl⟩:∃ j:Nat,r = (j:Int):=⟨r.toNat,by omega⟩
   have hr8:r < 8:=by omega
   walk_at "v"
   refine R2.drawS (by decide) (by decide) fun M3 q ob3 q0 q1 R3 => ?_
   obtain ⟨q,rfl⟩:∃ j:Nat,q = (j:Int):=⟨q.toNat,by omega⟩
   have hq8:q < 8:=by omega
   walk_at "v"
   refine R3.drawS (by decide) (by decide) fun M4 p ob4 p0 p1 R4 => ?_
   obtain ⟨p,rfl⟩:∃ j:Nat,p = (j:Int):=⟨p.toNat,by omega⟩
   have hp8:p < 8:=by omega
   walk_at "v"
   refine kK (by show 5≤sizeLine; decide) (fun j acc M' => M' = M4∧acc = ([T.str "plus", T.str "less", T.str "times", T.str "over", T.str "rest"].take j).map fun w => T.tup [w, .int (r:Int), .int (q:Int), .int (p:Int)]) ⟨rfl,rfl⟩ ?_ ?_
   ·rintro j t acc M' ht _ ⟨rfl,rfl⟩
    walk_at "v"
    rw [zi ht,List.map_append]
    rfl
   rintro acc M' ⟨rfl,rfl⟩
   simp only [List.length_cons,List.length_nil,Nat.reduceAdd,List.take_succ_cons,List.take_zero,List.take_nil,List.map_cons,List.map_nil]
   walk_at "v"
   refine ⟨by show 9≤sizeLine; decide, ?_⟩
   walk_at "v"
   refine ⟨by show 10≤sizeLine; decide, ?_⟩
   refine R4.drawS (by decide) (by decide) fun M5 dd ob5 d0 d1 R5 => ?_
   obtain ⟨ds,hds,hf,ht⟩:=JV (ws:=ws) hz hr8 hq8 hp8 d0 d1
   refine jp hds ?_
   walk_at "v"
   refine vd R5.W.O ?_
   walk_at "v"
   refine ⟨[.lst (ws.map tO)],by simp [sns,R5.W.O.sn1],_,_,rfl,rfl, ?_⟩
   refine xV R5.W.O ?_
   refine J6 R5.W.O.c ?_
   refine Zi (k:=o2 2) (by rw [List.length_map,List.length_range]; exact Nat.le_trans (show ps.length≤1000 by omega) (by show 1000≤sizeLine; decide)) (fun j acc M' => M' = M5∧acc = (ps.take j).map Xm) ⟨rfl,rfl⟩ (fun j acc M' h => by rw [h.1]; exact R5.W.O.c) ?_ ?_
   ·rintro j u acc M' hu _ ⟨rfl,rfl⟩
    rw [List.getElem?_map] at hu
    have hjl:j < ps.length:=by
     cases e:(List.range ps.length)[j]? with
     | none => rw [e] at hu; cases hu
     | some x => exact (by simpa using (List.getElem?_eq_some_iff.mp e).1)
    rw [List.getElem?_range hjl] at hu
    cases hu
    have hpj:=List.getElem?_eq_getElem hjl
    walk_at "v"
    refine ⟨[Xm ps[j]],by simp [sns,R5.W.O.snp hpj],_,_,rfl,rfl, ?_⟩
    rw [zi hpj,List.map_append]
    rfl
   rintro acc M' ⟨rfl,rfl⟩
   rw [List.length_map,List.length_range,List.take_length]
   walk_at "v"
   rcases comes5 hf (hf.comes (m:=12000) (ps:=ps) ht R5.W.S.n R5.W.S.ww (hz.mono (by decide)) (by decide) (by decide)) with ⟨ww,rr,rfl,hne,hc⟩ | ⟨rr,rfl,hc⟩
   ·refine zD at0 ?_
    walk_at "v"
    refine zS hne ?_
    rcases hc with ⟨ws',ps',hd,hl2⟩ | ⟨nm,pp,hd⟩
    ·refine ⟨o2,ws,ps,_,rfl,R5.W.O,by omega, .inl ⟨_,_,hd,fun M6 o6 O6 g6 => ?_⟩⟩
     walk_at "v"
     refine zD at0 ?_
     walk_at "v"
     refine zS hne ?_
     refine zD at0 ?_
     walk_at "v"
     refine vQ (by simpa using hne) ?_
     refine ⟨_,_,rfl,s1,ws,ps,rfl,R5.W.midS g6, .inl ⟨_,_,hd,fun M7 s7 S7 g7 => ⟨.non,rfl, ?_⟩⟩⟩
     walk_at "v"
     refine ⟨_,rfl,xM trivial trivial, ?_⟩
     walk_at "v"
     have W7:=R5.W.stepO O6 g6 S7 g7
     have R7:=R5.go W7.1 W7.2
     rw [← g7.z, ← g6.z]
     refine R7.sameS (by omega) ?_
     walk_at "v"
     rw [show (i:Int) + 3 = ((i + 3:Nat):Int) by omega]
     refine R7.sameS (by omega) ?_
     walk_at "v"
     exact ⟨_,_,_,_,_,_,_,_,_,_,_,_,ob5,rfl,R7.b,R7.B⟩
    ·refine ⟨o2,ws,ps,_,rfl,R5.W.O,by omega, .inr ⟨_,_,hd, ?_⟩⟩
     walk_at "v"
     refine vQ (by simpa using No_ne hd) ?_
     walk_at "pk"
     refine ⟨_,_,R5.W.O.frz,rfl,j9 QF ?_⟩
     walk_at "pk"
     refine ⟨s1,ws,ps,_,nm,pp,rfl,R5.W.S, .inl hd, ?_⟩
     walk_at "v"
     refine R5.sameS (by omega) ?_
     walk_at "v"
     rw [show (i:Int) + 3 = ((i + 3:Nat):Int) by omega]
     refine R5.sameS (by omega) ?_
     walk_at "v"
     exact ⟨_,_,_,_,_,_,_,_,_,_,_,_,ob5,rfl,R5.b,R5.B⟩
   ·refine zD at0 ?_
    walk_at "v"
    rcases hc with ⟨ans,hd⟩ | ⟨pp,hd⟩
    ·skip
     refine ⟨o2,ws,ps,_,rfl,R5.W.O, .inl ⟨_,hd, ?_⟩⟩
     walk_at "v"
     refine zD at0 ?_
     walk_at "v"
     refine KK R5.W (by omega) hd ?_
     walk_at "v"
     refine zD at0 ?_
     walk_at "v"
     refine R5.sameS (by omega) ?_
     walk_at "v"
     rw [show (i:Int) + 3 = ((i + 3:Nat):Int) by omega]
     refine R5.sameS (by omega) ?_
     walk_at "v"
     exact ⟨_,_,_,_,_,_,_,_,_,_,_,_,ob5,rfl,R5.b,R5.B⟩
    ·skip
     refine ⟨o2,ws,ps,_,rfl,R5.W.O, .inr ⟨_,hd, ?_⟩⟩
     walk_at "pk"
     refine ⟨_,_,R5.W.O.frz,rfl,j9 QF ?_⟩
     walk_at "pk"
     refine ⟨s1,ws,ps,_, "WrongKind", some pp,rfl,R5.W.S, .inr ⟨pp,rfl,rfl,hd⟩, ?_⟩
     walk_at "v"
     refine R5.sameS (by omega) ?_
     walk_at "v"
     rw [show (i:Int) + 3 = ((i + 3:Nat):Int) by omega]
     refine R5.sameS (by omega) ?_
     walk_at "v"
     exact ⟨_,_,_,_,_,_,_,_,_,_,_,_,ob5,rfl,R5.b,R5.B⟩
  ·obtain ⟨ns,bi,ba,st,bn,eo,_⟩:=B1.ex
   have e0:vf M' (.m 0) = some [.p (J9 ns), .p (.int bi), .p (.int ba), .p (.int st), .p (.int bn)]:=by simp [vf,hb,eo]
   refine j3 e0 rfl ?_
   walk_at "v"
   refine j3 e0 rfl ?_
   walk_at "v"
   refine ite2 (fun hlt => ?_) (fun hlt => ?_)
   ·walk_at "v"
    refine ⟨M'.length,rfl,vF, ?_⟩
    refine ⟨rfl, ?_⟩
    walk_at "v"
    refine VE (by decide) (by decide) (by decide) ?_
    simp only [X6,List.length_append,List.length_cons,List.length_nil,List.append_assoc,List.cons_append,List.nil_append,Nat.reduceAdd]
    show uSeq _ _ _ [none,some (.m 0),some (.p (.int (i:Int))),some (.m (sB M'.length 0)),some (.m (oB M'.length 0)),x5,x6,x7,x8,x9,x10,x11,x12,x13] (NewM C M')
    have R0:=Je (C:=C) (D:=D) hb B1
    generalize NewM C M' = M0 at R0 ⊢
    generalize sB M'.length = sx at R0 ⊢
    generalize oB M'.length = ox at R0 ⊢
    walk_at "v"
    refine ⟨sx,ox,o1,wsN,rfl,R0,sz_new,fun M1 s1 o2 ob1 ws ps e1 e2 hl hz R1 => ?_⟩
    walk_at "v"
    rw [← e1, ← e2]
    refine R1.drawS (by decide) (by decide) fun M2 r ob2 r0 r1 R2 => ?_
    obtain ⟨r,rfl⟩:∃ j:Nat,r = (j:Int):=⟨r.toNat,by omega⟩
    have hr8:r < 8:=by omega
    walk_at "v"
    refine R2.drawS (by decide) (by decide) fun M3 q ob3 q0 q1 R3 => ?_
    obtain ⟨q,rfl⟩:∃ j:Nat,q = (j:Int):=⟨q.toNat,by omega⟩
    have hq8:q < 8:=by omega
    walk_at "v"
    refine R3.drawS (by decide) (by decide) fun M4 p ob4 p0 p1 R4 => ?_
    obtain ⟨p,rfl⟩:∃ j:Nat,p = (j:Int):=⟨p.toNat,by omega⟩
    have hp8:p < 8:=by omega
    walk_at "v"
    refine kK (by show 5≤sizeLine; decide) (fun j acc M' => M' = M4∧acc = ([T.str "plus", T.str "less", T.str "times", T.str "over", T.str "rest"].take j).map fun w => T.tup [w, .int (r:Int), .int (q:Int), .int (p:Int)]) ⟨rfl,rfl⟩ ?_ ?_
    ·rintro j t acc M' ht _ ⟨rfl,rfl⟩
     walk_at "v"
     rw [zi ht,List.map_append]
     rfl
    rintro acc M' ⟨rfl,rfl⟩
    simp only [List.length_cons,List.length_nil,Nat.reduceAdd,List.take_succ_cons,List.take_zero,List.take_nil,List.map_cons,List.map_nil]
    walk_at "v"
    refine ⟨by show 9≤sizeLine; decide, ?_⟩
    walk_at "v"
    refine ⟨by show 10≤sizeLine; decide, ?_⟩
    refine R4.drawS (by decide) (by decide) fun M5 dd ob5 d0 d1 R5 => ?_
    obtain ⟨ds,hds,hf,ht⟩:=JV (ws:=ws) hz hr8 hq8 hp8 d0 d1
    refine jp hds ?_
    walk_at "v"
    refine vd R5.W.O ?_
    walk_at "v"
    refine ⟨[.lst (ws.map tO)],by simp [sns,R5.W.O.sn1],_,_,rfl,rfl, ?_⟩
    refine xV R5.W.O ?_
    refine J6 R5.W.O.c ?_
    refine Zi (k:=o2 2) (by rw [List.length_map,List.length_range]; exact Nat.le_trans (show ps.length≤1000 by omega) (by show 1000≤sizeLine; decide)) (fun j acc M' => M' = M5∧acc = (ps.take j).map Xm) ⟨rfl,rfl⟩ (fun j acc M' h => by rw [h.1]; exact R5.W.O.c) ?_ ?_
    ·rintro j u acc M' hu _ ⟨rfl,rfl⟩
     rw [List.getElem?_map] at hu
     have hjl:j < ps.length:=by
      cases e:(List.range ps.length)[j]? with
      | none => rw [e] at hu; cases hu
      | some x => exact (by simpa using (List.getElem?_eq_some_iff.mp e).1)
     rw [List.getElem?_range hjl] at hu
     cases hu
     have hpj:=List.getElem?_eq_getElem hjl
     walk_at "v"
     refine ⟨[Xm ps[j]],by simp [sns,R5.W.O.snp hpj],_,_,rfl,rfl, ?_⟩
     rw [zi hpj,List.map_append]
     rfl
    rintro acc M' ⟨rfl,rfl⟩
    rw [List.length_map,List.length_range,List.take_length]
    walk_at "v"
    rcases comes5 hf (hf.comes (m:=12000) (ps:=ps) ht R5.W.S.n R5.W.S.ww (hz.mono (by decide)) (by decide) (by decide)) with ⟨ww,rr,rfl,hne,hc⟩ | ⟨rr,rfl,hc⟩
    ·refine zD at0 ?_
     walk_at "v"
     refine zS hne ?_
     rcases hc with ⟨ws',ps',hd,hl2⟩ | ⟨nm,pp,hd⟩
     ·refine ⟨o2,ws,ps,_,rfl,R5.W.O,by omega, .inl ⟨_,_,hd,fun M6 o6 O6 g6 => ?_⟩⟩
      walk_at "v"
      refine zD at0 ?_
      walk_at "v"
      refine zS hne ?_
      refine zD at0 ?_
      walk_at "v"
      refine vQ (by simpa using hne) ?_
      refine ⟨_,_,rfl,s1,ws,ps,rfl,R5.W.midS g6, .inl ⟨_,_,hd,fun M7 s7 S7 g7 => ⟨.non,rfl, ?_⟩⟩⟩
      walk_at "v"
      refine ⟨_,rfl,xM trivial trivial, ?_⟩
      walk_at "v"
      have W7:=R5.W.stepO O6 g6 S7 g7
      have R7:=R5.go W7.1 W7.2
      rw [← g7.z, ← g6.z]
      refine R7.sameS (by omega) ?_
      walk_at "v"
      rw [show (i:Int) + 3 = ((i + 3:Nat):Int) by omega]
      refine R7.sameS (by omega) ?_
      walk_at "v"
      exact ⟨_,_,_,_,_,_,_,_,_,_,_,_,ob5,rfl,R7.b,R7.B⟩
     ·refine ⟨o2,ws,ps,_,rfl,R5.W.O,by omega, .inr ⟨_,_,hd, ?_⟩⟩
      walk_at "v"
      refine vQ (by simpa using No_ne hd) ?_
      walk_at "pk"
      refine ⟨_,_,R5.W.O.frz,rfl,j9 QF ?_⟩
      walk_at "pk"
      refine ⟨s1,ws,ps,_,nm,pp,rfl,R5.W.S, .inl hd, ?_⟩
      walk_at "v"
      refine R5.sameS (by omega) ?_
      walk_at "v"
      rw [show (i:Int) + 3 = ((i + 3:Nat):Int) by omega]
      refine R5.sameS (by omega) ?_
      walk_at "v"
      exact ⟨_,_,_,_,_,_,_,_,_,_,_,_,ob5,rfl,R5.b,R5.B⟩
    ·refine zD at0 ?_
     walk_at "v"
     rcases hc with ⟨ans,hd⟩ | ⟨pp,hd⟩
     ·skip
      refine ⟨o2,ws,ps,_,rfl,R5.W.O, .inl ⟨_,hd, ?_⟩⟩
      walk_at "v"
      refine zD at0 ?_
      walk_at "v"
      refine KK R5.W (by omega) hd ?_
      walk_at "v"
      refine zD at0 ?_
      walk_at "v"
      refine R5.sameS (by omega) ?_
      walk_at "v"
      rw [show (i:Int) + 3 = ((i + 3:Nat):Int) by omega]
      refine R5.sameS (by omega) ?_
      walk_at "v"
      exact ⟨_,_,_,_,_,_,_,_,_,_,_,_,ob5,rfl,R5.b,R5.B⟩
     ·skip
      refine ⟨o2,ws,ps,_,rfl,R5.W.O, .inr ⟨_,hd, ?_⟩⟩
      walk_at "pk"
      refine ⟨_,_,R5.W.O.frz,rfl,j9 QF ?_⟩
      walk_at "pk"
      refine ⟨s1,ws,ps,_, "WrongKind", some pp,rfl,R5.W.S, .inr ⟨pp,rfl,rfl,hd⟩, ?_⟩
      walk_at "v"
      refine R5.sameS (by omega) ?_
      walk_at "v"
      rw [show (i:Int) + 3 = ((i + 3:Nat):Int) by omega]
      refine R5.sameS (by omega) ?_
      walk_at "v"
      exact ⟨_,_,_,_,_,_,_,_,_,_,_,_,ob5,rfl,R5.b,R5.B⟩
   ·exact ⟨_,_,_,_,_,_,_,_,_,_,_,_,o1,rfl,hb,B1⟩
 ·rintro ρ M' ⟨x2,x3,x4,x5,x6,x7,x8,x9,x10,x11,x12,x13,o1,rfl,hb,B1⟩
  exact ⟨by unfold xp; decide,by show 13 < 14; decide,rfl⟩
abbrev TxPs:=TxP
abbrev TxPair:=TxQ
end
end Mw
namespace Mw
open PySem L2
theorem all_mk {l:PySem.W.OpenLaw} {w:World} {K:PySem.W.Frag} {h:Heap} {mg:Str→Option Value} {fa f1 f2 f3 f4 f5 f6 f7 f8 f9 f10 f11 f12 f13 f14 f15 f16 f17 f18 f19 f20 f21 f22 f23 f24 f25 f26 f27 f28 f29 f30 f31 f32 f33 f34 f35 f36 f37 f38 f39 f40 f41 f42 C1 C2 CENought CENoRoom CEFaulty CENoText CENotFormed CEWk CEWordError:Addr} (X:K.In h) (G:h.Ns mainGlobals mg) (hfa:mg "law" = some (.ref fa))
  {od1 an1 od2 an2 od3 an3 od4 an4 od5 an5 od6 an6 od7 an7 od8 an8 od9 an9 od10 an10 od11 an11 od12 an12 od13 an13 od14 an14 od15 an15 od16 an16 od17 an17 od18 an18 od19 an19 od20 an20 od21 an21 od22 an22 od23 an23 od24 an24 od25 an25 od26 an26 od27 an27 od28 an28 od29 an29 od30 an30 od31 an31 od32 an32 od33 an33 od34 an34 od35 an35 od36 an36 od37 an37 od38 an38 od39 an39 od40 an40 od41 an41 od42 an42:Option Addr} {sl1 sl2 sl3 sl4 sl5 sl6 sl7 sl8 sl9 sl10 sl11 sl12 sl13 sl14 sl15 sl16 sl17 sl18 sl19 sl20 sl21 sl22 sl23 sl24 sl25 sl26 sl27 sl28 sl29 sl30 sl31 sl32 sl33 sl34 sl35 sl36 sl37 sl38 sl39 sl40 sl41 sl42:Array (Option Value)} {oc1 kV1 dc1 pm1 cdd1 ct1 oc2 kV2 dc2 pm2 cdd2 ct2 oc3 kV3 dc3 pm3 cdd3 ct3 oc4 kV4 dc4 pm4 cdd4 ct4 oc5 kV5 dc5 pm5 cdd5 ct5 oc6 kV6 dc6 pm6 cdd6 ct6 oc7 kV7 dc7 pm7 cdd7 ct7 oc8 kV8 dc8 pm8 cdd8 ct8 oc9 kV9 dc9 pm9 cdd9 ct9 oc10 kV10 dc10 pm10 cdd10 ct10 oc11 kV11 dc11 pm11 cdd11 ct11 oc12 kV12 dc12 pm12 cdd12 ct12 oc13 kV13 dc13 pm13 cdd13 ct13 oc14 kV14 dc14 pm14 cdd14 ct14 oc15 kV15 dc15 pm15 cdd15 ct15 oc16 kV16 dc16 pm16 cdd16 ct16 oc17 kV17 dc17 pm17 cdd17 ct17 oc18 kV18 dc18 pm18 cdd18 ct18 oc19 kV19 dc19 pm19 cdd19 ct19 oc20 kV20 dc20 pm20 cdd20 ct20 oc21 kV21 dc21 pm21 cdd21 ct21 oc22 kV22 dc22 pm22 cdd22 ct22 oc23 kV23 dc23 pm23 cdd23 ct23 oc24 kV24 dc24 pm24 cdd24 ct24 oc25 kV25 dc25 pm25 cdd25 ct25 oc26 kV26 dc26 pm26 cdd26 ct26 oc27 kV27 dc27 pm27 cdd27 ct27 oc28 kV28 dc28 pm28 cdd28 ct28 oc29 kV29 dc29 pm29 cdd29 ct29 oc30 kV30 dc30 pm30 cdd30 ct30 oc31 kV31 dc31 pm31 cdd31 ct31 oc32 kV32 dc32 pm32 cdd32 ct32 oc33 kV33 dc33 pm33 cdd33 ct33 oc34 kV34 dc34 pm34 cdd34 ct34 oc35 kV35 dc35 pm35 cdd35 ct35 oc36 kV36 dc36 pm36 cdd36 ct36 oc37 kV37 dc37 pm37 cdd37 ct37 oc38 kV38 dc38 pm38 cdd38 ct38 oc39 kV39 dc39 pm39 cdd39 ct39 oc40 kV40 dc40 pm40 cdd40 ct40 oc41 kV41 dc41 pm41 cdd41 ct41 oc42 kV42 dc42 pm42 cdd42 ct42:Value} {gk1:Tok}
  (ca1:PySem.W.nsIn K mainGlobals "PlainStore" = some (some (.ref C1)))
  (cb1:PySem.W.plainGet K C1 Str.empty = true)
  (cc1:PySem.W.hasDictIn K C1 = true)
  (cd1:PySem.W.plainOver K C1 = true)
  (ce1:PySem.W.findIn K (.ref C1) "__setattr__" = some (some (.builtin "object.__setattr__")))
  (cf1:PySem.W.makesIn K C1 = true)
  (cg1:PySem.W.keepIn K (.ref C1) = true)
  (ch1_1:PySem.W.findIn K (.ref C1) "held" = some none)
  (ca2:PySem.W.nsIn K mainGlobals "Pair" = some (some (.ref C2)))
  (cb2:PySem.W.plainGet K C2 Str.empty = true)
  (cc2:PySem.W.hasDictIn K C2 = true)
  (cd2:PySem.W.plainOver K C2 = true)
  (ce2:PySem.W.findIn K (.ref C2) "__setattr__" = some (some (.builtin "object.__setattr__")))
  (cf2:PySem.W.makesIn K C2 = true)
  (cg2:PySem.W.keepIn K (.ref C2) = true)
  (ch2_1:PySem.W.findIn K (.ref C2) "left" = some none)
  (ch2_2:PySem.W.findIn K (.ref C2) "right" = some none)
  (xaNought:PySem.W.nsIn K mainGlobals "Nought" = some (some (.ref CENought)))
  (xaNoRoom:PySem.W.nsIn K mainGlobals "NoRoom" = some (some (.ref CENoRoom)))
  (xaFaulty:PySem.W.nsIn K mainGlobals "Faulty" = some (some (.ref CEFaulty)))
  (xaNoText:PySem.W.nsIn K mainGlobals "NoText" = some (some (.ref CENoText)))
  (xaNotFormed:PySem.W.nsIn K mainGlobals "NotFormed" = some (some (.ref CENotFormed)))
  (xoNought:PySem.W.excIn K CENought [.type "ValueError", .type "Exception", .type "BaseException", .type "object"] "ValueError.__new__" = true)
  (xaWk:PySem.W.nsIn K mainGlobals "WrongKind" = some (some (.ref CEWk)))
  (xaWordError:PySem.W.nsIn K mainGlobals "WordError" = some (some (.ref CEWordError)))
  (EWk_Wk:PySem.W.exmOne K (.ref CEWk) (.ref CEWk) = some true)
  (ENought_Wk:PySem.W.exmOne K (.ref CENought) (.ref CEWk) = some false)
  (ENought_Nought:PySem.W.exmOne K (.ref CENought) (.ref CENought) = some true)
  (a1:PySem.W.nsIn K mainGlobals "_law_bag" = some (some (.ref f1)))
  (l1:K.lookup f1 = some ⟨oc1,od1, .func (PySem.W.fnOf "_law_bag" "_law_bag" (qj sBag) (qg sBag) (qc sBag) .none kV1 dc1 pm1 an1 cdd1 ct1),sl1⟩)
  (c1:PySem.W.codeIn K cdd1 "_law_bag" = true)
  (k1:PySem.W.keepIn K (.ref f1) = true)
  (a2:PySem.W.nsIn K mainGlobals "_law_draw" = some (some (.ref f2)))
  (l2:K.lookup f2 = some ⟨oc2,od2, .func (PySem.W.fnOf "_law_draw" "_law_draw" (qj VD) (qg VD) (qc VD) .none kV2 dc2 pm2 an2 cdd2 ct2),sl2⟩)
  (c2:PySem.W.codeIn K cdd2 "_law_draw" = true)
  (k2:PySem.W.keepIn K (.ref f2) = true)
  (a3:PySem.W.nsIn K mainGlobals "_law_alike" = some (some (.ref f3)))
  (l3:K.lookup f3 = some ⟨oc3,od3, .func (PySem.W.fnOf "_law_alike" "_law_alike" (qj je) (qg je) (qc je) .none kV3 dc3 pm3 an3 cdd3 ct3),sl3⟩)
  (c3:PySem.W.codeIn K cdd3 "_law_alike" = true)
  (k3:PySem.W.keepIn K (.ref f3) = true)
  (a4:PySem.W.findIn K (.ref CEWk) "__init__" = some (some (.ref f4)))
  (l4:K.lookup f4 = some ⟨oc4,od4, .func (PySem.W.fnOf "__init__" "WrongKind.__init__" (qj jz) (qg jz) (qc jz) .none kV4 dc4 pm4 an4 cdd4 ct4),sl4⟩)
  (c4:PySem.W.codeIn K cdd4 "WrongKind.__init__" = true)
  (k4:PySem.W.keepIn K (.ref f4) = true)
  (a5:PySem.W.nsIn K mainGlobals "kind_of" = some (some (.ref f5)))
  (l5:K.lookup f5 = some ⟨oc5,od5, .func (PySem.W.fnOf "kind_of" "kind_of" (qj jM) (qg jM) (qc jM) .none kV5 dc5 pm5 an5 cdd5 ct5),sl5⟩)
  (c5:PySem.W.codeIn K cdd5 "kind_of" = true)
  (k5:PySem.W.keepIn K (.ref f5) = true)
  (a6:PySem.W.findIn K (.ref C2) "__init__" = some (some (.ref f6)))
  (n6:PySem.W.isFn K (.ref f6) = true)
  (l6:K.lookup f6 = some ⟨oc6,od6, .func (PySem.W.fnOf "__init__" "Pair.__init__" (qj xg) (qg xg) (qc xg) .none kV6 dc6 pm6 an6 cdd6 ct6),sl6⟩)
  (c6:PySem.W.codeIn K cdd6 "Pair.__init__" = true)
  (k6:PySem.W.keepIn K (.ref f6) = true)
  (a7:PySem.W.findIn K (.ref C1) "__init__" = some (some (.ref f7)))
  (n7:PySem.W.isFn K (.ref f7) = true)
  (l7:K.lookup f7 = some ⟨oc7,od7, .func (PySem.W.fnOf "__init__" "PlainStore.__init__" (qj jJ) (qg jJ) (qc jJ) .none kV7 dc7 pm7 an7 cdd7 ct7),sl7⟩)
  (c7:PySem.W.codeIn K cdd7 "PlainStore.__init__" = true)
  (k7:PySem.W.keepIn K (.ref f7) = true)
  (a8:PySem.W.findIn K (.ref C1) "number" = some (some (.ref f8)))
  (n8:PySem.W.isFn K (.ref f8) = true)
  (l8:K.lookup f8 = some ⟨oc8,od8, .func (PySem.W.fnOf "number" "PlainStore.number" (qj xf) (qg xf) (qc xf) .none kV8 dc8 pm8 an8 cdd8 ct8),sl8⟩)
  (c8:PySem.W.codeIn K cdd8 "PlainStore.number" = true)
  (k8:PySem.W.keepIn K (.ref f8) = true)
  (a9:PySem.W.findIn K (.ref C1) "one" = some (some (.ref f9)))
  (n9:PySem.W.isFn K (.ref f9) = true)
  (l9:K.lookup f9 = some ⟨oc9,od9, .func (PySem.W.fnOf "one" "PlainStore.one" (qj kN) (qg kN) (qc kN) .none kV9 dc9 pm9 an9 cdd9 ct9),sl9⟩)
  (c9:PySem.W.codeIn K cdd9 "PlainStore.one" = true)
  (k9:PySem.W.keepIn K (.ref f9) = true)
  (a10:PySem.W.findIn K (.ref C1) "sign" = some (some (.ref f10)))
  (n10:PySem.W.isFn K (.ref f10) = true)
  (l10:K.lookup f10 = some ⟨oc10,od10, .func (PySem.W.fnOf "sign" "PlainStore.sign" (qj jB) (qg jB) (qc jB) .none kV10 dc10 pm10 an10 cdd10 ct10),sl10⟩)
  (c10:PySem.W.codeIn K cdd10 "PlainStore.sign" = true)
  (k10:PySem.W.keepIn K (.ref f10) = true)
  (a11:PySem.W.findIn K (.ref C1) "copy" = some (some (.ref f11)))
  (n11:PySem.W.isFn K (.ref f11) = true)
  (l11:K.lookup f11 = some ⟨oc11,od11, .func (PySem.W.fnOf "copy" "PlainStore.copy" (qj jK) (qg jK) (qc jK) .none kV11 dc11 pm11 an11 cdd11 ct11),sl11⟩)
  (c11:PySem.W.codeIn K cdd11 "PlainStore.copy" = true)
  (k11:PySem.W.keepIn K (.ref f11) = true)
  (a12:PySem.W.findIn K (.ref C1) "pair" = some (some (.ref f12)))
  (n12:PySem.W.isFn K (.ref f12) = true)
  (l12:K.lookup f12 = some ⟨oc12,od12, .func (PySem.W.fnOf "pair" "PlainStore.pair" (qj jF) (qg jF) (qc jF) .none kV12 dc12 pm12 an12 cdd12 ct12),sl12⟩)
  (c12:PySem.W.codeIn K cdd12 "PlainStore.pair" = true)
  (k12:PySem.W.keepIn K (.ref f12) = true)
  (a13:PySem.W.findIn K (.ref C1) "same" = some (some (.ref f13)))
  (n13:PySem.W.isFn K (.ref f13) = true)
  (l13:K.lookup f13 = some ⟨oc13,od13, .func (PySem.W.fnOf "same" "PlainStore.same" (qj jC) (qg jC) (qc jC) .none kV13 dc13 pm13 an13 cdd13 ct13),sl13⟩)
  (c13:PySem.W.codeIn K cdd13 "PlainStore.same" = true)
  (k13:PySem.W.keepIn K (.ref f13) = true)
  (a14:PySem.W.findIn K (.ref C1) "kind" = some (some (.ref f14)))
  (n14:PySem.W.isFn K (.ref f14) = true)
  (l14:K.lookup f14 = some ⟨oc14,od14, .func (PySem.W.fnOf "kind" "PlainStore.kind" (qj jI) (qg jI) (qc jI) .none kV14 dc14 pm14 an14 cdd14 ct14),sl14⟩)
  (c14:PySem.W.codeIn K cdd14 "PlainStore.kind" = true)
  (k14:PySem.W.keepIn K (.ref f14) = true)
  (a15:PySem.W.findIn K (.ref C1) "told" = some (some (.ref f15)))
  (n15:PySem.W.isFn K (.ref f15) = true)
  (l15:K.lookup f15 = some ⟨oc15,od15, .func (PySem.W.fnOf "told" "PlainStore.told" (qj jA) (qg jA) (qc jA) .none kV15 dc15 pm15 an15 cdd15 ct15),sl15⟩)
  (c15:PySem.W.codeIn K cdd15 "PlainStore.told" = true)
  (k15:PySem.W.keepIn K (.ref f15) = true)
  (a16:PySem.W.nsIn K mainGlobals "need_numbers" = some (some (.ref f16)))
  (l16:K.lookup f16 = some ⟨oc16,od16, .func (PySem.W.fnOf "need_numbers" "need_numbers" (qj v7) (qg v7) (qc v7) .none kV16 dc16 pm16 an16 cdd16 ct16),sl16⟩)
  (c16:PySem.W.codeIn K cdd16 "need_numbers" = true)
  (k16:PySem.W.keepIn K (.ref f16) = true)
  (a17:PySem.W.nsIn K mainGlobals "need_divisor" = some (some (.ref f17)))
  (l17:K.lookup f17 = some ⟨oc17,od17, .func (PySem.W.fnOf "need_divisor" "need_divisor" (qj v8) (qg v8) (qc v8) .none kV17 dc17 pm17 an17 cdd17 ct17),sl17⟩)
  (c17:PySem.W.codeIn K cdd17 "need_divisor" = true)
  (k17:PySem.W.keepIn K (.ref f17) = true)
  (a18:PySem.W.nsIn K mainGlobals "need_pair" = some (some (.ref f18)))
  (l18:K.lookup f18 = some ⟨oc18,od18, .func (PySem.W.fnOf "need_pair" "need_pair" (qj xh) (qg xh) (qc xh) .none kV18 dc18 pm18 an18 cdd18 ct18),sl18⟩)
  (c18:PySem.W.codeIn K cdd18 "need_pair" = true)
  (k18:PySem.W.keepIn K (.ref f18) = true)
  (a19:PySem.W.findIn K (.ref C1) "pair_in" = some (some (.ref f19)))
  (n19:PySem.W.isFn K (.ref f19) = true)
  (l19:K.lookup f19 = some ⟨oc19,od19, .func (PySem.W.fnOf "pair_in" "PlainStore.pair_in" (qj xc) (qg xc) (qc xc) .none kV19 dc19 pm19 an19 cdd19 ct19),sl19⟩)
  (c19:PySem.W.codeIn K cdd19 "PlainStore.pair_in" = true)
  (k19:PySem.W.keepIn K (.ref f19) = true)
  (a20:PySem.W.findIn K (.ref C1) "plus" = some (some (.ref f20)))
  (n20:PySem.W.isFn K (.ref f20) = true)
  (l20:K.lookup f20 = some ⟨oc20,od20, .func (PySem.W.fnOf "plus" "PlainStore.plus" (qj jE) (qg jE) (qc jE) .none kV20 dc20 pm20 an20 cdd20 ct20),sl20⟩)
  (c20:PySem.W.codeIn K cdd20 "PlainStore.plus" = true)
  (k20:PySem.W.keepIn K (.ref f20) = true)
  (a21:PySem.W.findIn K (.ref C1) "less" = some (some (.ref f21)))
  (n21:PySem.W.isFn K (.ref f21) = true)
  (l21:K.lookup f21 = some ⟨oc21,od21, .func (PySem.W.fnOf "less" "PlainStore.less" (qj jH) (qg jH) (qc jH) .none kV21 dc21 pm21 an21 cdd21 ct21),sl21⟩)
  (c21:PySem.W.codeIn K cdd21 "PlainStore.less" = true)
  (k21:PySem.W.keepIn K (.ref f21) = true)
  (a22:PySem.W.findIn K (.ref C1) "times" = some (some (.ref f22)))
  (n22:PySem.W.isFn K (.ref f22) = true)
  (l22:K.lookup f22 = some ⟨oc22,od22, .func (PySem.W.fnOf "times" "PlainStore.times" (qj xA) (qg xA) (qc xA) .none kV22 dc22 pm22 an22 cdd22 ct22),sl22⟩)
  (c22:PySem.W.codeIn K cdd22 "PlainStore.times" = true)
  (k22:PySem.W.keepIn K (.ref f22) = true)
  (a23:PySem.W.findIn K (.ref C1) "over" = some (some (.ref f23)))
  (n23:PySem.W.isFn K (.ref f23) = true)
  (l23:K.lookup f23 = some ⟨oc23,od23, .func (PySem.W.fnOf "over" "PlainStore.over" (qj jG) (qg jG) (qc jG) .none kV23 dc23 pm23 an23 cdd23 ct23),sl23⟩)
  (c23:PySem.W.codeIn K cdd23 "PlainStore.over" = true)
  (k23:PySem.W.keepIn K (.ref f23) = true)
  (a24:PySem.W.findIn K (.ref C1) "rest" = some (some (.ref f24)))
  (n24:PySem.W.isFn K (.ref f24) = true)
  (l24:K.lookup f24 = some ⟨oc24,od24, .func (PySem.W.fnOf "rest" "PlainStore.rest" (qj jD) (qg jD) (qc jD) .none kV24 dc24 pm24 an24 cdd24 ct24),sl24⟩)
  (c24:PySem.W.codeIn K cdd24 "PlainStore.rest" = true)
  (k24:PySem.W.keepIn K (.ref f24) = true)
  (a25:PySem.W.findIn K (.ref C1) "below" = some (some (.ref f25)))
  (n25:PySem.W.isFn K (.ref f25) = true)
  (l25:K.lookup f25 = some ⟨oc25,od25, .func (PySem.W.fnOf "below" "PlainStore.below" (qj xC) (qg xC) (qc xC) .none kV25 dc25 pm25 an25 cdd25 ct25),sl25⟩)
  (c25:PySem.W.codeIn K cdd25 "PlainStore.below" = true)
  (k25:PySem.W.keepIn K (.ref f25) = true)
  (a26:PySem.W.findIn K (.ref C1) "first" = some (some (.ref f26)))
  (n26:PySem.W.isFn K (.ref f26) = true)
  (l26:K.lookup f26 = some ⟨oc26,od26, .func (PySem.W.fnOf "first" "PlainStore.first" (qj xB) (qg xB) (qc xB) .none kV26 dc26 pm26 an26 cdd26 ct26),sl26⟩)
  (c26:PySem.W.codeIn K cdd26 "PlainStore.first" = true)
  (k26:PySem.W.keepIn K (.ref f26) = true)
  (a27:PySem.W.findIn K (.ref C1) "second" = some (some (.ref f27)))
  (n27:PySem.W.isFn K (.ref f27) = true)
  (l27:K.lookup f27 = some ⟨oc27,od27, .func (PySem.W.fnOf "second" "PlainStore.second" (qj xb) (qg xb) (qc xb) .none kV27 dc27 pm27 an27 cdd27 ct27),sl27⟩)
  (c27:PySem.W.codeIn K cdd27 "PlainStore.second" = true)
  (k27:PySem.W.keepIn K (.ref f27) = true)
  (a28:PySem.W.findIn K (.ref C1) "set_first" = some (some (.ref f28)))
  (n28:PySem.W.isFn K (.ref f28) = true)
  (l28:K.lookup f28 = some ⟨oc28,od28, .func (PySem.W.fnOf "set_first" "PlainStore.set_first" (qj zr) (qg zr) (qc zr) .none kV28 dc28 pm28 an28 cdd28 ct28),sl28⟩)
  (c28:PySem.W.codeIn K cdd28 "PlainStore.set_first" = true)
  (k28:PySem.W.keepIn K (.ref f28) = true)
  (a29:PySem.W.findIn K (.ref C1) "set_second" = some (some (.ref f29)))
  (n29:PySem.W.isFn K (.ref f29) = true)
  (l29:K.lookup f29 = some ⟨oc29,od29, .func (PySem.W.fnOf "set_second" "PlainStore.set_second" (qj v6) (qg v6) (qc v6) .none kV29 dc29 pm29 an29 cdd29 ct29),sl29⟩)
  (c29:PySem.W.codeIn K cdd29 "PlainStore.set_second" = true)
  (k29:PySem.W.keepIn K (.ref f29) = true)
  (a30:PySem.W.nsIn K mainGlobals "_law_deed_done" = some (some (.ref f30)))
  (l30:K.lookup f30 = some ⟨oc30,od30, .func (PySem.W.fnOf "_law_deed_done" "_law_deed_done" (qj xi) (qg xi) (qc xi) .none kV30 dc30 pm30 an30 cdd30 ct30),sl30⟩)
  (c30:PySem.W.codeIn K cdd30 "_law_deed_done" = true)
  (k30:PySem.W.keepIn K (.ref f30) = true)
  (a31:PySem.W.nsIn K mainGlobals "_law_done" = some (some (.ref f31)))
  (l31:K.lookup f31 = some ⟨oc31,od31, .func (PySem.W.fnOf "_law_done" "_law_done" (qj Xj) (qg Xj) (qc Xj) .none kV31 dc31 pm31 an31 cdd31 ct31),sl31⟩)
  (c31:PySem.W.codeIn K cdd31 "_law_done" = true)
  (k31:PySem.W.keepIn K (.ref f31) = true)
  (a32:PySem.W.nsIn K mainGlobals "_law_own_kind" = some (some (.ref f32)))
  (l32:K.lookup f32 = some ⟨oc32,od32, .func (PySem.W.fnOf "_law_own_kind" "_law_own_kind" (qj xD) (qg xD) (qc xD) .none kV32 dc32 pm32 an32 cdd32 ct32),sl32⟩)
  (c32:PySem.W.codeIn K cdd32 "_law_own_kind" = true)
  (k32:PySem.W.keepIn K (.ref f32) = true)
  (a33:PySem.W.nsIn K mainGlobals "_law_reckoned" = some (some (.ref f33)))
  (l33:K.lookup f33 = some ⟨oc33,od33, .func (PySem.W.fnOf "_law_reckoned" "_law_reckoned" (qj xa) (qg xa) (qc xa) .none kV33 dc33 pm33 an33 cdd33 ct33),sl33⟩)
  (c33:PySem.W.codeIn K cdd33 "_law_reckoned" = true)
  (k33:PySem.W.keepIn K (.ref f33) = true)
  (a34:PySem.W.nsIn K mainGlobals "_law_own_numbers" = some (some (.ref f34)))
  (l34:K.lookup f34 = some ⟨oc34,od34, .func (PySem.W.fnOf "_law_own_numbers" "_law_own_numbers" (qj zt) (qg zt) (qc zt) .none kV34 dc34 pm34 an34 cdd34 ct34),sl34⟩)
  (c34:PySem.W.codeIn K cdd34 "_law_own_numbers" = true)
  (k34:PySem.W.keepIn K (.ref f34) = true)
  (a35:PySem.W.nsIn K mainGlobals "_law_own_do" = some (some (.ref f35)))
  (l35:K.lookup f35 = some ⟨oc35,od35, .func (PySem.W.fnOf "_law_own_do" "_law_own_do" (qj kO) (qg kO) (qc kO) .none kV35 dc35 pm35 an35 cdd35 ct35),sl35⟩)
  (c35:PySem.W.codeIn K cdd35 "_law_own_do" = true)
  (k35:PySem.W.keepIn K (.ref f35) = true)
  (a36:PySem.W.nsIn K mainGlobals "_law_own_ask" = some (some (.ref f36)))
  (l36:K.lookup f36 = some ⟨oc36,od36, .func (PySem.W.fnOf "_law_own_ask" "_law_own_ask" (qj jL) (qg jL) (qc jL) .none kV36 dc36 pm36 an36 cdd36 ct36),sl36⟩)
  (c36:PySem.W.codeIn K cdd36 "_law_own_ask" = true)
  (k36:PySem.W.keepIn K (.ref f36) = true)
  (a37:PySem.W.nsIn K mainGlobals "_law_both" = some (some (.ref f37)))
  (l37:K.lookup f37 = some ⟨oc37,od37, .func (PySem.W.fnOf "_law_both" "_law_both" (qj Xk) (qg Xk) (qc Xk) .none kV37 dc37 pm37 an37 cdd37 ct37),sl37⟩)
  (c37:PySem.W.codeIn K cdd37 "_law_both" = true)
  (k37:PySem.W.keepIn K (.ref f37) = true)
  (a38:PySem.W.nsIn K mainGlobals "_law_all_same" = some (some (.ref f38)))
  (l38:K.lookup f38 = some ⟨oc38,od38, .func (PySem.W.fnOf "_law_all_same" "_law_all_same" (qj xE) (qg xE) (qc xE) .none kV38 dc38 pm38 an38 cdd38 ct38),sl38⟩)
  (c38:PySem.W.codeIn K cdd38 "_law_all_same" = true)
  (k38:PySem.W.keepIn K (.ref f38) = true)
  (a39:PySem.W.nsIn K mainGlobals "_law_any_number" = some (some (.ref f39)))
  (l39:K.lookup f39 = some ⟨oc39,od39, .func (PySem.W.fnOf "_law_any_number" "_law_any_number" (qj zN) (qg zN) (qc zN) .none kV39 dc39 pm39 an39 cdd39 ct39),sl39⟩)
  (c39:PySem.W.codeIn K cdd39 "_law_any_number" = true)
  (k39:PySem.W.keepIn K (.ref f39) = true)
  (a40:PySem.W.nsIn K mainGlobals "_law_class_right" = some (some (.ref f40)))
  (l40:K.lookup f40 = some ⟨oc40,od40, .func (PySem.W.fnOf "_law_class_right" "_law_class_right" (qj zu) (qg zu) (qc zu) .none kV40 dc40 pm40 an40 cdd40 ct40),sl40⟩)
  (c40:PySem.W.codeIn K cdd40 "_law_class_right" = true)
  (k40:PySem.W.keepIn K (.ref f40) = true)
  (a41:PySem.W.nsIn K mainGlobals "_law_filled" = some (some (.ref f41)))
  (l41:K.lookup f41 = some ⟨oc41,od41, .func (PySem.W.fnOf "_law_filled" "_law_filled" (qj jN) (qg jN) (qc jN) .none kV41 dc41 pm41 an41 cdd41 ct41),sl41⟩)
  (c41:PySem.W.codeIn K cdd41 "_law_filled" = true)
  (k41:PySem.W.keepIn K (.ref f41) = true)
  (a42:PySem.W.nsIn K mainGlobals "law" = some (some (.ref f42)))
  (l42:K.lookup f42 = some ⟨oc42,od42, .func (PySem.W.fnOf "law" "law" (qj sLaw) (qg sLaw) (qc sLaw) .none kV42 dc42 pm42 an42 cdd42 ct42),sl42⟩)
  (c42:PySem.W.codeIn K cdd42 "law" = true)
  (k42:PySem.W.keepIn K (.ref f42) = true)
  (xk1Wk:PySem.W.excInI K CEWk f4 = true)
  (xk2Wk:PySem.W.findIn K (.ref CEWk) "__setattr__" = some (some (.builtin "object.__setattr__")))
  (xk3Wk:PySem.W.excOver K CEWk = true)
  (xk4Wk:PySem.W.findIn K (.ref CEWk) "__getattribute__" = some (some (.builtin "BaseException.__getattribute__")))
  (xk5Wk:PySem.W.findIn K (.ref CEWk) "__getattr__" = some none)
  (xk6Wk:PySem.W.mroIn K CEWk (.type "BaseException") = some true)
  (xk7Wk:PySem.W.hasDictIn K CEWk = true)
  (xk8Wk:PySem.W.findIn K (.ref CEWk) "part" = some none)
  (xb1WordError:PySem.W.specialIn K (.ref CEWordError) "__getattribute__" = some (some (.builtin "type.__getattribute__")))
  (xb2WordError:PySem.W.readsIn K CEWordError (.type "type") = true)
  (xb3WordError:PySem.W.findCls K (.ref CEWordError) (.type "type") "__init__" = some (.val (.builtin "ValueError.__init__")))
  (xt1Pair:PySem.W.findIn K (.ref C2) "__class__" = some (some (.builtin "object.__class__")))
  (xt2Pair:PySem.W.specialIn K (.builtin "object.__class__") "__get__" = some (some (.builtin "getset_descriptor.__get__")))
  (xt3Pair:PySem.W.takesIn K (.builtin "object.__class__") = some true)
  (xt4Pair:PySem.W.mroIn K C2 (.type "object") = some true)
  (xtnPair:∀ c:TyC,PySem.W.kitOne K (.ref C2) (.type c.name) = some false)
  (xt5Pair:XG K C2 = true)
  (xt1Wk:PySem.W.findIn K (.ref CEWk) "__getattribute__" = some (some (.builtin "BaseException.__getattribute__")))
  (xt2Wk:PySem.W.findIn K (.ref CEWk) "__getattr__" = some none)
  (xt3Wk:PySem.W.mroIn K CEWk (.type "BaseException") = some true)
  (xt4Wk:PySem.W.hasDictIn K CEWk = true)
  (xt5Wk:PySem.W.findIn K (.ref CEWk) "__class__" = some (some (.builtin "object.__class__")))
  (xt6Wk:PySem.W.specialIn K (.builtin "object.__class__") "__get__" = some (some (.builtin "getset_descriptor.__get__")))
  (xt7Wk:PySem.W.takesIn K (.builtin "object.__class__") = some true)
  (xt8Wk:PySem.W.mroIn K CEWk (.type "object") = some true)
  (xt1Nought:PySem.W.findIn K (.ref CENought) "__getattribute__" = some (some (.builtin "BaseException.__getattribute__")))
  (xt2Nought:PySem.W.findIn K (.ref CENought) "__getattr__" = some none)
  (xt3Nought:PySem.W.mroIn K CENought (.type "BaseException") = some true)
  (xt4Nought:PySem.W.hasDictIn K CENought = true)
  (xt5Nought:PySem.W.findIn K (.ref CENought) "__class__" = some (some (.builtin "object.__class__")))
  (xt6Nought:PySem.W.specialIn K (.builtin "object.__class__") "__get__" = some (some (.builtin "getset_descriptor.__get__")))
  (xt7Nought:PySem.W.takesIn K (.builtin "object.__class__") = some true)
  (xt8Nought:PySem.W.mroIn K CENought (.type "object") = some true)
  (IWk_ValueError:PySem.W.kitOne K (.ref CEWk) (.type "ValueError") = some true)
  (IWk_WordError:PySem.W.kitOne K (.ref CEWk) (.ref CEWordError) = some true)
  (IWk_Nought:PySem.W.kitOne K (.ref CEWk) (.ref CENought) = some false)
  (IWk_NoRoom_Faulty_NoText_NotFormed:PySem.W.kitAny K (.ref CEWk) [.ref CENoRoom, .ref CEFaulty, .ref CENoText, .ref CENotFormed] = some false)
  (INought_ValueError:PySem.W.kitOne K (.ref CENought) (.type "ValueError") = some true)
  (INought_WordError:PySem.W.kitOne K (.ref CENought) (.ref CEWordError) = some true)
  (INought_Wk:PySem.W.kitOne K (.ref CENought) (.ref CEWk) = some false)
  (INought_NoRoom_Faulty_NoText_NotFormed:PySem.W.kitAny K (.ref CENought) [.ref CENoRoom, .ref CEFaulty, .ref CENoText, .ref CENotFormed] = some false)
  (KXWk:PySem.W.keepIn K (.ref CEWk) = true)
  (ynNVE:PySem.W.nsIn K mainGlobals "ValueError" = some none)
  (z1:PySem.W.nsIn K mainGlobals "abs" = some none)
  (z2:PySem.W.nsIn K mainGlobals "len" = some none)
  (z3:PySem.W.nsIn K mainGlobals "min" = some none)
  (z4:PySem.W.nsIn K mainGlobals "max" = some none)
  (z5:PySem.W.nsIn K mainGlobals "sum" = some none)
  (z6:PySem.W.nsIn K mainGlobals "sorted" = some none)
  (z7:PySem.W.nsIn K mainGlobals "all" = some none)
  (z8:PySem.W.nsIn K mainGlobals "any" = some none)
  (z9:PySem.W.nsIn K mainGlobals "isinstance" = some none)
  (z10:PySem.W.nsIn K mainGlobals "range" = some none)
  (z11:PySem.W.nsIn K mainGlobals "int" = some none)
  (z12:PySem.W.nsIn K mainGlobals "list" = some none)
  (z13:PySem.W.nsIn K mainGlobals "str" = some none)
  (z14:PySem.W.nsIn K mainGlobals "bool" = some none)
  (z15:PySem.W.nsIn K mainGlobals "tuple" = some none)
  (z16:PySem.W.nsIn K mainGlobals "zip" = some none)
  (z17:PySem.W.nsIn K mainGlobals "enumerate" = some none)
  (z18:PySem.W.nsIn K mainGlobals "dict" = some none)
  (g1:PySem.W.nsIn K mainGlobals "REGISTERS" = some (some (.int 8 gk1))) :
  ∃ fd:FuncData,(∀ (s:Shared) (v:Value),BindsTo s fd ⟨[v], []⟩ [("script", v)])∧∀ base:Heap,K.In base→base.Ns mainGlobals mg→FnOk l.prog w K mg base CX0 10 fa fd ["script"] (X5 K):=by
 have e:=hfa.symm.trans (PySem.W.mg_of X G a42)
 cases e
 have N:Nms mg:=⟨PySem.W.mg_none_of X G z1,PySem.W.mg_none_of X G z2,PySem.W.mg_none_of X G z3,PySem.W.mg_none_of X G z4,PySem.W.mg_none_of X G z5,PySem.W.mg_none_of X G z6,PySem.W.mg_none_of X G z7,PySem.W.mg_none_of X G z8,PySem.W.mg_none_of X G z9,PySem.W.mg_none_of X G z10,PySem.W.mg_none_of X G z11,PySem.W.mg_none_of X G z12,PySem.W.mg_none_of X G z13,PySem.W.mg_none_of X G z14,PySem.W.mg_none_of X G z15,PySem.W.mg_none_of X G z16,PySem.W.mg_none_of X G z17,PySem.W.mg_none_of X G z18⟩
 have GReg:GInt mg "REGISTERS" 8:=⟨_,PySem.W.mg_of X G g1⟩
 have TPs:Cls K C1:=⟨cb1,cc1,cd1,ce1⟩
 have XPs:TxPs K C1:=⟨TPs,ch1_1⟩
 have TPair:Cls K C2:=⟨cb2,cc2,cd2,ce2⟩
 have XPair:TxPair K C2:=⟨TPair,ch2_1,ch2_2⟩
 have ONought:ExcC K mg "Nought" CENought:=⟨PySem.W.mg_of X G xaNought,xoNought⟩
 have BNoRoom:=PySem.W.mg_of X G xaNoRoom
 have BFaulty:=PySem.W.mg_of X G xaFaulty
 have BNoText:=PySem.W.mg_of X G xaNoText
 have BNotFormed:=PySem.W.mg_of X G xaNotFormed
 have CWk:ExcK K CEWk f4:=⟨xk1Wk,xk2Wk,xk3Wk,xk4Wk,xk5Wk,xk6Wk,xk7Wk⟩
 have AWk:NoAttr K CEWk "part" := xk8Wk
 have BWk:=PySem.W.mg_of X G xaWk
 have IWordError:InitB K mg "WordError" CEWordError:=⟨PySem.W.mg_of X G xaWordError,xb1WordError,xb2WordError,xb3WordError⟩
 have BNought:=PySem.W.mg_of X G xaNought
 have TWk:ExcT K CEWk:=⟨xt1Wk,xt2Wk,xt3Wk,xt4Wk,xt5Wk,xt6Wk,xt7Wk,xt8Wk⟩
 have TNought:ExcT K CENought:=⟨xt1Nought,xt2Nought,xt3Nought,xt4Nought,xt5Nought,xt6Nought,xt7Nought,xt8Nought⟩
 have NVE:=PySem.W.mg_none_of X G ynNVE
 have BWordError:=PySem.W.mg_of X G xaWordError
 have TyPair:InsTy K C2:=⟨TPair,xt1Pair,xt2Pair,xt3Pair,xt4Pair,xtnPair⟩
 have CmpPair:=xt5Pair
 have F1:=qY (st:=sBag) l1 c1 k1
 have b1:=F1.binds (ps:=["script"]) fun _ _ _ _ _ _ us hl => match us,hl with | [_],_ => rfl
 have F2:=qY (st:=VD) l2 c2 k2
 have b2:=F2.binds (ps:=["bag", "many"]) fun _ _ _ _ _ _ us hl => match us,hl with | [_,_],_ => rfl
 have F3:=qY (st:=je) l3 c3 k3
 have b3:=F3.binds (ps:=["found", "due"]) fun _ _ _ _ _ _ us hl => match us,hl with | [_,_],_ => rfl
 have F4:=qY (st:=jz) l4 c4 k4
 have b4:=F4.binds (ps:=["self", "part"]) fun _ _ _ _ _ _ us hl => match us,hl with | [_,_],_ => rfl
 have F5:=qY (st:=jM) l5 c5 k5
 have b5:=F5.binds (ps:=["worth"]) fun _ _ _ _ _ _ us hl => match us,hl with | [_],_ => rfl
 have F6:=qY (st:=xg) l6 c6 k6
 have b6:=F6.binds (ps:=["self", "left", "right"]) fun _ _ _ _ _ _ us hl => match us,hl with | [_,_,_],_ => rfl
 have F7:=qY (st:=jJ) l7 c7 k7
 have b7:=F7.binds (ps:=["self"]) fun _ _ _ _ _ _ us hl => match us,hl with | [_],_ => rfl
 have F8:=qY (st:=xf) l8 c8 k8
 have b8:=F8.binds (ps:=["self", "r", "n"]) fun _ _ _ _ _ _ us hl => match us,hl with | [_,_,_],_ => rfl
 have F9:=qY (st:=kN) l9 c9 k9
 have b9:=F9.binds (ps:=["self", "r", "text"]) fun _ _ _ _ _ _ us hl => match us,hl with | [_,_,_],_ => rfl
 have F10:=qY (st:=jB) l10 c10 k10
 have b10:=F10.binds (ps:=["self", "r", "k"]) fun _ _ _ _ _ _ us hl => match us,hl with | [_,_,_],_ => rfl
 have F11:=qY (st:=jK) l11 c11 k11
 have b11:=F11.binds (ps:=["self", "r", "q"]) fun _ _ _ _ _ _ us hl => match us,hl with | [_,_,_],_ => rfl
 have F12:=qY (st:=jF) l12 c12 k12
 have b12:=F12.binds (ps:=["self", "r", "q", "p"]) fun _ _ _ _ _ _ us hl => match us,hl with | [_,_,_,_],_ => rfl
 have F13:=qY (st:=jC) l13 c13 k13
 have b13:=F13.binds (ps:=["self", "q", "p"]) fun _ _ _ _ _ _ us hl => match us,hl with | [_,_,_],_ => rfl
 have F14:=qY (st:=jI) l14 c14 k14
 have b14:=F14.binds (ps:=["self", "q"]) fun _ _ _ _ _ _ us hl => match us,hl with | [_,_],_ => rfl
 have F15:=qY (st:=jA) l15 c15 k15
 have b15:=F15.binds (ps:=["self", "q"]) fun _ _ _ _ _ _ us hl => match us,hl with | [_,_],_ => rfl
 have F16:=qY (st:=v7) l16 c16 k16
 have b16:=F16.binds (ps:=["store", "q", "p"]) fun _ _ _ _ _ _ us hl => match us,hl with | [_,_,_],_ => rfl
 have F17:=qY (st:=v8) l17 c17 k17
 have b17:=F17.binds (ps:=["store", "q", "p"]) fun _ _ _ _ _ _ us hl => match us,hl with | [_,_,_],_ => rfl
 have F18:=qY (st:=xh) l18 c18 k18
 have b18:=F18.binds (ps:=["store", "q"]) fun _ _ _ _ _ _ us hl => match us,hl with | [_,_],_ => rfl
 have F19:=qY (st:=xc) l19 c19 k19
 have b19:=F19.binds (ps:=["self", "q"]) fun _ _ _ _ _ _ us hl => match us,hl with | [_,_],_ => rfl
 have F20:=qY (st:=jE) l20 c20 k20
 have b20:=F20.binds (ps:=["self", "r", "q", "p"]) fun _ _ _ _ _ _ us hl => match us,hl with | [_,_,_,_],_ => rfl
 have F21:=qY (st:=jH) l21 c21 k21
 have b21:=F21.binds (ps:=["self", "r", "q", "p"]) fun _ _ _ _ _ _ us hl => match us,hl with | [_,_,_,_],_ => rfl
 have F22:=qY (st:=xA) l22 c22 k22
 have b22:=F22.binds (ps:=["self", "r", "q", "p"]) fun _ _ _ _ _ _ us hl => match us,hl with | [_,_,_,_],_ => rfl
 have F23:=qY (st:=jG) l23 c23 k23
 have b23:=F23.binds (ps:=["self", "r", "q", "p"]) fun _ _ _ _ _ _ us hl => match us,hl with | [_,_,_,_],_ => rfl
 have F24:=qY (st:=jD) l24 c24 k24
 have b24:=F24.binds (ps:=["self", "r", "q", "p"]) fun _ _ _ _ _ _ us hl => match us,hl with | [_,_,_,_],_ => rfl
 have F25:=qY (st:=xC) l25 c25 k25
 have b25:=F25.binds (ps:=["self", "q", "p"]) fun _ _ _ _ _ _ us hl => match us,hl with | [_,_,_],_ => rfl
 have F26:=qY (st:=xB) l26 c26 k26
 have b26:=F26.binds (ps:=["self", "r", "q"]) fun _ _ _ _ _ _ us hl => match us,hl with | [_,_,_],_ => rfl
 have F27:=qY (st:=xb) l27 c27 k27
 have b27:=F27.binds (ps:=["self", "r", "q"]) fun _ _ _ _ _ _ us hl => match us,hl with | [_,_,_],_ => rfl
 have F28:=qY (st:=zr) l28 c28 k28
 have b28:=F28.binds (ps:=["self", "q", "p"]) fun _ _ _ _ _ _ us hl => match us,hl with | [_,_,_],_ => rfl
 have F29:=qY (st:=v6) l29 c29 k29
 have b29:=F29.binds (ps:=["self", "q", "p"]) fun _ _ _ _ _ _ us hl => match us,hl with | [_,_,_],_ => rfl
 have F30:=qY (st:=xi) l30 c30 k30
 have b30:=F30.binds (ps:=["store", "deed"]) fun _ _ _ _ _ _ us hl => match us,hl with | [_,_],_ => rfl
 have F31:=qY (st:=Xj) l31 c31 k31
 have b31:=F31.binds (ps:=["store", "deed"]) fun _ _ _ _ _ _ us hl => match us,hl with | [_,_],_ => rfl
 have F32:=qY (st:=xD) l32 c32 k32
 have b32:=F32.binds (ps:=["worth"]) fun _ _ _ _ _ _ us hl => match us,hl with | [_],_ => rfl
 have F33:=qY (st:=xa) l33 c33 k33
 have b33:=F33.binds (ps:=["word", "a", "b"]) fun _ _ _ _ _ _ us hl => match us,hl with | [_,_,_],_ => rfl
 have F34:=qY (st:=zt) l34 c34 k34
 have b34:=F34.binds (ps:=["own", "deed"]) fun _ _ _ _ _ _ us hl => match us,hl with | [_,_],_ => rfl
 have F35:=qY (st:=kO) l35 c35 k35
 have b35:=F35.binds (ps:=["own", "deed"]) fun _ _ _ _ _ _ us hl => match us,hl with | [_,_],_ => rfl
 have F36:=qY (st:=jL) l36 c36 k36
 have b36:=F36.binds (ps:=["own", "deed"]) fun _ _ _ _ _ _ us hl => match us,hl with | [_,_],_ => rfl
 have F37:=qY (st:=Xk) l37 c37 k37
 have b37:=F37.binds (ps:=["store", "own", "deed"]) fun _ _ _ _ _ _ us hl => match us,hl with | [_,_,_],_ => rfl
 have F38:=qY (st:=xE) l38 c38 k38
 have b38:=F38.binds (ps:=["store", "own", "turn"]) fun _ _ _ _ _ _ us hl => match us,hl with | [_,_,_],_ => rfl
 have F39:=qY (st:=zN) l39 c39 k39
 have b39:=F39.binds (ps:=["bag"]) fun _ _ _ _ _ _ us hl => match us,hl with | [_],_ => rfl
 have F40:=qY (st:=zu) l40 c40 k40
 have b40:=F40.binds (ps:=["store", "deed", "word", "part"]) fun _ _ _ _ _ _ us hl => match us,hl with | [_,_,_,_],_ => rfl
 have F41:=qY (st:=jN) l41 c41 k41
 have b41:=F41.binds (ps:=["bag", "store", "own"]) fun _ _ _ _ _ _ us hl => match us,hl with | [_,_,_],_ => rfl
 have F42:=qY (st:=sLaw) l42 c42 k42
 refine ⟨PySem.W.fnOf "law" "law" (qj sLaw) (qg sLaw) (qc sLaw) .none kV42 dc42 pm42 an42 cdd42 ct42,fun s v => .of_eq rfl,fun base _ _ => ?_⟩
 have DBag:Def l.prog w K mg base "_law_bag" 1 ["script"] (spBag K):=⟨f1,_,PySem.W.mg_of X G a1,k1,b1,ok_bag F1 N⟩
 have DDraw:Def l.prog w K mg base "_law_draw" 1 ["bag", "many"] (spU VW):=⟨f2,_,PySem.W.mg_of X G a2,k2,b2,ok_drawU F2 N⟩
 have DAlike:Def l.prog w K mg base "_law_alike" 4 ["found", "due"] (spP (Vg 3)):=⟨f3,_,PySem.W.mg_of X G a3,k3,b3,Xv F3 N (PySem.W.mg_of X G a3) k3 b3⟩
 have DWk:ExcD l.prog w K mg base "WrongKind" CEWk 1:=⟨PySem.W.mg_of X G xaWk,f4,_,CWk,b4,ok_winit F4 CWk AWk IWordError⟩
 have DKindOf:Def l.prog w K mg base "kind_of" 1 ["worth"] (spU (ZQ C2)):=⟨f5,_,PySem.W.mg_of X G a5,k5,b5,ok_kindP F5 N TyPair⟩
 have KPair:MkDef l.prog w K mg base C2 "Pair" 1 ["self", "left", "right"] (spU (Kd C2)):=⟨f6,_,⟨cf2,a6,n6,cg2⟩,PySem.W.mg_of X G ca2,b6,JC F6 XPair⟩
 have KPs:MkDef l.prog w K mg base C1 "PlainStore" 1 ["self"] (spU (Ke C1)):=⟨f7,_,⟨cf1,a7,n7,cg1⟩,PySem.W.mg_of X G ca1,b7,JM F7 XPs GReg⟩
 have MPsNumber:MDef l.prog w K mg base C1 "number" 1 ["self", "r", "n"] (spU (Ve C1 C2)):=⟨f8,_,⟨a8,n8,k8⟩,b8,VN F8 N XPs⟩
 have MPsOne:MDef l.prog w K mg base C1 "one" 1 ["self", "r", "text"] (spU (Ve C1 C2)):=⟨f9,_,⟨a9,n9,k9⟩,b9,ok_poneU F9 N XPs⟩
 have MPsSign:MDef l.prog w K mg base C1 "sign" 1 ["self", "r", "k"] (spU (ZK C1 C2)):=⟨f10,_,⟨a10,n10,k10⟩,b10,JE F10 N XPs⟩
 have MPsCopy:MDef l.prog w K mg base C1 "copy" 1 ["self", "r", "q"] (spU (ZN C1 C2)):=⟨f11,_,⟨a11,n11,k11⟩,b11,JN F11 N XPs⟩
 have MPsPair:MDef l.prog w K mg base C1 "pair" 3 ["self", "r", "q", "p"] (spU (ZM C1 C2)):=⟨f12,_,⟨a12,n12,k12⟩,b12,JI F12 N XPs KPair⟩
 have MPsSame:MDef l.prog w K mg base C1 "same" 1 ["self", "q", "p"] (spU (ZL C1 C2)):=⟨f13,_,⟨a13,n13,k13⟩,b13,JF F13 N XPs CmpPair⟩
 have MPsKind:MDef l.prog w K mg base C1 "kind" 2 ["self", "q"] (spU (kU C1 C2)):=⟨f14,_,⟨a14,n14,k14⟩,b14,JL F14 N XPs DKindOf⟩
 have MPsTold:MDef l.prog w K mg base C1 "told" 2 ["self", "q"] (spU (Vd C1 C2)):=⟨f15,_,⟨a15,n15,k15⟩,b15,JD F15 N XPs DKindOf⟩
 have DNeedNumbers:DefX l.prog w K mg base "need_numbers" 3 ["store", "q", "p"] (spX mg (kz C1 C2)):=⟨f16,_,PySem.W.mg_of X G a16,k16,b16,JP F16 N TPs DWk MPsKind⟩
 have DNeedDivisor:DefX l.prog w K mg base "need_divisor" 4 ["store", "q", "p"] (spX mg (ZP C1 C2)):=⟨f17,_,PySem.W.mg_of X G a17,k17,b17,JQ F17 N TPs ONought DNeedNumbers MPsTold⟩
 have DNeedPair:DefX l.prog w K mg base "need_pair" 3 ["store", "q"] (spX mg (Kf C1 C2)):=⟨f18,_,PySem.W.mg_of X G a18,k18,b18,JO F18 N TPs DWk MPsKind⟩
 have MPsPairIn:MDefX l.prog w K mg base C1 "pair_in" 4 ["self", "q"] (spX mg (jS C1 C2)):=⟨f19,_,⟨a19,n19,k19⟩,b19,Xq F19 N XPs DNeedPair⟩
 have MPsPlus:MDefX l.prog w K mg base C1 "plus" 5 ["self", "r", "q", "p"] (spX mg (gP3 C1 C2 oPlus)):=⟨f20,_,⟨a20,n20,k20⟩,b20,JH F20 N XPs DNeedNumbers⟩
 have MPsLess:MDefX l.prog w K mg base C1 "less" 5 ["self", "r", "q", "p"] (spX mg (gP3 C1 C2 oLess)):=⟨f21,_,⟨a21,n21,k21⟩,b21,JK F21 N XPs DNeedNumbers⟩
 have MPsTimes:MDefX l.prog w K mg base C1 "times" 5 ["self", "r", "q", "p"] (spX mg (gP3 C1 C2 Zu)):=⟨f22,_,⟨a22,n22,k22⟩,b22,Xn F22 N XPs DNeedNumbers⟩
 have MPsOver:MDefX l.prog w K mg base C1 "over" 5 ["self", "r", "q", "p"] (spX mg (gP3D C1 C2 oOver)):=⟨f23,_,⟨a23,n23,k23⟩,b23,JJ F23 N XPs DNeedDivisor⟩
 have MPsRest:MDefX l.prog w K mg base C1 "rest" 5 ["self", "r", "q", "p"] (spX mg (gP3D C1 C2 oRest)):=⟨f24,_,⟨a24,n24,k24⟩,b24,JG F24 N XPs DNeedDivisor⟩
 have MPsBelow:MDefX l.prog w K mg base C1 "below" 5 ["self", "q", "p"] (spX mg (gPBelow C1 C2)):=⟨f25,_,⟨a25,n25,k25⟩,b25,Xp F25 N XPs DNeedNumbers⟩
 have MPsFirst:MDefX l.prog w K mg base C1 "first" 5 ["self", "r", "q"] (spX mg (gPGet C1 C2 Prod.fst)):=⟨f26,_,⟨a26,n26,k26⟩,b26,Xo F26 N XPs XPair TPs MPsPairIn⟩
 have MPsSecond:MDefX l.prog w K mg base C1 "second" 5 ["self", "r", "q"] (spX mg (gPGet C1 C2 Prod.snd)):=⟨f27,_,⟨a27,n27,k27⟩,b27,VM F27 N XPs XPair TPs MPsPairIn⟩
 have MPsSetFirst:MDefX l.prog w K mg base C1 "set_first" 5 ["self", "q", "p"] (spX mg (gPSet C1 C2 putL)):=⟨f28,_,⟨a28,n28,k28⟩,b28,kH F28 N XPs XPair TPs MPsPairIn⟩
 have MPsSetSecond:MDefX l.prog w K mg base C1 "set_second" 5 ["self", "q", "p"] (spX mg (gPSet C1 C2 putR)):=⟨f29,_,⟨a29,n29,k29⟩,b29,km F29 N XPs XPair TPs MPsPairIn⟩
 have DDeedDone:DefX l.prog w K mg base "_law_deed_done" 6 ["store", "deed"] (spX mg (js C1 C2)):=⟨f30,_,PySem.W.mg_of X G a30,k30,b30,Qn F30 N TPs MPsNumber MPsSign MPsOne MPsCopy MPsPlus MPsLess MPsTimes MPsOver MPsRest MPsPair MPsFirst MPsSecond MPsSetFirst MPsSetSecond MPsBelow MPsSame MPsKind MPsTold⟩
 have DDone:Def l.prog w K mg base "_law_done" 7 ["store", "deed"] (spU (gDone C1 C2)):=⟨f31,_,PySem.W.mg_of X G a31,k31,b31,ok_doneU F31 N ONought CWk AWk BWk BNought EWk_Wk ENought_Wk ENought_Nought DDeedDone⟩
 have DOwnKind:Def l.prog w K mg base "_law_own_kind" 1 ["worth"] (spP Vf):=⟨f32,_,PySem.W.mg_of X G a32,k32,b32,Q8 F32 N⟩
 have DReckoned:Def l.prog w K mg base "_law_reckoned" 1 ["word", "a", "b"] (spP gReck):=⟨f33,_,PySem.W.mg_of X G a33,k33,b33,ok_reckU F33 N⟩
 have DOwnNumbers:Def l.prog w K mg base "_law_own_numbers" 2 ["own", "deed"] (spU VU):=⟨f34,_,PySem.W.mg_of X G a34,k34,b34,VO F34 N DOwnKind DReckoned⟩
 have DOwnDo:Def l.prog w K mg base "_law_own_do" 3 ["own", "deed"] (spU ZO):=⟨f35,_,PySem.W.mg_of X G a35,k35,b35,Xr F35 N DOwnKind DOwnNumbers⟩
 have DOwnAsk:Def l.prog w K mg base "_law_own_ask" 2 ["own", "deed"] (spU Qx):=⟨f36,_,PySem.W.mg_of X G a36,k36,b36,VP F36 N DOwnKind⟩
 have DBoth:Def l.prog w K mg base "_law_both" 8 ["store", "own", "deed"] (spU (VX C1 C2)):=⟨f37,_,PySem.W.mg_of X G a37,k37,b37,ok_bothU F37 N DDone DOwnDo DOwnAsk DAlike⟩
 have DAllSame:Def l.prog w K mg base "_law_all_same" 9 ["store", "own", "turn"] (spU (j8 C1 C2)):=⟨f38,_,PySem.W.mg_of X G a38,k38,b38,Q9 F38 N DBoth⟩
 have DAnyNumber:Def l.prog w K mg base "_law_any_number" 2 ["bag"] (spU xL):=⟨f39,_,PySem.W.mg_of X G a39,k39,b39,kI F39 N DDraw⟩
 have DClassRight:Def l.prog w K mg base "_law_class_right" 7 ["store", "deed", "word", "part"] (spU (xY C1 C2)):=⟨f40,_,PySem.W.mg_of X G a40,k40,b40,kn F40 N NVE CWk AWk BWk BNought BWordError BNoRoom BFaulty BNoText BNotFormed EWk_Wk ENought_Wk ENought_Nought TWk TNought IWk_ValueError IWk_WordError IWk_Nought IWk_NoRoom_Faulty_NoText_NotFormed INought_ValueError INought_WordError INought_Wk INought_NoRoom_Faulty_NoText_NotFormed DDeedDone DAlike⟩
 have DFilled:Def l.prog w K mg base "_law_filled" 9 ["bag", "store", "own"] (spU (VV C1 C2)):=⟨f41,_,PySem.W.mg_of X G a41,k41,b41,Xs F41 N DDraw DAnyNumber DBoth⟩
 exact ok_lawU F42 N CWk AWk DWk KXWk KPs DBag DDraw DFilled DOwnAsk DOwnDo DClassRight DAlike DDone DAllSame DBoth
theorem walk {l:PySem.W.OpenLaw} {q:Program} {loose:List Str} {XP:(Str→Option Value)→Heap→Prop} {YP:World→Heap→Prop} {d:DefRec} {K:Params→PySem.W.Frag} (hn:l.most = some 63) (hdf:d.params.defaults = [])
  (hY:∀ (w:World) (h:Heap),YP w h→(K w.params).In h)
  (F:∀ (w:World) (mg:Str→Option Value) (fa:Addr) (h:Heap),(K w.params).In h→h.Ns mainGlobals mg→mg d.name = some (.ref fa) →
   ∃ fd:FuncData,(∀ (s:Shared) (u:Value),BindsTo s fd ⟨[u], []⟩ [("script", u)])∧∀ base:Heap,(K w.params).In base→base.Ns mainGlobals mg→FnOk l.prog w (K w.params) mg base CX0 10 fa fd ["script"] (X5 (K w.params))) :
  PySem.W.WalkO q loose XP YP l.row.toRowW d [] (fun f vs => PySem.call f vs) :=
 L2.walk_of (n:=63) (k:=10) (x := "script") (CX:=fun _ => CX0) (sp:=fun w => X5 (K w.params)) hn (by decide) hdf ⟨rfl,by decide,by decide⟩ hY F (fun _ _ a ns hl _ hS => ⟨a,ns,rfl,hS,hl,fun _ => rfl⟩) fun _ _ _ _ _ z => z
end Mw
theorem PySem.W.Fast.te16148747032443467598:True:=True.intro
namespace Mw
open PySem PySem.W PySem.Calls PyProof.Rows L2
abbrev oE (P:Params) (n:Str) (t:Nat) (v:Value):DictEntry:=⟨PyData.keyHash P n, .str n t,v⟩
noncomputable def K:Params→Frag:=fun P =>
(nat_lit 2,⟨.none,none,(.dict #[] 0), #[]⟩) ::
(nat_lit 3,⟨.type "dict", none,(.dict [oE P "__name__" 165 (.str "law_markwords_k05_refused" 598),oE P "__doc__" 166 (.none),oE P "__package__" 167 (.none),oE P "__loader__" 168 (.builtin "__main__.__loader__#opaque"),oE P "__spec__" 169 (.none),oE P "__annotations__" 170 (.ref 6),oE P "__builtins__" 171 (.ref 4),oE P "__file__" 173 (.str "/claim/cut.py" 172),oE P "__cached__" 174 (.none),oE P "WordError" 206 (.ref 24),oE P "WrongKind" 231 (.ref 44),oE P "Nought" 247 (.ref 56),oE P "NoRoom" 263 (.ref 68),oE P "Faulty" 290 (.ref 87),oE P "NoText" 306 (.ref 99),oE P "NotFormed" 322 (.ref 111),oE P "need_numbers" 333 (.ref 120),oE P "need_divisor" 342 (.ref 127),oE P "need_pair" 350 (.ref 134),oE P "REGISTERS" 354 (.int (8) 353),oE P "Pair" 385 (.ref 151),oE P "kind_of" 392 (.ref 162),oE P "PlainStore" 597 (.ref 312),oE P "_law_bag" 605 (.ref 321),oE P "_law_draw" 614 (.ref 328),oE P "_law_reckoned" 623 (.ref 335),oE P "_law_deed_done" 632 (.ref 342),oE P "_law_done" 643 (.ref 349),oE P "_law_alike" 649 (.ref 354),oE P "_law_any_number" 658 (.ref 361),oE P "_law_own_kind" 665 (.ref 368),oE P "_law_own_numbers" 681 (.ref 375),oE P "_law_own_do" 693 (.ref 382),oE P "_law_own_ask" 704 (.ref 389),oE P "_law_both" 713 (.ref 396),oE P "_law_all_same" 724 (.ref 403),oE P "_law_class_right" 737 (.ref 410),oE P "_law_filled" 749 (.ref 417),oE P "law" 755 (.ref 422)].toArray 39), #[]⟩) ::
(nat_lit 15,⟨.type "tuple", none,(.seq #[.type "ValueError"] 0), #[]⟩) ::
(nat_lit 22,⟨.type "tuple", none,(.seq #[] 0), #[]⟩) ::
(nat_lit 23,⟨.type "dict", none,(.dict [oE P "__module__" 196 (.str "markwords.errors" 187),oE P "__firstlineno__" 200 (.int (2) 199),oE P "__static_attributes__" 201 (.ref 22),oE P "__weakref__" 203 (.ref 25),oE P "__doc__" 204 (.none)].toArray 3), #[]⟩) ::
(nat_lit 24,⟨.type "type", none,(.cls ({ name := "WordError", bases:=[.type "ValueError"],mro:=[.ref 24, .type "ValueError", .type "Exception", .type "BaseException", .type "object"],ns:=23,qualname := "WordError", hasDict:=true,slotNames:=[],subclasses:=[.ref 44, .ref 56, .ref 68, .ref 87, .ref 99, .ref 111],abstract:=false,collection:=none,hasDel:=false }:ClassData)), #[(some (.ref 15)),none,(some (.str "WordError" 189)),(some (.str "WordError" 197)),(some (.builtin "ValueError.__new__")),(some (.bool true))]⟩) ::
(nat_lit 25,⟨.type "getset_descriptor", none,(.fields #[.str "__weakref__" 202, .ref 24, .builtin "ExceptionGroup.__weakref__", .none]), #[]⟩) ::
(nat_lit 28,⟨.type "tuple", none,(.seq #[.ref 24] 0), #[]⟩) ::
(nat_lit 35,⟨.type "tuple", none,(.seq #[] 0), #[]⟩) ::
(nat_lit 37,⟨.type "tuple", none,(.seq #[.str "self" 222, .str "part" 223] 0), #[]⟩) ::
(nat_lit 38,⟨.type "tuple", none,(.seq #[] 0), #[]⟩) ::
(nat_lit 40,⟨.type "code", none,(.fields #[.str "__init__" 219, .str "WrongKind.__init__" 220, .str "/claim/cut.py" 221, .int (6) 0, .int (2) 0, .int (0) 0, .int (0) 0, .int (3) 0, .ref 35, .bool true, .int (181) 0, .ref 36, .none, .ref 37, .ref 38, .ref 39, .int (224) 0, .int (6) 0, .str "/claim/cut.py" 225]), #[]⟩) ::
(nat_lit 41,⟨.type "function", none,(.func (PySem.W.fnOf "__init__" "WrongKind.__init__" (qj (qi (top 2) 0)) (qg (qi (top 2) 0)) (qc (qi (top 2) 0)) (.none) (.none) (.none) (.str "markwords.errors" 187) none (.ref 40) (.none))), #[]⟩) ::
(nat_lit 42,⟨.type "tuple", none,(.seq #[.str "part" 227] 0), #[]⟩) ::
(nat_lit 43,⟨.type "dict", none,(.dict [oE P "__module__" 214 (.str "markwords.errors" 187),oE P "__firstlineno__" 218 (.int (4) 217),oE P "__init__" 226 (.ref 41),oE P "__static_attributes__" 228 (.ref 42),oE P "__doc__" 229 (.none)].toArray 2), #[]⟩) ::
(nat_lit 44,⟨.type "type", none,(.cls ({ name := "WrongKind", bases:=[.ref 24],mro:=[.ref 44, .ref 24, .type "ValueError", .type "Exception", .type "BaseException", .type "object"],ns:=43,qualname := "WrongKind", hasDict:=true,slotNames:=[],subclasses:=[],abstract:=false,collection:=none,hasDel:=false }:ClassData)), #[(some (.ref 28)),none,(some (.str "WrongKind" 207)),(some (.str "WrongKind" 215)),(some (.builtin "ValueError.__new__")),(some (.bool true))]⟩) ::
(nat_lit 47,⟨.type "tuple", none,(.seq #[.ref 24] 0), #[]⟩) ::
(nat_lit 54,⟨.type "tuple", none,(.seq #[] 0), #[]⟩) ::
(nat_lit 55,⟨.type "dict", none,(.dict [oE P "__module__" 239 (.str "markwords.errors" 187),oE P "__firstlineno__" 243 (.int (9) 242),oE P "__static_attributes__" 244 (.ref 54),oE P "__doc__" 245 (.none)].toArray 2), #[]⟩) ::
(nat_lit 56,⟨.type "type", none,(.cls ({ name := "Nought", bases:=[.ref 24],mro:=[.ref 56, .ref 24, .type "ValueError", .type "Exception", .type "BaseException", .type "object"],ns:=55,qualname := "Nought", hasDict:=true,slotNames:=[],subclasses:=[],abstract:=false,collection:=none,hasDel:=false }:ClassData)), #[(some (.ref 47)),none,(some (.str "Nought" 232)),(some (.str "Nought" 240)),(some (.builtin "ValueError.__new__")),(some (.bool true))]⟩) ::
(nat_lit 59,⟨.type "tuple", none,(.seq #[.ref 24] 0), #[]⟩) ::
(nat_lit 66,⟨.type "tuple", none,(.seq #[] 0), #[]⟩) ::
(nat_lit 67,⟨.type "dict", none,(.dict [oE P "__module__" 255 (.str "markwords.errors" 187),oE P "__firstlineno__" 259 (.int (11) 258),oE P "__static_attributes__" 260 (.ref 66),oE P "__doc__" 261 (.none)].toArray 2), #[]⟩) ::
(nat_lit 68,⟨.type "type", none,(.cls ({ name := "NoRoom", bases:=[.ref 24],mro:=[.ref 68, .ref 24, .type "ValueError", .type "Exception", .type "BaseException", .type "object"],ns:=67,qualname := "NoRoom", hasDict:=true,slotNames:=[],subclasses:=[],abstract:=false,collection:=none,hasDel:=false }:ClassData)), #[(some (.ref 59)),none,(some (.str "NoRoom" 248)),(some (.str "NoRoom" 256)),(some (.builtin "ValueError.__new__")),(some (.bool true))]⟩) ::
(nat_lit 71,⟨.type "tuple", none,(.seq #[.ref 24] 0), #[]⟩) ::
(nat_lit 78,⟨.type "tuple", none,(.seq #[] 0), #[]⟩) ::
(nat_lit 80,⟨.type "tuple", none,(.seq #[.str "self" 279, .str "word" 280, .str "k" 281] 0), #[]⟩) ::
(nat_lit 81,⟨.type "tuple", none,(.seq #[] 0), #[]⟩) ::
(nat_lit 83,⟨.type "code", none,(.fields #[.str "__init__" 276, .str "Faulty.__init__" 277, .str "/claim/cut.py" 278, .int (15) 0, .int (3) 0, .int (0) 0, .int (0) 0, .int (3) 0, .ref 78, .bool true, .int (181) 0, .ref 79, .none, .ref 80, .ref 81, .ref 82, .int (282) 0, .int (15) 0, .str "/claim/cut.py" 283]), #[]⟩) ::
(nat_lit 84,⟨.type "function", none,(.func (PySem.W.fnOf "__init__" "Faulty.__init__" (qj (qi (top 5) 0)) (qg (qi (top 5) 0)) (qc (qi (top 5) 0)) (.none) (.none) (.none) (.str "markwords.errors" 187) none (.ref 83) (.none))), #[]⟩) ::
(nat_lit 85,⟨.type "tuple", none,(.seq #[.str "k" 285, .str "word" 286] 0), #[]⟩) ::
(nat_lit 86,⟨.type "dict", none,(.dict [oE P "__module__" 271 (.str "markwords.errors" 187),oE P "__firstlineno__" 275 (.int (13) 274),oE P "__init__" 284 (.ref 84),oE P "__static_attributes__" 287 (.ref 85),oE P "__doc__" 288 (.none)].toArray 2), #[]⟩) ::
(nat_lit 87,⟨.type "type", none,(.cls ({ name := "Faulty", bases:=[.ref 24],mro:=[.ref 87, .ref 24, .type "ValueError", .type "Exception", .type "BaseException", .type "object"],ns:=86,qualname := "Faulty", hasDict:=true,slotNames:=[],subclasses:=[],abstract:=false,collection:=none,hasDel:=false }:ClassData)), #[(some (.ref 71)),none,(some (.str "Faulty" 264)),(some (.str "Faulty" 272)),(some (.builtin "ValueError.__new__")),(some (.bool true))]⟩) ::
(nat_lit 90,⟨.type "tuple", none,(.seq #[.ref 24] 0), #[]⟩) ::
(nat_lit 97,⟨.type "tuple", none,(.seq #[] 0), #[]⟩) ::
(nat_lit 98,⟨.type "dict", none,(.dict [oE P "__module__" 298 (.str "markwords.errors" 187),oE P "__firstlineno__" 302 (.int (19) 301),oE P "__static_attributes__" 303 (.ref 97),oE P "__doc__" 304 (.none)].toArray 2), #[]⟩) ::
(nat_lit 99,⟨.type "type", none,(.cls ({ name := "NoText", bases:=[.ref 24],mro:=[.ref 99, .ref 24, .type "ValueError", .type "Exception", .type "BaseException", .type "object"],ns:=98,qualname := "NoText", hasDict:=true,slotNames:=[],subclasses:=[],abstract:=false,collection:=none,hasDel:=false }:ClassData)), #[(some (.ref 90)),none,(some (.str "NoText" 291)),(some (.str "NoText" 299)),(some (.builtin "ValueError.__new__")),(some (.bool true))]⟩) ::
(nat_lit 102,⟨.type "tuple", none,(.seq #[.ref 24] 0), #[]⟩) ::
(nat_lit 109,⟨.type "tuple", none,(.seq #[] 0), #[]⟩) ::
(nat_lit 110,⟨.type "dict", none,(.dict [oE P "__module__" 314 (.str "markwords.errors" 187),oE P "__firstlineno__" 318 (.int (21) 317),oE P "__static_attributes__" 319 (.ref 109),oE P "__doc__" 320 (.none)].toArray 2), #[]⟩) ::
(nat_lit 111,⟨.type "type", none,(.cls ({ name := "NotFormed", bases:=[.ref 24],mro:=[.ref 111, .ref 24, .type "ValueError", .type "Exception", .type "BaseException", .type "object"],ns:=110,qualname := "NotFormed", hasDict:=true,slotNames:=[],subclasses:=[],abstract:=false,collection:=none,hasDel:=false }:ClassData)), #[(some (.ref 102)),none,(some (.str "NotFormed" 307)),(some (.str "NotFormed" 315)),(some (.builtin "ValueError.__new__")),(some (.bool true))]⟩) ::
(nat_lit 114,⟨.type "tuple", none,(.seq #[] 0), #[]⟩) ::
(nat_lit 116,⟨.type "tuple", none,(.seq #[.str "store" 328, .str "q" 329, .str "p" 330] 0), #[]⟩) ::
(nat_lit 117,⟨.type "tuple", none,(.seq #[] 0), #[]⟩) ::
(nat_lit 119,⟨.type "code", none,(.fields #[.str "need_numbers" 325, .str "need_numbers" 326, .str "/claim/cut.py" 327, .int (24) 0, .int (3) 0, .int (0) 0, .int (0) 0, .int (3) 0, .ref 114, .bool true, .int (181) 0, .ref 115, .none, .ref 116, .ref 117, .ref 118, .int (331) 0, .int (24) 0, .str "/claim/cut.py" 332]), #[]⟩) ::
(nat_lit 120,⟨.type "function", none,(.func (PySem.W.fnOf "need_numbers" "need_numbers" (qj (top 9)) (qg (top 9)) (qc (top 9)) (.none) (.none) (.none) (.str "markwords.needs" 323) none (.ref 119) (.none))), #[]⟩) ::
(nat_lit 121,⟨.type "tuple", none,(.seq #[] 0), #[]⟩) ::
(nat_lit 123,⟨.type "tuple", none,(.seq #[.str "store" 337, .str "q" 338, .str "p" 339] 0), #[]⟩) ::
(nat_lit 124,⟨.type "tuple", none,(.seq #[] 0), #[]⟩) ::
(nat_lit 126,⟨.type "code", none,(.fields #[.str "need_divisor" 334, .str "need_divisor" 335, .str "/claim/cut.py" 336, .int (29) 0, .int (3) 0, .int (0) 0, .int (0) 0, .int (3) 0, .ref 121, .bool true, .int (181) 0, .ref 122, .none, .ref 123, .ref 124, .ref 125, .int (340) 0, .int (29) 0, .str "/claim/cut.py" 341]), #[]⟩) ::
(nat_lit 127,⟨.type "function", none,(.func (PySem.W.fnOf "need_divisor" "need_divisor" (qj (top 10)) (qg (top 10)) (qc (top 10)) (.none) (.none) (.none) (.str "markwords.needs" 323) none (.ref 126) (.none))), #[]⟩) ::
(nat_lit 128,⟨.type "tuple", none,(.seq #[] 0), #[]⟩) ::
(nat_lit 130,⟨.type "tuple", none,(.seq #[.str "store" 346, .str "q" 347] 0), #[]⟩) ::
(nat_lit 131,⟨.type "tuple", none,(.seq #[] 0), #[]⟩) ::
(nat_lit 133,⟨.type "code", none,(.fields #[.str "need_pair" 343, .str "need_pair" 344, .str "/claim/cut.py" 345, .int (33) 0, .int (2) 0, .int (0) 0, .int (0) 0, .int (3) 0, .ref 128, .bool true, .int (181) 0, .ref 129, .none, .ref 130, .ref 131, .ref 132, .int (348) 0, .int (33) 0, .str "/claim/cut.py" 349]), #[]⟩) ::
(nat_lit 134,⟨.type "function", none,(.func (PySem.W.fnOf "need_pair" "need_pair" (qj (top 11)) (qg (top 11)) (qc (top 11)) (.none) (.none) (.none) (.str "markwords.needs" 323) none (.ref 133) (.none))), #[]⟩) ::
(nat_lit 142,⟨.type "tuple", none,(.seq #[] 0), #[]⟩) ::
(nat_lit 144,⟨.type "tuple", none,(.seq #[.str "self" 370, .str "left" 371, .str "right" 372] 0), #[]⟩) ::
(nat_lit 145,⟨.type "tuple", none,(.seq #[] 0), #[]⟩) ::
(nat_lit 147,⟨.type "code", none,(.fields #[.str "__init__" 367, .str "Pair.__init__" 368, .str "/claim/cut.py" 369, .int (40) 0, .int (3) 0, .int (0) 0, .int (0) 0, .int (3) 0, .ref 142, .bool true, .int (181) 0, .ref 143, .none, .ref 144, .ref 145, .ref 146, .int (373) 0, .int (40) 0, .str "/claim/cut.py" 374]), #[]⟩) ::
(nat_lit 148,⟨.type "function", none,(.func (PySem.W.fnOf "__init__" "Pair.__init__" (qj (qi (top 14) 0)) (qg (qi (top 14) 0)) (qc (qi (top 14) 0)) (.none) (.none) (.none) (.str "markwords.plain" 351) none (.ref 147) (.none))), #[]⟩) ::
(nat_lit 149,⟨.type "tuple", none,(.seq #[.str "left" 376, .str "right" 377] 0), #[]⟩) ::
(nat_lit 150,⟨.type "dict", none,(.dict [oE P "__module__" 362 (.str "markwords.plain" 351),oE P "__firstlineno__" 366 (.int (38) 365),oE P "__init__" 375 (.ref 148),oE P "__static_attributes__" 378 (.ref 149),oE P "__dict__" 380 (.ref 152),oE P "__weakref__" 382 (.ref 153),oE P "__doc__" 383 (.none)].toArray 4), #[]⟩) ::
(nat_lit 151,⟨.type "type", none,(.cls ({ name := "Pair", bases:=[.type "object"],mro:=[.ref 151, .type "object"],ns:=150,qualname := "Pair", hasDict:=true,slotNames:=[],subclasses:=[],abstract:=false,collection:=none,hasDel:=false }:ClassData)), #[none,none,(some (.str "Pair" 355)),(some (.str "Pair" 363)),(some (.builtin "object.__new__")),(some (.bool true))]⟩) ::
(nat_lit 152,⟨.type "getset_descriptor", none,(.fields #[.str "__dict__" 379, .ref 151, .builtin "function.__dict__", .builtin "function.__dict__#set"]), #[]⟩) ::
(nat_lit 153,⟨.type "getset_descriptor", none,(.fields #[.str "__weakref__" 381, .ref 151, .builtin "ExceptionGroup.__weakref__", .none]), #[]⟩) ::
(nat_lit 156,⟨.type "tuple", none,(.seq #[] 0), #[]⟩) ::
(nat_lit 158,⟨.type "tuple", none,(.seq #[.str "worth" 389] 0), #[]⟩) ::
(nat_lit 159,⟨.type "tuple", none,(.seq #[] 0), #[]⟩) ::
(nat_lit 161,⟨.type "code", none,(.fields #[.str "kind_of" 386, .str "kind_of" 387, .str "/claim/cut.py" 388, .int (43) 0, .int (1) 0, .int (0) 0, .int (0) 0, .int (3) 0, .ref 156, .bool true, .int (181) 0, .ref 157, .none, .ref 158, .ref 159, .ref 160, .int (390) 0, .int (43) 0, .str "/claim/cut.py" 391]), #[]⟩) ::
(nat_lit 162,⟨.type "function", none,(.func (PySem.W.fnOf "kind_of" "kind_of" (qj (top 15)) (qg (top 15)) (qc (top 15)) (.none) (.none) (.none) (.str "markwords.plain" 351) none (.ref 161) (.none))), #[]⟩) ::
(nat_lit 170,⟨.type "tuple", none,(.seq #[] 0), #[]⟩) ::
(nat_lit 172,⟨.type "tuple", none,(.seq #[.str "self" 408] 0), #[]⟩) ::
(nat_lit 173,⟨.type "tuple", none,(.seq #[] 0), #[]⟩) ::
(nat_lit 175,⟨.type "code", none,(.fields #[.str "__init__" 405, .str "PlainStore.__init__" 406, .str "/claim/cut.py" 407, .int (53) 0, .int (1) 0, .int (0) 0, .int (0) 0, .int (3) 0, .ref 170, .bool true, .int (181) 0, .ref 171, .none, .ref 172, .ref 173, .ref 174, .int (409) 0, .int (53) 0, .str "/claim/cut.py" 410]), #[]⟩) ::
(nat_lit 176,⟨.type "function", none,(.func (PySem.W.fnOf "__init__" "PlainStore.__init__" (qj (qi (top 16) 0)) (qg (qi (top 16) 0)) (qc (qi (top 16) 0)) (.none) (.none) (.none) (.str "markwords.plain" 351) none (.ref 175) (.none))), #[]⟩) ::
(nat_lit 177,⟨.type "tuple", none,(.seq #[] 0), #[]⟩) ::
(nat_lit 179,⟨.type "tuple", none,(.seq #[.str "self" 415, .str "q" 416] 0), #[]⟩) ::
(nat_lit 180,⟨.type "tuple", none,(.seq #[] 0), #[]⟩) ::
(nat_lit 182,⟨.type "code", none,(.fields #[.str "pair_in" 412, .str "PlainStore.pair_in" 413, .str "/claim/cut.py" 414, .int (56) 0, .int (2) 0, .int (0) 0, .int (0) 0, .int (3) 0, .ref 177, .bool true, .int (181) 0, .ref 178, .none, .ref 179, .ref 180, .ref 181, .int (417) 0, .int (56) 0, .str "/claim/cut.py" 418]), #[]⟩) ::
(nat_lit 183,⟨.type "function", none,(.func (PySem.W.fnOf "pair_in" "PlainStore.pair_in" (qj (qi (top 16) 1)) (qg (qi (top 16) 1)) (qc (qi (top 16) 1)) (.none) (.none) (.none) (.str "markwords.plain" 351) none (.ref 182) (.none))), #[]⟩) ::
(nat_lit 184,⟨.type "tuple", none,(.seq #[] 0), #[]⟩) ::
(nat_lit 186,⟨.type "tuple", none,(.seq #[.str "self" 423, .str "r" 424, .str "n" 425] 0), #[]⟩) ::
(nat_lit 187,⟨.type "tuple", none,(.seq #[] 0), #[]⟩) ::
(nat_lit 189,⟨.type "code", none,(.fields #[.str "number" 420, .str "PlainStore.number" 421, .str "/claim/cut.py" 422, .int (60) 0, .int (3) 0, .int (0) 0, .int (0) 0, .int (3) 0, .ref 184, .bool true, .int (181) 0, .ref 185, .none, .ref 186, .ref 187, .ref 188, .int (426) 0, .int (60) 0, .str "/claim/cut.py" 427]), #[]⟩) ::
(nat_lit 190,⟨.type "function", none,(.func (PySem.W.fnOf "number" "PlainStore.number" (qj (qi (top 16) 2)) (qg (qi (top 16) 2)) (qc (qi (top 16) 2)) (.none) (.none) (.none) (.str "markwords.plain" 351) none (.ref 189) (.none))), #[]⟩) ::
(nat_lit 191,⟨.type "tuple", none,(.seq #[] 0), #[]⟩) ::
(nat_lit 193,⟨.type "tuple", none,(.seq #[.str "self" 432, .str "r" 433, .str "k" 434] 0), #[]⟩) ::
(nat_lit 194,⟨.type "tuple", none,(.seq #[] 0), #[]⟩) ::
(nat_lit 196,⟨.type "code", none,(.fields #[.str "sign" 429, .str "PlainStore.sign" 430, .str "/claim/cut.py" 431, .int (63) 0, .int (3) 0, .int (0) 0, .int (0) 0, .int (3) 0, .ref 191, .bool true, .int (181) 0, .ref 192, .none, .ref 193, .ref 194, .ref 195, .int (435) 0, .int (63) 0, .str "/claim/cut.py" 436]), #[]⟩) ::
(nat_lit 197,⟨.type "function", none,(.func (PySem.W.fnOf "sign" "PlainStore.sign" (qj (qi (top 16) 3)) (qg (qi (top 16) 3)) (qc (qi (top 16) 3)) (.none) (.none) (.none) (.str "markwords.plain" 351) none (.ref 196) (.none))), #[]⟩) ::
(nat_lit 198,⟨.type "tuple", none,(.seq #[] 0), #[]⟩) ::
(nat_lit 200,⟨.type "tuple", none,(.seq #[.str "self" 441, .str "r" 442, .str "text" 443] 0), #[]⟩) ::
(nat_lit 201,⟨.type "tuple", none,(.seq #[] 0), #[]⟩) ::
(nat_lit 203,⟨.type "code", none,(.fields #[.str "one" 438, .str "PlainStore.one" 439, .str "/claim/cut.py" 440, .int (66) 0, .int (3) 0, .int (0) 0, .int (0) 0, .int (3) 0, .ref 198, .bool true, .int (181) 0, .ref 199, .none, .ref 200, .ref 201, .ref 202, .int (444) 0, .int (66) 0, .str "/claim/cut.py" 445]), #[]⟩) ::
(nat_lit 204,⟨.type "function", none,(.func (PySem.W.fnOf "one" "PlainStore.one" (qj (qi (top 16) 4)) (qg (qi (top 16) 4)) (qc (qi (top 16) 4)) (.none) (.none) (.none) (.str "markwords.plain" 351) none (.ref 203) (.none))), #[]⟩) ::
(nat_lit 205,⟨.type "tuple", none,(.seq #[] 0), #[]⟩) ::
(nat_lit 207,⟨.type "tuple", none,(.seq #[.str "self" 450, .str "r" 451, .str "q" 452] 0), #[]⟩) ::
(nat_lit 208,⟨.type "tuple", none,(.seq #[] 0), #[]⟩) ::
(nat_lit 210,⟨.type "code", none,(.fields #[.str "copy" 447, .str "PlainStore.copy" 448, .str "/claim/cut.py" 449, .int (69) 0, .int (3) 0, .int (0) 0, .int (0) 0, .int (3) 0, .ref 205, .bool true, .int (181) 0, .ref 206, .none, .ref 207, .ref 208, .ref 209, .int (453) 0, .int (69) 0, .str "/claim/cut.py" 454]), #[]⟩) ::
(nat_lit 211,⟨.type "function", none,(.func (PySem.W.fnOf "copy" "PlainStore.copy" (qj (qi (top 16) 5)) (qg (qi (top 16) 5)) (qc (qi (top 16) 5)) (.none) (.none) (.none) (.str "markwords.plain" 351) none (.ref 210) (.none))), #[]⟩) ::
(nat_lit 212,⟨.type "tuple", none,(.seq #[] 0), #[]⟩) ::
(nat_lit 214,⟨.type "tuple", none,(.seq #[.str "self" 459, .str "r" 460, .str "q" 461, .str "p" 462] 0), #[]⟩) ::
(nat_lit 215,⟨.type "tuple", none,(.seq #[] 0), #[]⟩) ::
(nat_lit 217,⟨.type "code", none,(.fields #[.str "plus" 456, .str "PlainStore.plus" 457, .str "/claim/cut.py" 458, .int (72) 0, .int (4) 0, .int (0) 0, .int (0) 0, .int (3) 0, .ref 212, .bool true, .int (181) 0, .ref 213, .none, .ref 214, .ref 215, .ref 216, .int (463) 0, .int (72) 0, .str "/claim/cut.py" 464]), #[]⟩) ::
(nat_lit 218,⟨.type "function", none,(.func (PySem.W.fnOf "plus" "PlainStore.plus" (qj (qi (top 16) 6)) (qg (qi (top 16) 6)) (qc (qi (top 16) 6)) (.none) (.none) (.none) (.str "markwords.plain" 351) none (.ref 217) (.none))), #[]⟩) ::
(nat_lit 219,⟨.type "tuple", none,(.seq #[] 0), #[]⟩) ::
(nat_lit 221,⟨.type "tuple", none,(.seq #[.str "self" 469, .str "r" 470, .str "q" 471, .str "p" 472] 0), #[]⟩) ::
(nat_lit 222,⟨.type "tuple", none,(.seq #[] 0), #[]⟩) ::
(nat_lit 224,⟨.type "code", none,(.fields #[.str "less" 466, .str "PlainStore.less" 467, .str "/claim/cut.py" 468, .int (76) 0, .int (4) 0, .int (0) 0, .int (0) 0, .int (3) 0, .ref 219, .bool true, .int (181) 0, .ref 220, .none, .ref 221, .ref 222, .ref 223, .int (473) 0, .int (76) 0, .str "/claim/cut.py" 474]), #[]⟩) ::
(nat_lit 225,⟨.type "function", none,(.func (PySem.W.fnOf "less" "PlainStore.less" (qj (qi (top 16) 7)) (qg (qi (top 16) 7)) (qc (qi (top 16) 7)) (.none) (.none) (.none) (.str "markwords.plain" 351) none (.ref 224) (.none))), #[]⟩) ::
(nat_lit 226,⟨.type "tuple", none,(.seq #[] 0), #[]⟩) ::
(nat_lit 228,⟨.type "tuple", none,(.seq #[.str "self" 479, .str "r" 480, .str "q" 481, .str "p" 482] 0), #[]⟩) ::
(nat_lit 229,⟨.type "tuple", none,(.seq #[] 0), #[]⟩) ::
(nat_lit 231,⟨.type "code", none,(.fields #[.str "times" 476, .str "PlainStore.times" 477, .str "/claim/cut.py" 478, .int (80) 0, .int (4) 0, .int (0) 0, .int (0) 0, .int (3) 0, .ref 226, .bool true, .int (181) 0, .ref 227, .none, .ref 228, .ref 229, .ref 230, .int (483) 0, .int (80) 0, .str "/claim/cut.py" 484]), #[]⟩) ::
(nat_lit 232,⟨.type "function", none,(.func (PySem.W.fnOf "times" "PlainStore.times" (qj (qi (top 16) 8)) (qg (qi (top 16) 8)) (qc (qi (top 16) 8)) (.none) (.none) (.none) (.str "markwords.plain" 351) none (.ref 231) (.none))), #[]⟩) ::
(nat_lit 233,⟨.type "tuple", none,(.seq #[] 0), #[]⟩) ::
(nat_lit 235,⟨.type "tuple", none,(.seq #[.str "self" 489, .str "r" 490, .str "q" 491, .str "p" 492] 0), #[]⟩) ::
(nat_lit 236,⟨.type "tuple", none,(.seq #[] 0), #[]⟩) ::
(nat_lit 238,⟨.type "code", none,(.fields #[.str "over" 486, .str "PlainStore.over" 487, .str "/claim/cut.py" 488, .int (84) 0, .int (4) 0, .int (0) 0, .int (0) 0, .int (3) 0, .ref 233, .bool true, .int (181) 0, .ref 234, .none, .ref 235, .ref 236, .ref 237, .int (493) 0, .int (84) 0, .str "/claim/cut.py" 494]), #[]⟩) ::
(nat_lit 239,⟨.type "function", none,(.func (PySem.W.fnOf "over" "PlainStore.over" (qj (qi (top 16) 9)) (qg (qi (top 16) 9)) (qc (qi (top 16) 9)) (.none) (.none) (.none) (.str "markwords.plain" 351) none (.ref 238) (.none))), #[]⟩) ::
(nat_lit 240,⟨.type "tuple", none,(.seq #[] 0), #[]⟩) ::
(nat_lit 242,⟨.type "tuple", none,(.seq #[.str "self" 499, .str "r" 500, .str "q" 501, .str "p" 502] 0), #[]⟩) ::
(nat_lit 243,⟨.type "tuple", none,(.seq #[] 0), #[]⟩) ::
(nat_lit 245,⟨.type "code", none,(.fields #[.str "rest" 496, .str "PlainStore.rest" 497, .str "/claim/cut.py" 498, .int (88) 0, .int (4) 0, .int (0) 0, .int (0) 0, .int (3) 0, .ref 240, .bool true, .int (181) 0, .ref 241, .none, .ref 242, .ref 243, .ref 244, .int (503) 0, .int (88) 0, .str "/claim/cut.py" 504]), #[]⟩) ::
(nat_lit 246,⟨.type "function", none,(.func (PySem.W.fnOf "rest" "PlainStore.rest" (qj (qi (top 16) 10)) (qg (qi (top 16) 10)) (qc (qi (top 16) 10)) (.none) (.none) (.none) (.str "markwords.plain" 351) none (.ref 245) (.none))), #[]⟩) ::
(nat_lit 247,⟨.type "tuple", none,(.seq #[] 0), #[]⟩) ::
(nat_lit 249,⟨.type "tuple", none,(.seq #[.str "self" 509, .str "r" 510, .str "q" 511, .str "p" 512] 0), #[]⟩) ::
(nat_lit 250,⟨.type "tuple", none,(.seq #[] 0), #[]⟩) ::
(nat_lit 252,⟨.type "code", none,(.fields #[.str "pair" 506, .str "PlainStore.pair" 507, .str "/claim/cut.py" 508, .int (92) 0, .int (4) 0, .int (0) 0, .int (0) 0, .int (3) 0, .ref 247, .bool true, .int (181) 0, .ref 248, .none, .ref 249, .ref 250, .ref 251, .int (513) 0, .int (92) 0, .str "/claim/cut.py" 514]), #[]⟩) ::
(nat_lit 253,⟨.type "function", none,(.func (PySem.W.fnOf "pair" "PlainStore.pair" (qj (qi (top 16) 11)) (qg (qi (top 16) 11)) (qc (qi (top 16) 11)) (.none) (.none) (.none) (.str "markwords.plain" 351) none (.ref 252) (.none))), #[]⟩) ::
(nat_lit 254,⟨.type "tuple", none,(.seq #[] 0), #[]⟩) ::
(nat_lit 256,⟨.type "tuple", none,(.seq #[.str "self" 519, .str "r" 520, .str "q" 521] 0), #[]⟩) ::
(nat_lit 257,⟨.type "tuple", none,(.seq #[] 0), #[]⟩) ::
(nat_lit 259,⟨.type "code", none,(.fields #[.str "first" 516, .str "PlainStore.first" 517, .str "/claim/cut.py" 518, .int (95) 0, .int (3) 0, .int (0) 0, .int (0) 0, .int (3) 0, .ref 254, .bool true, .int (181) 0, .ref 255, .none, .ref 256, .ref 257, .ref 258, .int (522) 0, .int (95) 0, .str "/claim/cut.py" 523]), #[]⟩) ::
(nat_lit 260,⟨.type "function", none,(.func (PySem.W.fnOf "first" "PlainStore.first" (qj (qi (top 16) 12)) (qg (qi (top 16) 12)) (qc (qi (top 16) 12)) (.none) (.none) (.none) (.str "markwords.plain" 351) none (.ref 259) (.none))), #[]⟩) ::
(nat_lit 261,⟨.type "tuple", none,(.seq #[] 0), #[]⟩) ::
(nat_lit 263,⟨.type "tuple", none,(.seq #[.str "self" 528, .str "r" 529, .str "q" 530] 0), #[]⟩) ::
(nat_lit 264,⟨.type "tuple", none,(.seq #[] 0), #[]⟩) ::
(nat_lit 266,⟨.type "code", none,(.fields #[.str "second" 525, .str "PlainStore.second" 526, .str "/claim/cut.py" 527, .int (98) 0, .int (3) 0, .int (0) 0, .int (0) 0, .int (3) 0, .ref 261, .bool true, .int (181) 0, .ref 262, .none, .ref 263, .ref 264, .ref 265, .int (531) 0, .int (98) 0, .str "/claim/cut.py" 532]), #[]⟩) ::
(nat_lit 267,⟨.type "function", none,(.func (PySem.W.fnOf "second" "PlainStore.second" (qj (qi (top 16) 13)) (qg (qi (top 16) 13)) (qc (qi (top 16) 13)) (.none) (.none) (.none) (.str "markwords.plain" 351) none (.ref 266) (.none))), #[]⟩) ::
(nat_lit 268,⟨.type "tuple", none,(.seq #[] 0), #[]⟩) ::
(nat_lit 270,⟨.type "tuple", none,(.seq #[.str "self" 537, .str "q" 538, .str "p" 539, .str "changed" 540] 0), #[]⟩) ::
(nat_lit 271,⟨.type "tuple", none,(.seq #[] 0), #[]⟩) ::
(nat_lit 273,⟨.type "code", none,(.fields #[.str "set_first" 534, .str "PlainStore.set_first" 535, .str "/claim/cut.py" 536, .int (101) 0, .int (3) 0, .int (0) 0, .int (0) 0, .int (3) 0, .ref 268, .bool true, .int (181) 0, .ref 269, .none, .ref 270, .ref 271, .ref 272, .int (541) 0, .int (101) 0, .str "/claim/cut.py" 542]), #[]⟩) ::
(nat_lit 274,⟨.type "function", none,(.func (PySem.W.fnOf "set_first" "PlainStore.set_first" (qj (qi (top 16) 14)) (qg (qi (top 16) 14)) (qc (qi (top 16) 14)) (.none) (.none) (.none) (.str "markwords.plain" 351) none (.ref 273) (.none))), #[]⟩) ::
(nat_lit 275,⟨.type "tuple", none,(.seq #[] 0), #[]⟩) ::
(nat_lit 277,⟨.type "tuple", none,(.seq #[.str "self" 547, .str "q" 548, .str "p" 549, .str "changed" 550] 0), #[]⟩) ::
(nat_lit 278,⟨.type "tuple", none,(.seq #[] 0), #[]⟩) ::
(nat_lit 280,⟨.type "code", none,(.fields #[.str "set_second" 544, .str "PlainStore.set_second" 545, .str "/claim/cut.py" 546, .int (105) 0, .int (3) 0, .int (0) 0, .int (0) 0, .int (3) 0, .ref 275, .bool true, .int (181) 0, .ref 276, .none, .ref 277, .ref 278, .ref 279, .int (551) 0, .int (105) 0, .str "/claim/cut.py" 552]), #[]⟩) ::
(nat_lit 281,⟨.type "function", none,(.func (PySem.W.fnOf "set_second" "PlainStore.set_second" (qj (qi (top 16) 15)) (qg (qi (top 16) 15)) (qc (qi (top 16) 15)) (.none) (.none) (.none) (.str "markwords.plain" 351) none (.ref 280) (.none))), #[]⟩) ::
(nat_lit 282,⟨.type "tuple", none,(.seq #[] 0), #[]⟩) ::
(nat_lit 284,⟨.type "tuple", none,(.seq #[.str "self" 557, .str "q" 558, .str "p" 559] 0), #[]⟩) ::
(nat_lit 285,⟨.type "tuple", none,(.seq #[] 0), #[]⟩) ::
(nat_lit 287,⟨.type "code", none,(.fields #[.str "below" 554, .str "PlainStore.below" 555, .str "/claim/cut.py" 556, .int (109) 0, .int (3) 0, .int (0) 0, .int (0) 0, .int (3) 0, .ref 282, .bool true, .int (181) 0, .ref 283, .none, .ref 284, .ref 285, .ref 286, .int (560) 0, .int (109) 0, .str "/claim/cut.py" 561]), #[]⟩) ::
(nat_lit 288,⟨.type "function", none,(.func (PySem.W.fnOf "below" "PlainStore.below" (qj (qi (top 16) 16)) (qg (qi (top 16) 16)) (qc (qi (top 16) 16)) (.none) (.none) (.none) (.str "markwords.plain" 351) none (.ref 287) (.none))), #[]⟩) ::
(nat_lit 289,⟨.type "tuple", none,(.seq #[] 0), #[]⟩) ::
(nat_lit 291,⟨.type "tuple", none,(.seq #[.str "self" 566, .str "q" 567, .str "p" 568] 0), #[]⟩) ::
(nat_lit 292,⟨.type "tuple", none,(.seq #[] 0), #[]⟩) ::
(nat_lit 294,⟨.type "code", none,(.fields #[.str "same" 563, .str "PlainStore.same" 564, .str "/claim/cut.py" 565, .int (113) 0, .int (3) 0, .int (0) 0, .int (0) 0, .int (3) 0, .ref 289, .bool true, .int (181) 0, .ref 290, .none, .ref 291, .ref 292, .ref 293, .int (569) 0, .int (113) 0, .str "/claim/cut.py" 570]), #[]⟩) ::
(nat_lit 295,⟨.type "function", none,(.func (PySem.W.fnOf "same" "PlainStore.same" (qj (qi (top 16) 17)) (qg (qi (top 16) 17)) (qc (qi (top 16) 17)) (.none) (.none) (.none) (.str "markwords.plain" 351) none (.ref 294) (.none))), #[]⟩) ::
(nat_lit 296,⟨.type "tuple", none,(.seq #[] 0), #[]⟩) ::
(nat_lit 298,⟨.type "tuple", none,(.seq #[.str "self" 575, .str "q" 576] 0), #[]⟩) ::
(nat_lit 299,⟨.type "tuple", none,(.seq #[] 0), #[]⟩) ::
(nat_lit 301,⟨.type "code", none,(.fields #[.str "kind" 572, .str "PlainStore.kind" 573, .str "/claim/cut.py" 574, .int (116) 0, .int (2) 0, .int (0) 0, .int (0) 0, .int (3) 0, .ref 296, .bool true, .int (181) 0, .ref 297, .none, .ref 298, .ref 299, .ref 300, .int (577) 0, .int (116) 0, .str "/claim/cut.py" 578]), #[]⟩) ::
(nat_lit 302,⟨.type "function", none,(.func (PySem.W.fnOf "kind" "PlainStore.kind" (qj (qi (top 16) 18)) (qg (qi (top 16) 18)) (qc (qi (top 16) 18)) (.none) (.none) (.none) (.str "markwords.plain" 351) none (.ref 301) (.none))), #[]⟩) ::
(nat_lit 303,⟨.type "tuple", none,(.seq #[] 0), #[]⟩) ::
(nat_lit 305,⟨.type "tuple", none,(.seq #[.str "self" 583, .str "q" 584, .str "worth" 585] 0), #[]⟩) ::
(nat_lit 306,⟨.type "tuple", none,(.seq #[] 0), #[]⟩) ::
(nat_lit 308,⟨.type "code", none,(.fields #[.str "told" 580, .str "PlainStore.told" 581, .str "/claim/cut.py" 582, .int (119) 0, .int (2) 0, .int (0) 0, .int (0) 0, .int (3) 0, .ref 303, .bool true, .int (181) 0, .ref 304, .none, .ref 305, .ref 306, .ref 307, .int (586) 0, .int (119) 0, .str "/claim/cut.py" 587]), #[]⟩) ::
(nat_lit 309,⟨.type "function", none,(.func (PySem.W.fnOf "told" "PlainStore.told" (qj (qi (top 16) 19)) (qg (qi (top 16) 19)) (qc (qi (top 16) 19)) (.none) (.none) (.none) (.str "markwords.plain" 351) none (.ref 308) (.none))), #[]⟩) ::
(nat_lit 310,⟨.type "tuple", none,(.seq #[.str "held" 589] 0), #[]⟩) ::
(nat_lit 311,⟨.type "dict", none,(.dict [oE P "__module__" 400 (.str "markwords.plain" 351),oE P "__firstlineno__" 404 (.int (51) 403),oE P "__init__" 411 (.ref 176),oE P "pair_in" 419 (.ref 183),oE P "number" 428 (.ref 190),oE P "sign" 437 (.ref 197),oE P "one" 446 (.ref 204),oE P "copy" 455 (.ref 211),oE P "plus" 465 (.ref 218),oE P "less" 475 (.ref 225),oE P "times" 485 (.ref 232),oE P "over" 495 (.ref 239),oE P "rest" 505 (.ref 246),oE P "pair" 515 (.ref 253),oE P "first" 524 (.ref 260),oE P "second" 533 (.ref 267),oE P "set_first" 543 (.ref 274),oE P "set_second" 553 (.ref 281),oE P "below" 562 (.ref 288),oE P "same" 571 (.ref 295),oE P "kind" 579 (.ref 302),oE P "told" 588 (.ref 309),oE P "__static_attributes__" 590 (.ref 310),oE P "__dict__" 592 (.ref 313),oE P "__weakref__" 594 (.ref 314),oE P "__doc__" 595 (.none)].toArray 4), #[]⟩) ::
(nat_lit 312,⟨.type "type", none,(.cls ({ name := "PlainStore", bases:=[.type "object"],mro:=[.ref 312, .type "object"],ns:=311,qualname := "PlainStore", hasDict:=true,slotNames:=[],subclasses:=[],abstract:=false,collection:=none,hasDel:=false }:ClassData)), #[none,none,(some (.str "PlainStore" 393)),(some (.str "PlainStore" 401)),(some (.builtin "object.__new__")),(some (.bool true))]⟩) ::
(nat_lit 313,⟨.type "getset_descriptor", none,(.fields #[.str "__dict__" 591, .ref 312, .builtin "function.__dict__", .builtin "function.__dict__#set"]), #[]⟩) ::
(nat_lit 314,⟨.type "getset_descriptor", none,(.fields #[.str "__weakref__" 593, .ref 312, .builtin "ExceptionGroup.__weakref__", .none]), #[]⟩) ::
(nat_lit 317,⟨.type "tuple", none,(.seq #[] 0), #[]⟩) ::
(nat_lit 320,⟨.type "code", none,(.fields #[.str "_law_bag" 600, .str "_law_bag" 601, .str "/claim/cut.py" 602, .int (123) 0, .int (1) 0, .int (0) 0, .int (0) 0, .int (3) 0, .ref 317, .bool true, .int (181) 0, .ref 318, .none, .none, .none, .ref 319, .int (603) 0, .int (123) 0, .str "/claim/cut.py" 604]), #[]⟩) ::
(nat_lit 321,⟨.type "function", none,(.func (PySem.W.fnOf "_law_bag" "_law_bag" (qj (top 18)) (qg (top 18)) (qc (top 18)) (.none) (.none) (.none) (.str "law_markwords_k05_refused" 598) none (.ref 320) (.none))), #[]⟩) ::
(nat_lit 322,⟨.type "tuple", none,(.seq #[] 0), #[]⟩) ::
(nat_lit 324,⟨.type "tuple", none,(.seq #[.str "bag" 609, .str "many" 610, .str "found" 611] 0), #[]⟩) ::
(nat_lit 325,⟨.type "tuple", none,(.seq #[] 0), #[]⟩) ::
(nat_lit 327,⟨.type "code", none,(.fields #[.str "_law_draw" 606, .str "_law_draw" 607, .str "/claim/cut.py" 608, .int (128) 0, .int (2) 0, .int (0) 0, .int (0) 0, .int (3) 0, .ref 322, .bool true, .int (181) 0, .ref 323, .none, .ref 324, .ref 325, .ref 326, .int (612) 0, .int (128) 0, .str "/claim/cut.py" 613]), #[]⟩) ::
(nat_lit 328,⟨.type "function", none,(.func (PySem.W.fnOf "_law_draw" "_law_draw" (qj (top 19)) (qg (top 19)) (qc (top 19)) (.none) (.none) (.none) (.str "law_markwords_k05_refused" 598) none (.ref 327) (.none))), #[]⟩) ::
(nat_lit 329,⟨.type "tuple", none,(.seq #[] 0), #[]⟩) ::
(nat_lit 331,⟨.type "tuple", none,(.seq #[.str "word" 618, .str "a" 619, .str "b" 620] 0), #[]⟩) ::
(nat_lit 332,⟨.type "tuple", none,(.seq #[] 0), #[]⟩) ::
(nat_lit 334,⟨.type "code", none,(.fields #[.str "_law_reckoned" 615, .str "_law_reckoned" 616, .str "/claim/cut.py" 617, .int (139) 0, .int (3) 0, .int (0) 0, .int (0) 0, .int (3) 0, .ref 329, .bool true, .int (181) 0, .ref 330, .none, .ref 331, .ref 332, .ref 333, .int (621) 0, .int (139) 0, .str "/claim/cut.py" 622]), #[]⟩) ::
(nat_lit 335,⟨.type "function", none,(.func (PySem.W.fnOf "_law_reckoned" "_law_reckoned" (qj (top 20)) (qg (top 20)) (qc (top 20)) (.none) (.none) (.none) (.str "law_markwords_k05_refused" 598) none (.ref 334) (.none))), #[]⟩) ::
(nat_lit 336,⟨.type "tuple", none,(.seq #[] 0), #[]⟩) ::
(nat_lit 338,⟨.type "tuple", none,(.seq #[.str "store" 627, .str "deed" 628, .str "word" 629] 0), #[]⟩) ::
(nat_lit 339,⟨.type "tuple", none,(.seq #[] 0), #[]⟩) ::
(nat_lit 341,⟨.type "code", none,(.fields #[.str "_law_deed_done" 624, .str "_law_deed_done" 625, .str "/claim/cut.py" 626, .int (147) 0, .int (2) 0, .int (0) 0, .int (0) 0, .int (3) 0, .ref 336, .bool true, .int (181) 0, .ref 337, .none, .ref 338, .ref 339, .ref 340, .int (630) 0, .int (147) 0, .str "/claim/cut.py" 631]), #[]⟩) ::
(nat_lit 342,⟨.type "function", none,(.func (PySem.W.fnOf "_law_deed_done" "_law_deed_done" (qj (top 21)) (qg (top 21)) (qc (top 21)) (.none) (.none) (.none) (.str "law_markwords_k05_refused" 598) none (.ref 341) (.none))), #[]⟩) ::
(nat_lit 343,⟨.type "tuple", none,(.seq #[] 0), #[]⟩) ::
(nat_lit 345,⟨.type "tuple", none,(.seq #[.str "store" 636, .str "deed" 637, .str "word" 638, .str "value" 639, .str "e" 640] 0), #[]⟩) ::
(nat_lit 346,⟨.type "tuple", none,(.seq #[] 0), #[]⟩) ::
(nat_lit 348,⟨.type "code", none,(.fields #[.str "_law_done" 633, .str "_law_done" 634, .str "/claim/cut.py" 635, .int (182) 0, .int (2) 0, .int (0) 0, .int (0) 0, .int (3) 0, .ref 343, .bool true, .int (181) 0, .ref 344, .none, .ref 345, .ref 346, .ref 347, .int (641) 0, .int (182) 0, .str "/claim/cut.py" 642]), #[]⟩) ::
(nat_lit 349,⟨.type "function", none,(.func (PySem.W.fnOf "_law_done" "_law_done" (qj (top 22)) (qg (top 22)) (qc (top 22)) (.none) (.none) (.none) (.str "law_markwords_k05_refused" 598) none (.ref 348) (.none))), #[]⟩) ::
(nat_lit 350,⟨.type "tuple", none,(.seq #[] 0), #[]⟩) ::
(nat_lit 353,⟨.type "code", none,(.fields #[.str "_law_alike" 644, .str "_law_alike" 645, .str "/claim/cut.py" 646, .int (195) 0, .int (2) 0, .int (0) 0, .int (0) 0, .int (3) 0, .ref 350, .bool true, .int (181) 0, .ref 351, .none, .none, .none, .ref 352, .int (647) 0, .int (195) 0, .str "/claim/cut.py" 648]), #[]⟩) ::
(nat_lit 354,⟨.type "function", none,(.func (PySem.W.fnOf "_law_alike" "_law_alike" (qj (top 23)) (qg (top 23)) (qc (top 23)) (.none) (.none) (.none) (.str "law_markwords_k05_refused" 598) none (.ref 353) (.none))), #[]⟩) ::
(nat_lit 355,⟨.type "tuple", none,(.seq #[] 0), #[]⟩) ::
(nat_lit 357,⟨.type "tuple", none,(.seq #[.str "bag" 653, .str "kind" 654, .str "sign" 655] 0), #[]⟩) ::
(nat_lit 358,⟨.type "tuple", none,(.seq #[] 0), #[]⟩) ::
(nat_lit 360,⟨.type "code", none,(.fields #[.str "_law_any_number" 650, .str "_law_any_number" 651, .str "/claim/cut.py" 652, .int (205) 0, .int (1) 0, .int (0) 0, .int (0) 0, .int (3) 0, .ref 355, .bool true, .int (181) 0, .ref 356, .none, .ref 357, .ref 358, .ref 359, .int (656) 0, .int (205) 0, .str "/claim/cut.py" 657]), #[]⟩) ::
(nat_lit 361,⟨.type "function", none,(.func (PySem.W.fnOf "_law_any_number" "_law_any_number" (qj (top 24)) (qg (top 24)) (qc (top 24)) (.none) (.none) (.none) (.str "law_markwords_k05_refused" 598) none (.ref 360) (.none))), #[]⟩) ::
(nat_lit 362,⟨.type "tuple", none,(.seq #[] 0), #[]⟩) ::
(nat_lit 364,⟨.type "tuple", none,(.seq #[.str "worth" 662] 0), #[]⟩) ::
(nat_lit 365,⟨.type "tuple", none,(.seq #[] 0), #[]⟩) ::
(nat_lit 367,⟨.type "code", none,(.fields #[.str "_law_own_kind" 659, .str "_law_own_kind" 660, .str "/claim/cut.py" 661, .int (213) 0, .int (1) 0, .int (0) 0, .int (0) 0, .int (3) 0, .ref 362, .bool true, .int (181) 0, .ref 363, .none, .ref 364, .ref 365, .ref 366, .int (663) 0, .int (213) 0, .str "/claim/cut.py" 664]), #[]⟩) ::
(nat_lit 368,⟨.type "function", none,(.func (PySem.W.fnOf "_law_own_kind" "_law_own_kind" (qj (top 25)) (qg (top 25)) (qc (top 25)) (.none) (.none) (.none) (.str "law_markwords_k05_refused" 598) none (.ref 367) (.none))), #[]⟩) ::
(nat_lit 369,⟨.type "tuple", none,(.seq #[] 0), #[]⟩) ::
(nat_lit 371,⟨.type "tuple", none,(.seq #[.str "own" 669, .str "deed" 670, .str "word" 671, .str "r" 672, .str "q" 673, .str "p" 674, .str "part" 675, .str "at" 676, .str "a" 677, .str "b" 678] 0), #[]⟩) ::
(nat_lit 372,⟨.type "tuple", none,(.seq #[] 0), #[]⟩) ::
(nat_lit 374,⟨.type "code", none,(.fields #[.str "_law_own_numbers" 666, .str "_law_own_numbers" 667, .str "/claim/cut.py" 668, .int (219) 0, .int (2) 0, .int (0) 0, .int (0) 0, .int (3) 0, .ref 369, .bool true, .int (181) 0, .ref 370, .none, .ref 371, .ref 372, .ref 373, .int (679) 0, .int (219) 0, .str "/claim/cut.py" 680]), #[]⟩) ::
(nat_lit 375,⟨.type "function", none,(.func (PySem.W.fnOf "_law_own_numbers" "_law_own_numbers" (qj (top 26)) (qg (top 26)) (qc (top 26)) (.none) (.none) (.none) (.str "law_markwords_k05_refused" 598) none (.ref 374) (.none))), #[]⟩) ::
(nat_lit 376,⟨.type "tuple", none,(.seq #[] 0), #[]⟩) ::
(nat_lit 378,⟨.type "tuple", none,(.seq #[.str "own" 685, .str "deed" 686, .str "word" 687, .str "some" 688, .str "q" 689, .str "thing" 690] 0), #[]⟩) ::
(nat_lit 379,⟨.type "tuple", none,(.seq #[] 0), #[]⟩) ::
(nat_lit 381,⟨.type "code", none,(.fields #[.str "_law_own_do" 682, .str "_law_own_do" 683, .str "/claim/cut.py" 684, .int (229) 0, .int (2) 0, .int (0) 0, .int (0) 0, .int (3) 0, .ref 376, .bool true, .int (181) 0, .ref 377, .none, .ref 378, .ref 379, .ref 380, .int (691) 0, .int (229) 0, .str "/claim/cut.py" 692]), #[]⟩) ::
(nat_lit 382,⟨.type "function", none,(.func (PySem.W.fnOf "_law_own_do" "_law_own_do" (qj (top 27)) (qg (top 27)) (qc (top 27)) (.none) (.none) (.none) (.str "law_markwords_k05_refused" 598) none (.ref 381) (.none))), #[]⟩) ::
(nat_lit 383,⟨.type "tuple", none,(.seq #[] 0), #[]⟩) ::
(nat_lit 385,⟨.type "tuple", none,(.seq #[.str "own" 697, .str "deed" 698, .str "word" 699, .str "one" 700, .str "other" 701] 0), #[]⟩) ::
(nat_lit 386,⟨.type "tuple", none,(.seq #[] 0), #[]⟩) ::
(nat_lit 388,⟨.type "code", none,(.fields #[.str "_law_own_ask" 694, .str "_law_own_ask" 695, .str "/claim/cut.py" 696, .int (253) 0, .int (2) 0, .int (0) 0, .int (0) 0, .int (3) 0, .ref 383, .bool true, .int (181) 0, .ref 384, .none, .ref 385, .ref 386, .ref 387, .int (702) 0, .int (253) 0, .str "/claim/cut.py" 703]), #[]⟩) ::
(nat_lit 389,⟨.type "function", none,(.func (PySem.W.fnOf "_law_own_ask" "_law_own_ask" (qj (top 28)) (qg (top 28)) (qc (top 28)) (.none) (.none) (.none) (.str "law_markwords_k05_refused" 598) none (.ref 388) (.none))), #[]⟩) ::
(nat_lit 390,⟨.type "tuple", none,(.seq #[] 0), #[]⟩) ::
(nat_lit 392,⟨.type "tuple", none,(.seq #[.str "store" 708, .str "own" 709, .str "deed" 710] 0), #[]⟩) ::
(nat_lit 393,⟨.type "tuple", none,(.seq #[] 0), #[]⟩) ::
(nat_lit 395,⟨.type "code", none,(.fields #[.str "_law_both" 705, .str "_law_both" 706, .str "/claim/cut.py" 707, .int (266) 0, .int (3) 0, .int (0) 0, .int (0) 0, .int (3) 0, .ref 390, .bool true, .int (181) 0, .ref 391, .none, .ref 392, .ref 393, .ref 394, .int (711) 0, .int (266) 0, .str "/claim/cut.py" 712]), #[]⟩) ::
(nat_lit 396,⟨.type "function", none,(.func (PySem.W.fnOf "_law_both" "_law_both" (qj (top 29)) (qg (top 29)) (qc (top 29)) (.none) (.none) (.none) (.str "law_markwords_k05_refused" 598) none (.ref 395) (.none))), #[]⟩) ::
(nat_lit 397,⟨.type "tuple", none,(.seq #[] 0), #[]⟩) ::
(nat_lit 399,⟨.type "tuple", none,(.seq #[.str "store" 717, .str "own" 718, .str "turn" 719, .str "q" 720, .str "deed" 721] 0), #[]⟩) ::
(nat_lit 400,⟨.type "tuple", none,(.seq #[] 0), #[]⟩) ::
(nat_lit 402,⟨.type "code", none,(.fields #[.str "_law_all_same" 714, .str "_law_all_same" 715, .str "/claim/cut.py" 716, .int (270) 0, .int (3) 0, .int (0) 0, .int (0) 0, .int (3) 0, .ref 397, .bool true, .int (181) 0, .ref 398, .none, .ref 399, .ref 400, .ref 401, .int (722) 0, .int (270) 0, .str "/claim/cut.py" 723]), #[]⟩) ::
(nat_lit 403,⟨.type "function", none,(.func (PySem.W.fnOf "_law_all_same" "_law_all_same" (qj (top 30)) (qg (top 30)) (qc (top 30)) (.none) (.none) (.none) (.str "law_markwords_k05_refused" 598) none (.ref 402) (.none))), #[]⟩) ::
(nat_lit 404,⟨.type "tuple", none,(.seq #[] 0), #[]⟩) ::
(nat_lit 406,⟨.type "tuple", none,(.seq #[.str "store" 728, .str "deed" 729, .str "word" 730, .str "part" 731, .str "told" 732, .str "found" 733, .str "e" 734] 0), #[]⟩) ::
(nat_lit 407,⟨.type "tuple", none,(.seq #[] 0), #[]⟩) ::
(nat_lit 409,⟨.type "code", none,(.fields #[.str "_law_class_right" 725, .str "_law_class_right" 726, .str "/claim/cut.py" 727, .int (276) 0, .int (4) 0, .int (0) 0, .int (0) 0, .int (3) 0, .ref 404, .bool true, .int (181) 0, .ref 405, .none, .ref 406, .ref 407, .ref 408, .int (735) 0, .int (276) 0, .str "/claim/cut.py" 736]), #[]⟩) ::
(nat_lit 410,⟨.type "function", none,(.func (PySem.W.fnOf "_law_class_right" "_law_class_right" (qj (top 31)) (qg (top 31)) (qc (top 31)) (.none) (.none) (.none) (.str "law_markwords_k05_refused" 598) none (.ref 409) (.none))), #[]⟩) ::
(nat_lit 411,⟨.type "tuple", none,(.seq #[] 0), #[]⟩) ::
(nat_lit 413,⟨.type "tuple", none,(.seq #[.str "bag" 741, .str "store" 742, .str "own" 743, .str "r" 744, .str "kind" 745, .str "some" 746] 0), #[]⟩) ::
(nat_lit 414,⟨.type "tuple", none,(.seq #[] 0), #[]⟩) ::
(nat_lit 416,⟨.type "code", none,(.fields #[.str "_law_filled" 738, .str "_law_filled" 739, .str "/claim/cut.py" 740, .int (291) 0, .int (3) 0, .int (0) 0, .int (0) 0, .int (3) 0, .ref 411, .bool true, .int (181) 0, .ref 412, .none, .ref 413, .ref 414, .ref 415, .int (747) 0, .int (291) 0, .str "/claim/cut.py" 748]), #[]⟩) ::
(nat_lit 417,⟨.type "function", none,(.func (PySem.W.fnOf "_law_filled" "_law_filled" (qj (top 32)) (qg (top 32)) (qc (top 32)) (.none) (.none) (.none) (.str "law_markwords_k05_refused" 598) none (.ref 416) (.none))), #[]⟩) ::
(nat_lit 418,⟨.type "tuple", none,(.seq #[] 0), #[]⟩) ::
(nat_lit 421,⟨.type "code", none,(.fields #[.str "law" 750, .str "law" 751, .str "/claim/cut.py" 752, .int (299) 0, .int (1) 0, .int (0) 0, .int (0) 0, .int (3) 0, .ref 418, .bool true, .int (181) 0, .ref 419, .none, .none, .none, .ref 420, .int (753) 0, .int (299) 0, .str "/claim/cut.py" 754]), #[]⟩) ::
(nat_lit 422,⟨.type "function", none,(.func (PySem.W.fnOf "law" "law" (qj (top 33)) (qg (top 33)) (qc (top 33)) (.none) (.none) (.none) (.str "law_markwords_k05_refused" 598) none (.ref 421) (.none))), #[]⟩) ::
[]
def KA:List Addr:=[2,3,15,22,23,24,25,28,35,37,38,40,41,42,43,44,47,54,55,56,59,66,67,68,71,78,80,81,83,84,85,86,87,90,97,98,99,102,109,110,111,114,116,117,119,120,121,123,124,126,127,128,130,131,133,134,142,144,145,147,148,149,150,151,152,153,156,158,159,161,162,170,172,173,175,176,177,179,180,182,183,184,186,187,189,190,191,193,194,196,197,198,200,201,203,204,205,207,208,210,211,212,214,215,217,218,219,221,222,224,225,226,228,229,231,232,233,235,236,238,239,240,242,243,245,246,247,249,250,252,253,254,256,257,259,260,261,263,264,266,267,268,270,271,273,274,275,277,278,280,281,282,284,285,287,288,289,291,292,294,295,296,298,299,301,302,303,305,306,308,309,310,311,312,313,314,317,320,321,322,324,325,327,328,329,331,332,334,335,336,338,339,341,342,343,345,346,348,349,350,353,354,355,357,358,360,361,362,364,365,367,368,369,371,372,374,375,376,378,379,381,382,383,385,386,388,389,390,392,393,395,396,397,399,400,402,403,404,406,407,409,410,411,413,414,416,417,418,421,422]
theorem K_as:∀ P,KA = (K P).map (·.1):=fun _ => by kernel_rfl
noncomputable def vw:Program:=PySem.W.view PySem.Challenge.pw_markwords_k05_refused [1,2,3,4,5,6,7,9,10,11,13,14,15,16,18,19,20,21,22,23,24,25,26,27,28,29,30,31,32,33]
def ls:List Str:=[]
def lv:List (Str × WData):=[]
noncomputable def Xt (s:Shared):Bool:=xlAt vw lv s && recOk (RowW.records (OpenRow.toRowW (OpenLaw.row PySem.Challenge.rw_markwords_k05_refused))) s
noncomputable def Lf (w:World) (os:OsState):=(Hd.topT treeTable PySem.Challenge.pw_markwords_k05_refused w 11 (some (.ref 6)) 6678 (Hd.S0 w os) (topStub PySem.Challenge.pw_markwords_k05_refused)).map (fun s => Hd.Look PySem.Challenge.pw_markwords_k05_refused vw ls Xt (kHook K KA K_as).obs w s.abs)
noncomputable def Rt (w:World) (_:OsState):=some (true,openGood vw ls,(kHook K KA K_as).val w)
theorem Lf_is:Lf = Lf:=rfl
theorem Rt_is:Rt = Rt:=rfl
name_quick MwLq for Lf by Lf_is
name_quick MwRq for Rt by Rt_is
theorem run (w:World):(fun os => Lf (w) os) = fun os => Rt (w) os :=
 (congrFun PySem.W.Fast.MwLq_eq (w)).trans (Eq.trans (by kernel_rfl:PySem.W.Fast.MwLq (w) = PySem.W.Fast.MwRq (w)) (congrFun PySem.W.Fast.MwRq_eq (w)).symm)
theorem hLf9:LeftO PySem.Challenge.pw_markwords_k05_refused vw ls Xt (kHook K KA K_as).obs (kHook K KA K_as).val 6678 :=
 Hd.left_of (M:=6678) (by kernel_rfl) (by decide) (fun _ => by kernel_rfl) (by decide) (fun w os => congrFun (run w) os) Hd.boot_main
end Mw
open PySem PySem.W PyProof.Rows
set_option maxRecDepth 100000 in
set_option maxHeartbeats 0 in
theorem PySem.Challenge.cw_markwords_k05_refused_holds : PySem.Challenge.rw_markwords_k05_refused.Holds := by
 w_on; o_law
 refine Hd.close (q:=Mw.vw) (loose:=Mw.ls) (lv:=Mw.lv) (H:=kHook Mw.K Mw.KA Mw.K_as) (N:=6678) Mw.hLf9 (by rfl) (by rfl) (by rfl) (by rfl) (by assumption) (by decide +kernel) ⟨rfl,rfl,rfl,rfl,rfl,by decide +kernel⟩ ?hw ?hc
 case hw => w_witness2
 k_fill
 refine Mw.walk (l:=PySem.Challenge.rw_markwords_k05_refused) rfl rfl (fun w h Y => PySem.W.kIn_of Y) ?F
 case F =>
  intro w mg fa h KX G hmg
  refine' Mw.all_mk KX G hmg ?ca1 ?cb1 ?cc1 ?cd1 ?ce1 ?cf1 ?cg1 ?ch1_1 ?ca2 ?cb2 ?cc2 ?cd2 ?ce2 ?cf2 ?cg2 ?ch2_1 ?ch2_2 ?xaNought ?xaNoRoom ?xaFaulty ?xaNoText ?xaNotFormed ?xoNought ?xaWk ?xaWordError ?EWk_Wk ?ENought_Wk ?ENought_Nought ?a1 ?l1 ?c1 ?k1 ?a2 ?l2 ?c2 ?k2 ?a3 ?l3 ?c3 ?k3 ?a4 ?l4 ?c4 ?k4 ?a5 ?l5 ?c5 ?k5 ?a6 ?n6 ?l6 ?c6 ?k6 ?a7 ?n7 ?l7 ?c7 ?k7 ?a8 ?n8 ?l8 ?c8 ?k8 ?a9 ?n9 ?l9 ?c9 ?k9 ?a10 ?n10 ?l10 ?c10 ?k10 ?a11 ?n11 ?l11 ?c11 ?k11 ?a12 ?n12 ?l12 ?c12 ?k12 ?a13 ?n13 ?l13 ?c13 ?k13 ?a14 ?n14 ?l14 ?c14 ?k14 ?a15 ?n15 ?l15 ?c15 ?k15 ?a16 ?l16 ?c16 ?k16 ?a17 ?l17 ?c17 ?k17 ?a18 ?l18 ?c18 ?k18 ?a19 ?n19 ?l19 ?c19 ?k19 ?a20 ?n20 ?l20 ?c20 ?k20 ?a21 ?n21 ?l21 ?c21 ?k21 ?a22 ?n22 ?l22 ?c22 ?k22 ?a23 ?n23 ?l23 ?c23 ?k23 ?a24 ?n24 ?l24 ?c24 ?k24 ?a25 ?n25 ?l25 ?c25 ?k25 ?a26 ?n26 ?l26 ?c26 ?k26 ?a27 ?n27 ?l27 ?c27 ?k27 ?a28 ?n28 ?l28 ?c28 ?k28 ?a29 ?n29 ?l29 ?c29 ?k29 ?a30 ?l30 ?c30 ?k30 ?a31 ?l31 ?c31 ?k31 ?a32 ?l32 ?c32 ?k32 ?a33 ?l33 ?c33 ?k33 ?a34 ?l34 ?c34 ?k34 ?a35 ?l35 ?c35 ?k35 ?a36 ?l36 ?c36 ?k36 ?a37 ?l37 ?c37 ?k37 ?a38 ?l38 ?c38 ?k38 ?a39 ?l39 ?c39 ?k39 ?a40 ?l40 ?c40 ?k40 ?a41 ?l41 ?c41 ?k41 ?a42 ?l42 ?c42 ?k42 ?xk1Wk ?xk2Wk ?xk3Wk ?xk4Wk ?xk5Wk ?xk6Wk ?xk7Wk ?xk8Wk ?xb1WordError ?xb2WordError ?xb3WordError ?xt1Pair ?xt2Pair ?xt3Pair ?xt4Pair ?xtnPair ?xt5Pair ?xt1Wk ?xt2Wk ?xt3Wk ?xt4Wk ?xt5Wk ?xt6Wk ?xt7Wk ?xt8Wk ?xt1Nought ?xt2Nought ?xt3Nought ?xt4Nought ?xt5Nought ?xt6Nought ?xt7Nought ?xt8Nought ?IWk_ValueError ?IWk_WordError ?IWk_Nought ?IWk_NoRoom_Faulty_NoText_NotFormed ?INought_ValueError ?INought_WordError ?INought_Wk ?INought_NoRoom_Faulty_NoText_NotFormed ?KXWk ?ynNVE ?z1 ?z2 ?z3 ?z4 ?z5 ?z6 ?z7 ?z8 ?z9 ?z10 ?z11 ?z12 ?z13 ?z14 ?z15 ?z16 ?z17 ?z18 ?g1
  (case ca1 => k_is)
  (case cb1 => k_is)
  (case cc1 => k_is)
  (case cd1 => k_is)
  (case ce1 => k_is)
  (case cf1 => k_is)
  (case cg1 => k_is)
  (case ch1_1 => k_is)
  (case ca2 => k_is)
  (case cb2 => k_is)
  (case cc2 => k_is)
  (case cd2 => k_is)
  (case ce2 => k_is)
  (case cf2 => k_is)
  (case cg2 => k_is)
  (case ch2_1 => k_is)
  (case ch2_2 => k_is)
  (case xaNought => k_is)
  (case xaNoRoom => k_is)
  (case xaFaulty => k_is)
  (case xaNoText => k_is)
  (case xaNotFormed => k_is)
  (case xoNought => kernel_rfl)
  (case xaWk => k_is)
  (case xaWordError => k_is)
  (case EWk_Wk => kernel_rfl)
  (case ENought_Wk => kernel_rfl)
  (case ENought_Nought => kernel_rfl)
  (case a1 => k_is)
  (case l1 => k_is)
  (case c1 => k_is)
  (case k1 => k_is)
  (case a2 => k_is)
  (case l2 => k_is)
  (case c2 => k_is)
  (case k2 => k_is)
  (case a3 => k_is)
  (case l3 => k_is)
  (case c3 => k_is)
  (case k3 => k_is)
  (case a4 => k_is)
  (case l4 => k_is)
  (case c4 => k_is)
  (case k4 => k_is)
  (case a5 => k_is)
  (case l5 => k_is)
  (case c5 => k_is)
  (case k5 => k_is)
  (case a6 => k_is)
  (case n6 => k_is)
  (case l6 => k_is)
  (case c6 => k_is)
  (case k6 => k_is)
  (case a7 => k_is)
  (case n7 => k_is)
  (case l7 => k_is)
  (case c7 => k_is)
  (case k7 => k_is)
  (case a8 => k_is)
  (case n8 => k_is)
  (case l8 => k_is)
  (case c8 => k_is)
  (case k8 => k_is)
  (case a9 => k_is)
  (case n9 => k_is)
  (case l9 => k_is)
  (case c9 => k_is)
  (case k9 => k_is)
  (case a10 => k_is)
  (case n10 => k_is)
  (case l10 => k_is)
  (case c10 => k_is)
  (case k10 => k_is)
  (case a11 => k_is)
  (case n11 => k_is)
  (case l11 => k_is)
  (case c11 => k_is)
  (case k11 => k_is)
  (case a12 => k_is)
  (case n12 => k_is)
  (case l12 => k_is)
  (case c12 => k_is)
  (case k12 => k_is)
  (case a13 => k_is)
  (case n13 => k_is)
  (case l13 => k_is)
  (case c13 => k_is)
  (case k13 => k_is)
  (case a14 => k_is)
  (case n14 => k_is)
  (case l14 => k_is)
  (case c14 => k_is)
  (case k14 => k_is)
  (case a15 => k_is)
  (case n15 => k_is)
  (case l15 => k_is)
  (case c15 => k_is)
  (case k15 => k_is)
  (case a16 => k_is)
  (case l16 => k_is)
  (case c16 => k_is)
  (case k16 => k_is)
  (case a17 => k_is)
  (case l17 => k_is)
  (case c17 => k_is)
  (case k17 => k_is)
  (case a18 => k_is)
  (case l18 => k_is)
  (case c18 => k_is)
  (case k18 => k_is)
  (case a19 => k_is)
  (case n19 => k_is)
  (case l19 => k_is)
  (case c19 => k_is)
  (case k19 => k_is)
  (case a20 => k_is)
  (case n20 => k_is)
  (case l20 => k_is)
  (case c20 => k_is)
  (case k20 => k_is)
  (case a21 => k_is)
  (case n21 => k_is)
  (case l21 => k_is)
  (case c21 => k_is)
  (case k21 => k_is)
  (case a22 => k_is)
  (case n22 => k_is)
  (case l22 => k_is)
  (case c22 => k_is)
  (case k22 => k_is)
  (case a23 => k_is)
  (case n23 => k_is)
  (case l23 => k_is)
  (case c23 => k_is)
  (case k23 => k_is)
  (case a24 => k_is)
  (case n24 => k_is)
  (case l24 => k_is)
  (case c24 => k_is)
  (case k24 => k_is)
  (case a25 => k_is)
  (case n25 => k_is)
  (case l25 => k_is)
  (case c25 => k_is)
  (case k25 => k_is)
  (case a26 => k_is)
  (case n26 => k_is)
  (case l26 => k_is)
  (case c26 => k_is)
  (case k26 => k_is)
  (case a27 => k_is)
  (case n27 => k_is)
  (case l27 => k_is)
  (case c27 => k_is)
  (case k27 => k_is)
  (case a28 => k_is)
  (case n28 => k_is)
  (case l28 => k_is)
  (case c28 => k_is)
  (case k28 => k_is)
  (case a29 => k_is)
  (case n29 => k_is)
  (case l29 => k_is)
  (case c29 => k_is)
  (case k29 => k_is)
  (case a30 => k_is)
  (case l30 => k_is)
  (case c30 => k_is)
  (case k30 => k_is)
  (case a31 => k_is)
  (case l31 => k_is)
  (case c31 => k_is)
  (case k31 => k_is)
  (case a32 => k_is)
  (case l32 => k_is)
  (case c32 => k_is)
  (case k32 => k_is)
  (case a33 => k_is)
  (case l33 => k_is)
  (case c33 => k_is)
  (case k33 => k_is)
  (case a34 => k_is)
  (case l34 => k_is)
  (case c34 => k_is)
  (case k34 => k_is)
  (case a35 => k_is)
  (case l35 => k_is)
  (case c35 => k_is)
  (case k35 => k_is)
  (case a36 => k_is)
  (case l36 => k_is)
  (case c36 => k_is)
  (case k36 => k_is)
  (case a37 => k_is)
  (case l37 => k_is)
  (case c37 => k_is)
  (case k37 => k_is)
  (case a38 => k_is)
  (case l38 => k_is)
  (case c38 => k_is)
  (case k38 => k_is)
  (case a39 => k_is)
  (case l39 => k_is)
  (case c39 => k_is)
  (case k39 => k_is)
  (case a40 => k_is)
  (case l40 => k_is)
  (case c40 => k_is)
  (case k40 => k_is)
  (case a41 => k_is)
  (case l41 => k_is)
  (case c41 => k_is)
  (case k41 => k_is)
  (case a42 => k_is)
  (case l42 => k_is)
  (case c42 => k_is)
  (case k42 => k_is)
  (case xk1Wk => kernel_rfl)
  (case xk2Wk => kernel_rfl)
  (case xk3Wk => kernel_rfl)
  (case xk4Wk => kernel_rfl)
  (case xk5Wk => kernel_rfl)
  (case xk6Wk => kernel_rfl)
  (case xk7Wk => kernel_rfl)
  (case xk8Wk => kernel_rfl)
  (case xb1WordError => kernel_rfl)
  (case xb2WordError => kernel_rfl)
  (case xb3WordError => kernel_rfl)
  (case xt1Pair => kernel_rfl)
  (case xt2Pair => kernel_rfl)
  (case xt3Pair => kernel_rfl)
  (case xt4Pair => kernel_rfl)
  (case xtnPair => intro c; cases c <;> kernel_rfl)
  (case xt5Pair => kernel_rfl)
  (case xt1Wk => kernel_rfl)
  (case xt2Wk => kernel_rfl)
  (case xt3Wk => kernel_rfl)
  (case xt4Wk => kernel_rfl)
  (case xt5Wk => kernel_rfl)
  (case xt6Wk => kernel_rfl)
  (case xt7Wk => kernel_rfl)
  (case xt8Wk => kernel_rfl)
  (case xt1Nought => kernel_rfl)
  (case xt2Nought => kernel_rfl)
  (case xt3Nought => kernel_rfl)
  (case xt4Nought => kernel_rfl)
  (case xt5Nought => kernel_rfl)
  (case xt6Nought => kernel_rfl)
  (case xt7Nought => kernel_rfl)
  (case xt8Nought => kernel_rfl)
  (case IWk_ValueError => kernel_rfl)
  (case IWk_WordError => kernel_rfl)
  (case IWk_Nought => kernel_rfl)
  (case IWk_NoRoom_Faulty_NoText_NotFormed => kernel_rfl)
  (case INought_ValueError => kernel_rfl)
  (case INought_WordError => kernel_rfl)
  (case INought_Wk => kernel_rfl)
  (case INought_NoRoom_Faulty_NoText_NotFormed => kernel_rfl)
  (case KXWk => kernel_rfl)
  (case ynNVE => k_is)
  (case z1 => k_is)
  (case z2 => k_is)
  (case z3 => k_is)
  (case z4 => k_is)
  (case z5 => k_is)
  (case z6 => k_is)
  (case z7 => k_is)
  (case z8 => k_is)
  (case z9 => k_is)
  (case z10 => k_is)
  (case z11 => k_is)
  (case z12 => k_is)
  (case z13 => k_is)
  (case z14 => k_is)
  (case z15 => k_is)
  (case z16 => k_is)
  (case z17 => k_is)
  (case z18 => k_is)
  (case g1 => k_is)
