import PyProof.Rows.All
import Wide.All
import OpenK.AllK
import Wide.FinOn
import Lean
import PyProof.EqAt
import PyProof.EqKinds
import PyProof.TupleCall
import PyProof.NeKinds
import PyProof.RulesTry
import PyProof.ExcArgsOwn
import PyProof.InstStoreFacts
import PyProof.ExcInit
import PyProof.ExcClass3
import KE.KTryMore
import PyProof.NsDelKeeps
import PyProof.RulesAs
import PyProof.InstEq
import PyProof.Rows.EqMixed
import PyProof.FactsAll.tuple_1
import PySem.Challenge.RW_markwords_k33_worths_in_registers
set_option Elab.async false
set_option linter.all false
set_option maxRecDepth 100000
namespace L2
open PySem PySem.Spec PyProof.Rows
abbrev Key:=Sum Int Str
def XN:Key→Value→Bool
 | .inl k,v => Value.isInt k v
 | .inr x,v => Value.isStrOf x v
def keyH (w:World):Key→Int
 | .inl k => hashInt k
 | .inr x => hashStr w x
theorem vj:∀ {k:Key} {v:Value},XN k v = true→(∃ i t,k = Sum.inl i∧v = Value.int i t)∨(∃ x t,k = Sum.inr x∧v = Value.str x t)
 | .inl i,v,h => by
  obtain ⟨t,e⟩:=Value.isInt_shape (k:=i) (v:=v) h
  exact .inl ⟨i,t,rfl,e⟩
 | .inr x,v,h => by
  obtain ⟨t,e⟩:=Value.isStrOf_shape (x:=x) (v:=v) h
  exact .inr ⟨x,t,rfl,e⟩
theorem KD (i:Int) (t:Tok):XN (.inl i) (.int i t) = true:=by simp [XN,Value.isInt]
theorem KC (x:Str) (t:Tok):XN (.inr x) (.str x t) = true:=by simp [XN,Value.isStrOf]
theorem key_ll (a b:Int):decide ((Sum.inl a:Key) = Sum.inl b) = (a == b):=by
 by_cases e:a = b
 ·subst e; simp
 ·have h:¬ (Sum.inl a:Key) = Sum.inl b:=fun q => e (Sum.inl.inj q)
  rw [decide_eq_false h]
  exact (beq_eq_false_iff_ne.mpr e).symm
theorem key_rr (a b:Str):decide ((Sum.inr a:Key) = Sum.inr b) = decide (a = b):=by
 by_cases e:a = b
 ·subst e; simp
 ·have h:¬ (Sum.inr a:Key) = Sum.inr b:=fun q => e (Sum.inr.inj q)
  rw [decide_eq_false h,decide_eq_false e]
theorem key_lr (a:Int) (b:Str):decide ((Sum.inl a:Key) = Sum.inr b) = false:=decide_eq_false (fun q => nomatch q)
theorem key_rl (a:Str) (b:Int):decide ((Sum.inr a:Key) = Sum.inl b) = false:=decide_eq_false (fun q => nomatch q)
def vp (prog:Program) (w:World):PySem.KeyKind prog w Key where
 is:=XN
 hash:=keyH w
 inj:=fun v a b ha hb => by
  rcases vj ha with ⟨i,t,rfl,rfl⟩ | ⟨x,t,rfl,rfl⟩
  ·rcases vj hb with ⟨j,u,rfl,e⟩ | ⟨y,u,rfl,e⟩
   ·injection e with e1 _; rw [e1]
   ·exact nomatch e
  ·rcases vj hb with ⟨j,u,rfl,e⟩ | ⟨y,u,rfl,e⟩
   ·exact nomatch e
   ·injection e with e1 _; rw [e1]
 byValue:=fun k v h => by
  rcases vj h with ⟨i,t,rfl,rfl⟩ | ⟨x,t,rfl,rfl⟩ <;> rfl
 pyHash:=fun hv h => by
  rcases vj hv with ⟨i,t,rfl,rfl⟩ | ⟨x,t,rfl,rfl⟩
  ·exact wpAny_pyHash_int h
  ·exact wpAny_pyHash_str h
 eqBool:=fun hu hv h => by
  rcases vj hu with ⟨i,t,rfl,rfl⟩ | ⟨x,t,rfl,rfl⟩
  ·rcases vj hv with ⟨j,u,rfl,rfl⟩ | ⟨y,u,rfl,rfl⟩
   ·rw [key_ll] at h; exact wpAny_eqBool_int h
   ·rw [key_lr] at h; exact SeqAt.EqAt.int_str i t y u _ _ _ _ h
  ·rcases vj hv with ⟨j,u,rfl,rfl⟩ | ⟨y,u,rfl,rfl⟩
   ·rw [key_rl] at h; exact SeqAt.EqAt.str_int x t j u _ _ _ _ h
   ·rw [key_rr] at h; exact wpAny_eqBool_str h
 «strs»:=fun k x t v h => by
  rcases vj h with ⟨i,u,rfl,e⟩ | ⟨y,u,rfl,e⟩
  ·exact nomatch e
  ·injection e with e1 _
   subst e1
   cases v <;> rfl
theorem VT (prog:Program) (w:World) (i:Int) (t:Tok):(vp prog w).is (.inl i) (.int i t) = true:=KD i t
theorem xO (prog:Program) (w:World) (x:Str) (t:Tok):(vp prog w).is (.inr x) (.str x t) = true:=KC x t
inductive V where
 | non | bl (b:Bool) | int (i:Int) | str (x:Str) | byt (b:Array UInt8) | flt (b:UInt64) | ref (a:Addr) | ty (n:String)
 deriving DecidableEq
def RelV:V→Value→Prop
 | .non,u => u = Value.none
 | .bl b,u => u = Value.bool b
 | .int i,u => ∃ t,u = Value.int i t
 | .str x,u => ∃ t,u = Value.str x t
 | .byt b,u => ∃ t,u = Value.bytes b t
 | .flt b,u => ∃ t,u = Value.float b t
 | .ref a,u => u = Value.ref a
 | .ty n,u => u = Value.type n
abbrev Vals:List V→List Value→Prop:=Paired RelV
theorem Vals.length {xs:List V} {us:List Value} (r:Vals xs us):xs.length = us.length:=Paired.length r
theorem Vals.get:∀ {xs:List V} {us:List Value} {i:Nat} {x:V},Vals xs us→xs[i]? = some x→∃ u,us[i]? = some u∧RelV x u
 | _,_,_,_, .nil,e => by simp at e
 | _,_,0,_, .cons r _,e => by simp at e; subst e; exact ⟨_,rfl,r⟩
 | _,_,i + 1,x, .cons _ t,e => by
  obtain ⟨u,h1,h2⟩:=Vals.get (i:=i) (x:=x) t (by simpa using e)
  exact ⟨u,by simpa using h1,h2⟩
theorem Vals.set {x:V} {u:Value} (r:RelV x u):∀ {xs:List V} {us:List Value} (i:Nat),Vals xs us→Vals (xs.set i x) (us.set i u)
 | _,_,_, .nil => .nil
 | _,_,0, .cons _ t => .cons r t
 | _,_,i + 1, .cons q t => .cons q (Vals.set r i t)
theorem Vals.append:∀ {xs ys:List V} {us ws:List Value},Vals xs us→Vals ys ws→Vals (xs ++ ys) (us ++ ws)
 | _,_,_,_, .nil,s => s
 | _,_,_,_, .cons r t,s => .cons r (Vals.append t s)
theorem Vals.take:∀ {xs:List V} {us:List Value} (n:Nat),Vals xs us→Vals (xs.take n) (us.take n)
 | _,_,0,_ => .nil
 | _,_,_ + 1, .nil => .nil
 | _,_,n + 1, .cons r t => .cons r (Vals.take n t)
theorem Vals.drop:∀ {xs:List V} {us:List Value} (n:Nat),Vals xs us→Vals (xs.drop n) (us.drop n)
 | _,_,0,r => r
 | _,_,_ + 1, .nil => .nil
 | _,_,n + 1, .cons _ t => Vals.drop n t
def RelO:Option V→Option Value→Prop
 | some v,some u => RelV v u
 | none,none => True
 | _,_ => False
def KV {κ:Type}:List (κ × V)→List (κ × Value)→Prop:=Paired fun (p:κ × V) (q:κ × Value) => p.1 = q.1∧RelV p.2 q.2
def kV:Key→V
 | .inl i => .int i
 | .inr x => .str x
inductive HO where
  | lst (xs:List V)
  | tup (xs:List V)
  | dK (kvs:List (Key × V)) | dT (kvs:List (List Key × V))
  | set (S:Int→Bool) (n:Nat)
  | ins (C dx:Addr) (fs:List (Str × V))
  | own (x:Addr)
  | xd (fs:List (Str × V))
  | met (f x:Addr)
  | rng (lo hi:Int)
  | frz (o:Obj) (u:HO)
  | tbl (ps:Array Value)
  | ext (φ:Heap→Prop)
abbrev Hp:=Addr→Option HO
def upd (H:Hp) (a:Addr) (o:HO):Hp:=fun b => if b = a then some o else H b
theorem upd_same {H:Hp} {a:Addr} {o:HO}:upd H a o a = some o:=by unfold upd; rw [if_pos rfl]
theorem upd_ne {H:Hp} {a b:Addr} {o:HO} (h:b≠a):upd H a o b = H b:=by unfold upd; rw [if_neg h]
theorem qO {H:Hp} {a b:Addr} {o:HO} (h:H a = some o) (h':H b = none):a≠b:=by
 intro e; subst e; rw [h] at h'; cases h'
section
variable (P:Program) (w:World)
def ObjOk (H:Hp) (h:Heap) (a:Addr):HO→Prop
 | .lst xs => xs.length≤sizeLine∧∃ (its:List Value) (n:Nat),Vals xs its∧h.get? a = some { cls:=.type "list", data:=.seq its.toArray n }
 | .tup xs => xs.length≤sizeLine∧∃ its:List Value,Vals xs its∧IsTup h a its.toArray
 | .dK kvs => kvs.length≤sizeLine∧(a == sysModules) = false∧∃ vs,KV kvs vs∧h.DictOf (vp P w) a vs
 | .dT kvs => kvs.length≤sizeLine∧(a == sysModules) = false∧∃ xs:List (List Key × Addr × Value),
   Paired (fun (p:List Key × V) (q:List Key × Addr × Value) => p.1 = q.1∧H q.2.1 = some (.tup (p.1.map kV))∧RelV p.2 q.2.2) kvs xs ∧
   ∃ o es ep,h.get? a = some o∧o.ExactDict∧o.data = .dict es ep∧es.toList = xs.map (entryOfKey (tupleKind (vp P w)))∧(xs.map (·.1)).Nodup
 | .set S n => h.SetOf (intKind P w) a S n
 | .ins C dx fs => H dx = some (.own a)∧fs.length≤1000∧dx≠a∧h.get? a = some (PySem.W.instObj C dx) ∧
   ∃ mA,h.Ns1 dx mA∧(∀ f,RelO (fs.lookup f) (mA f))∧PySem.Within mA (fs.map (·.1))
 | .own _ => ∃ o,h.get? a = some o
 | .xd fs => ∃ mA,h.Ns1 a mA∧∀ f,RelO (fs.lookup f) (mA f)
 | .rng lo hi => ∃ t u v,h.get? a = some { cls:=.type "range", data:=.fields #[.int lo t, .int hi u, .int 1 v] }
 | .frz o u => h.get? a = some o∧ObjOk H h a u
 | .tbl ps => h.get? a = some { cls:=.none,data:=.fields ps }
 | .met f x => h.get? a = some (PySem.W.methodObj (.ref f) (.ref x))
 | .ext φ => φ h∧(∃ o,h.get? a = some o)∧∀ h1 h2:Heap,φ h1→(∀ o,h1.get? a = some o→h2.get? a = some o)→φ h2
def HOk (H:Hp) (h:Heap):Prop:=∀ a o,H a = some o→ObjOk P w H h a o
end
section
variable {P:Program} {w:World} {H H':Hp} {h h':Heap} {a:Addr} {o:HO}
theorem ObjOk.lt (x:ObjOk P w H h a o):a < h.objs.size:=by
 cases o with
 | lst xs => obtain ⟨_,_,_,_,e⟩:=x; exact Heap.lt_size e
 | tup xs => obtain ⟨_,_,_,p⟩:=x; exact p.lt
 | dK kvs => obtain ⟨_,_,_,_,o,_,_,e,_⟩:=x; exact Heap.lt_size e
 | dT kvs => obtain ⟨_,_,_,_,o,_,_,e,_⟩:=x; exact Heap.lt_size e
 | set S n => obtain ⟨o,_,_,_,e,_⟩:=x; exact Heap.lt_size e
 | ins C dx fs => obtain ⟨_,_,_,e,_⟩:=x; exact Heap.lt_size e
 | own y => obtain ⟨_,e⟩:=x; exact Heap.lt_size e
 | xd fs => obtain ⟨_,⟨_,_,_,e,_⟩,_⟩:=x; exact Heap.lt_size e
 | rng lo hi => obtain ⟨_,_,_,e⟩:=x; exact Heap.lt_size e
 | frz ob u => obtain ⟨e,_⟩:=x; exact Heap.lt_size e
 | tbl ps => exact Heap.lt_size (show h.get? a = some _ from x)
 | met f y => exact Heap.lt_size (show h.get? a = some _ from x)
 | ext φ => obtain ⟨_,⟨_,e⟩,_⟩:=x; exact Heap.lt_size e
theorem Paired.mapP {α β:Type} {F G:α→β→Prop}:∀ {l₁:List α} {l₂:List β},Paired F l₁ l₂→(∀ a b,F a b→G a b)→Paired G l₁ l₂
 | _,_, .nil,_ => .nil
 | _,_, .cons r t,f => .cons (f _ _ r) (Paired.mapP t f)
theorem ObjOk.stay (x:ObjOk P w H h a o) (k:∀ b u,(b = a∨H b = some (.own a))→h.get? b = some u→h'.get? b = some u)
  (ho:∀ b,H b = some (.own a)→H' b = some (.own a)) (ht:∀ b xs,H b = some (.tup xs)→H' b = some (.tup xs)):ObjOk P w H' h' a o:=by
 induction o with
 | lst xs => obtain ⟨z,its,n,r,e⟩:=x; exact ⟨z,its,n,r,k _ _ (.inl rfl) e⟩
 | tup xs => obtain ⟨z,its,r,ob,e,c⟩:=x; exact ⟨z,its,r,ob,k _ _ (.inl rfl) e,c⟩
 | dK kvs => obtain ⟨z,y,vs,r,ob,es,ep,e,c⟩:=x; exact ⟨z,y,vs,r,ob,es,ep,k _ _ (.inl rfl) e,c⟩
 | dT kvs =>
  obtain ⟨z,y,xs,r,ob,es,ep,e,c⟩:=x
  exact ⟨z,y,xs,Paired.mapP r fun p q z => ⟨z.1,ht _ _ z.2.1,z.2.2⟩,ob,es,ep,k _ _ (.inl rfl) e,c⟩
 | set S n => obtain ⟨ob,es,ep,t,e,c⟩:=x; exact ⟨ob,es,ep,t,k _ _ (.inl rfl) e,c⟩
 | ins C dx fs =>
  obtain ⟨d,z,ne,e,mA,⟨od,es,ep,e2,c⟩,r⟩:=x
  exact ⟨ho _ d,z,ne,k _ _ (.inl rfl) e,mA,⟨od,es,ep,k _ _ (.inr d) e2,c⟩,r⟩
 | own y => obtain ⟨ob,e⟩:=x; exact ⟨ob,k _ _ (.inl rfl) e⟩
 | xd fs => obtain ⟨mA,⟨od,es,ep,e,c⟩,r⟩:=x; exact ⟨mA,⟨od,es,ep,k _ _ (.inl rfl) e,c⟩,r⟩
 | rng lo hi => obtain ⟨t,u,v,e⟩:=x; exact ⟨t,u,v,k _ _ (.inl rfl) e⟩
 | frz ob u ih => obtain ⟨e,q⟩:=x; exact ⟨k _ _ (.inl rfl) e,ih q⟩
 | tbl ps =>
  have e:h.get? a = some { cls:=.none,data:=.fields ps }:=x
  show h'.get? a = some { cls:=.none,data:=.fields ps }
  exact k a _ (.inl rfl) e
 | met f y =>
  have e:h.get? a = some (PySem.W.methodObj (.ref f) (.ref y)):=x
  show h'.get? a = some (PySem.W.methodObj (.ref f) (.ref y))
  exact k a _ (.inl rfl) e
 | ext φ => obtain ⟨p,⟨o,e⟩,st⟩:=x; exact ⟨st _ _ p fun o q => k _ _ (.inl rfl) q,⟨o,k _ _ (.inl rfl) e⟩,st⟩
theorem HOk.lt (x:HOk P w H h) (e:H a = some o):a < h.objs.size:=(x a o e).lt
theorem HOk.fresh (x:HOk P w H h) (e:h.objs.size≤a):H a = none:=by
 cases q:H a with
 | none => rfl
 | some u => exact absurd (Nat.lt_of_lt_of_le (x.lt q) e) (Nat.lt_irrefl _)
theorem HOk.kept (x:HOk P w H h) (k:∀ b u,h.get? b = some u→h'.get? b = some u):HOk P w H h':=fun a o e =>
 (x a o e).stay (fun b u _ q => k b u q) (fun _ q => q) fun _ _ q => q
theorem HOk.laid (x:HOk P w H h) (k:∀ b u,h.get? b = some u→h'.get? b = some u) (hp:h.objs.size≤a) (new:ObjOk P w (upd H a o) h' a o):HOk P w (upd H a o) h':=fun b u e => by
 have hn:=x.fresh hp
 by_cases hb:b = a
 ·subst hb; rw [upd_same] at e; cases e; exact new
 ·rw [upd_ne hb] at e
  exact (x b u e).stay (fun c v _ q => k c v q) (fun c q => by rw [upd_ne (qO q hn)]; exact q) fun c xs q => by rw [upd_ne (qO q hn)]; exact q
end
def Rd (H:Hp) (a:Addr) (u:HO):Prop:=H a = some u∨∃ o,H a = some (.frz o u)
theorem Rd.ok {P:Program} {w:World} {H:Hp} {h:Heap} {a:Addr} {u:HO} (r:Rd H a u) (x:HOk P w H h):ObjOk P w H h a u:=by
 rcases r with r | ⟨o,r⟩
 ·exact x a u r
 ·obtain ⟨_,q⟩:=x a _ r
  exact q
def Mut:Option HO→Prop
 | some (.lst _) => True
 | some (.dK _) => True
 | some (.dT _) => True
 | some (.set _ _) => True
 | some (.ins _ _ _) => True
 | some (.ext _) => True
 | _ => False
section
variable {P:Program} {w:World} {H:Hp} {h h':Heap} {x e:Addr} {o':HO}
theorem HOk.write (ok:HOk P w H h) (mu:Mut (H x)) (he:e = x∨H e = some (.own x)) (k:∀ b u,b≠e→h.get? b = some u→h'.get? b = some u) (heo:∃ u,h'.get? e = some u)
  (new:ObjOk P w (upd H x o') h' x o'):HOk P w (upd H x o') h':=fun b u q => by
 have nown:∀ c y,H c = some (.own y)→c≠x:=fun c y r z => by subst z; rw [r] at mu; exact mu
 have ntup:∀ c xs,H c = some (.tup xs)→c≠x:=fun c xs r z => by subst z; rw [r] at mu; exact mu
 by_cases hb:b = x
 ·subst hb; rw [upd_same] at q; cases q; exact new
 ·rw [upd_ne hb] at q
  by_cases hbe:b = e
  ·have q':H b = some (.own x):=by
    rcases he with z | z
    ·exact absurd (hbe.trans z) hb
    ·rw [hbe]; exact z
   rw [q] at q'; cases q'
   obtain ⟨v,hv⟩:=heo
   exact ⟨v,by rw [hbe]; exact hv⟩
  ·refine (ok b u q).stay (fun c v hc r => k c v ?_ r) (fun c r => by rw [upd_ne (nown c b r)]; exact r) fun c xs r => by rw [upd_ne (ntup c xs r)]; exact r
   rcases hc with rfl | hc
   ·exact hbe
   ·rintro rfl
    rcases he with z | z
    ·exact nown c b hc z
    ·rw [hc] at z; cases z; exact hb rfl
end
structure Un (fs ex:List Addr) (H H':Hp) (h h':Heap):Prop where
 keep:∀ b o,h.get? b = some o→H b = none→b ∉ fs→b ∉ ex→h'.get? b = some o
 slot:∀ b o,h.get? b = some o→H b = none→b ∈ fs→b ∉ ex→∃ sl,h'.get? b = some { o with slots:=sl }
 free:∀ b o,h.get? b = some o→H b = none→b ∉ ex→H' b = none
 there:∀ b o,h.get? b = some o→b ∉ ex→∃ o',h'.get? b = some o'
 tups:∀ b xs,H b = some (.tup xs)→H' b = some (.tup xs)
 frzs:∀ b o u,H b = some (.frz o u)→H' b = some (.frz o u)
 tbls:∀ b ps,H b = some (.tbl ps)→∃ more,H' b = some (.tbl (ps ++ more))
section
variable {fs fs' ex ex':List Addr} {H H1 H2:Hp} {h h1 h2 h':Heap} {a x e:Addr} {o:HO}
theorem Un.any (u:Un fs ex H H1 h h1) {b:Addr} {ob:Obj} (q:h.get? b = some ob) (n:H b = none) (hx:b ∉ ex):∃ sl,h1.get? b = some { ob with slots:=sl }:=by
 by_cases hb:b ∈ fs
 ·exact u.slot b ob q n hb hx
 ·exact ⟨ob.slots,u.keep b ob q n hb hx⟩
theorem Un.trans (a:Un fs ex H H1 h h1) (b:Un fs ex H1 H2 h1 h2):Un fs ex H H2 h h2 where
 keep:=fun c ob q n hc hx => b.keep c ob (a.keep c ob q n hc hx) (a.free c ob q n hx) hc hx
 slot:=fun c ob q n hc hx => by
  obtain ⟨sl,e1⟩:=a.slot c ob q n hc hx
  obtain ⟨sl',e2⟩:=b.slot c _ e1 (a.free c ob q n hx) hc hx
  exact ⟨sl',e2⟩
 free:=fun c ob q n hx => by
  obtain ⟨o',e1⟩:=a.there c ob q hx
  exact b.free c o' e1 (a.free c ob q n hx) hx
 there:=fun c ob q hx => by
  obtain ⟨o',e1⟩:=a.there c ob q hx
  exact b.there c o' e1 hx
 tups:=fun c xs q => b.tups c xs (a.tups c xs q)
 frzs:=fun c ob xs q => b.frzs c ob xs (a.frzs c ob xs q)
 tbls:=fun c ps q => by
  obtain ⟨m1,e1⟩:=a.tbls c ps q
  obtain ⟨m2,e2⟩:=b.tbls c _ e1
  exact ⟨m1 ++ m2,by rw [e2,Array.append_assoc]⟩
theorem Un.kept (k:∀ b u,h.get? b = some u→h'.get? b = some u):Un fs ex H H h h' :=
 ⟨fun b ob q _ _ _ => k b ob q,fun b ob q _ _ _ => ⟨ob.slots,k b ob q⟩,fun _ _ _ n _ => n,fun b ob q _ => ⟨ob,k b ob q⟩,fun _ _ q => q,fun _ _ _ q => q,fun _ ps q => ⟨#[],by rw [q]; simp⟩⟩
theorem Un.refl:Un fs ex H H h h:=Un.kept fun _ _ q => q
theorem Un.laid (k:∀ b u,h.get? b = some u→h'.get? b = some u) (hp:h.objs.size≤a) (hn:H a = none):Un fs ex H (upd H a o) h h' where
 keep:=fun b u q _ _ _ => k b u q
 slot:=fun b u q _ _ _ => ⟨u.slots,k b u q⟩
 free:=fun b u q n _ => by rw [upd_ne (Nat.ne_of_lt (Nat.lt_of_lt_of_le (Heap.lt_size q) hp))]; exact n
 there:=fun b u q _ => ⟨u,k b u q⟩
 tups:=fun b xs q => by rw [upd_ne (qO q hn)]; exact q
 frzs:=fun b u xs q => by rw [upd_ne (qO q hn)]; exact q
 tbls:=fun b ps q => ⟨#[],by rw [upd_ne (qO q hn),q]; simp⟩
theorem Un.write (mu:Mut (H x)) (he:e = x∨H e = some (.own x)) (k:∀ b u,b≠e→h.get? b = some u→h'.get? b = some u) (heo:∃ u,h'.get? e = some u):Un fs ex H (upd H x o) h h':=by
 have hx:∀ b,H b = none→b≠x:=fun b n z => by subst z; rw [n] at mu; exact mu
 have hb:∀ b,H b = none→b≠e:=fun b n z => by
  subst z
  rcases he with r | r
  ·exact hx b n r
  ·rw [n] at r; cases r
 have hm:∀ b u,H b = some u→¬ Mut (some u)→b≠x:=fun b u q nm z => by subst z; rw [q] at mu; exact nm mu
 refine ⟨fun b u q n _ _ => k b u (hb b n) q,fun b u q n _ _ => ⟨u.slots,k b u (hb b n) q⟩,fun b u q n _ => by rw [upd_ne (hx b n)]; exact n,fun b u q _ => ?_,
  fun b xs q => by rw [upd_ne (hm b _ q fun z => z)]; exact q,fun b u xs q => by rw [upd_ne (hm b _ q fun z => z)]; exact q,fun b ps q => ⟨#[],by rw [upd_ne (hm b _ q fun z => z),q]; simp⟩⟩
 by_cases hbe:b = e
 ·subst hbe; exact heo
 ·exact ⟨u,k b u hbe q⟩
theorem Un.mono (u:Un fs ex H H1 h h1) (hs:∀ b ∈ fs,b ∈ fs') (hx:∀ b ∈ ex,b ∈ ex'):Un fs' ex' H H1 h h1 :=
 ⟨fun b ob q n hb he => u.keep b ob q n (fun z => hb (hs b z)) fun z => he (hx b z),fun _ _ q n _ he => u.any q n fun z => he (hx _ z),fun b ob q n he => u.free b ob q n fun z => he (hx b z),fun b ob q he => u.there b ob q fun z => he (hx b z),u.tups,u.frzs,u.tbls⟩
end
def trk (h:Heap) (H:Hp):List Addr:=(List.range h.objs.size).filter fun a => (H a).isSome
def hidT (h:Heap) (H:Hp):Heap:=PySem.W.hideAll h (trk h H)
theorem KN (h:Heap) (H:Hp):(hidT h H).objs.size = h.objs.size:=PySem.W.hideAll_size _ _
theorem hidT_get {h:Heap} {H:Hp} {b:Addr} {o:Obj} (e:h.get? b = some o) (n:H b = none):(hidT h H).get? b = some o :=
 PySem.W.hideAll_get _ e fun hm => by
  have q:(H b).isSome = true:=(List.mem_filter.mp hm).2
  rw [n] at q; simp at q
theorem of_hidT {h:Heap} {H:Hp} {b:Addr} {o:Obj} (e:(hidT h H).get? b = some o):h.get? b = some o∧H b = none:=by
 have e':h.get? b = some o:=PySem.W.of_hideAll (trk h H) e
 refine ⟨e', ?_⟩
 cases q:H b with
 | none => rfl
 | some x =>
  have hm:b ∈ trk h H:=List.mem_filter.mpr ⟨List.mem_range.mpr (Heap.lt_size e'),by simp [q]⟩
  have z:(hidT h H).get? b = none:=PySem.W.hideAll_none (trk h H) hm
  rw [z] at e; cases e
structure Mod (K:PySem.W.Frag) (mg:Str→Option Value) (base:Heap):Prop where
 kin:K.In base
 glob:base.Ns mainGlobals mg
 blt:∃ mb,base.Ns builtinsNs mb∧∀ x:Str,x ≠ "__name__" → mb x = bootBuiltins x
 nolimit:base.NoLimit
structure Cx where
 prog:Program
 w:World
 K:PySem.W.Frag
 mg:Str→Option Value
 base:Heap
 A:Around
 N:List Str
 s₀:Shared
 H₀:Hp
 env:Env
 outer:List Env
 stack:List Env
 ex:List Addr
 fn:Str→Bool
 calm:Bool
 pn:List (Addr × Obj)
 xe:Value→Shared→Prop
def frs (l:List Env):List Addr:=l.filterMap (·.frame)
abbrev Cx.fs (X:Cx):List Addr:=frs X.outer
def Vis (sc:Scope) (x:Str):Prop:=sc.names.lookup x = some .local∨sc.names.lookup x = some .cell∨sc.names.lookup x = some .free
def Loc (sc:Scope) (x:Str):Prop:=sc.names.lookup x = some .local∨sc.names.lookup x = some .cell
def Look (env:Env) (h:Heap) (m:Str→Option Value) (x:Str) (u:Value):Prop :=
 (env.kindOf x = some .local∧m x = some u)∨((env.kindOf x = some .cell∨env.kindOf x = some .free)∧∃ c,env.cells.lookup x = some c∧h.IsCell c (some u))
structure Cx.Ok (X:Cx):Prop where
 mod:Mod X.K X.mg X.base
 kind:X.env.scope.kind = .function
 glob:X.env.globals = mainGlobals
 blt:X.env.builtins = builtinsNs
 above:X.s₀.heap.objs.size≤X.env.locals
 inj:∀ x y c,X.env.cells.lookup x = some c→X.env.cells.lookup y = some c→x = y
 has:∀ x,(X.env.kindOf x = some .cell∨X.env.kindOf x = some .free)→∃ c,X.env.cells.lookup x = some c
 cab:∀ x c,X.fn x = true→X.env.cells.lookup x = some c→X.s₀.heap.objs.size≤c
 hd:X.calm = true→X.A.handled = none
 frames:X.A.frames = some X.stack
 stk:X.stack = X.outer∨(X.stack = X.env :: X.outer∧X.env.frame = some X.env.locals)
 exf:∀ b ∈ X.ex,b≠X.env.locals∧∀ x c,X.env.cells.lookup x = some c→c≠b
 bs:∀ b o,X.base.get? b = some o→X.s₀.heap.get? b = some o∧X.H₀ b = none
 bsz:X.base.objs.size≤X.s₀.heap.objs.size
 noex:∀ b o,X.base.get? b = some o→b ∉ X.ex
 exfs:∀ b ∈ X.ex,b ∉ X.fs
 funs:X.s₀.heap.FunFrames X.base X.outer
 frf:∀ b ∈ X.fs,X.H₀ b = none
structure Inv (X:Cx) (pins:List (Addr × Obj)) (σ:List (Option V)) (H:Hp) (s:Shared):Prop where
 ok:X.Ok
 os:s.os = X.s₀.os
 bare:AllBare s.gens
 base:Un X.fs X.ex X.H₀ H X.s₀.heap s.heap
 loc:∃ m,s.heap.Ns X.env.locals m∧∀ (i:Nat) (x:Str) (v:V),X.N[i]? = some x→σ[i]? = some (some v)→Vis X.env.scope x→∃ u,RelV v u∧Look X.env s.heap m x u
 cell:∀ x c,X.env.cells.lookup x = some c→∃ v,s.heap.IsCell c v
 free:H X.env.locals = none
 freeC:∀ x c,X.env.cells.lookup x = some c→H c = none
 pin:∀ p ∈ X.pn ++ pins,s.heap.get? p.1 = some p.2∧H p.1 = none∧p.1≠X.env.locals∧p.1 ∉ X.fs∧∀ v,p.2.data ≠ .cell v
 hok:HOk X.prog X.w H s.heap
 len:σ.length = X.N.length
section
variable {X:Cx} {pins:List (Addr × Obj)} {σ:List (Option V)} {H H':Hp} {s:Shared} {h':Heap}
theorem Cx.Ok.nofr (ok:X.Ok) {b:Addr} {o:Obj} (e:X.base.get? b = some o):b ∉ X.fs:=fun hb => by
 have:=(ok.funs.mem hb).1
 rw [e] at this; cases this
theorem Inv.bs (I:Inv X pins σ H s):∀ b o,X.base.get? b = some o→s.heap.get? b = some o∧H b = none:=fun b o e =>
 ⟨I.base.keep b o (I.ok.bs b o e).1 (I.ok.bs b o e).2 (I.ok.nofr e) (I.ok.noex b o e),I.base.free b o (I.ok.bs b o e).1 (I.ok.bs b o e).2 (I.ok.noex b o e)⟩
theorem Inv.bk (I:Inv X pins σ H s):∀ b o,X.base.get? b = some o→s.heap.get? b = some o:=fun b o e => (I.bs b o e).1
theorem Inv.mod (I:Inv X pins σ H s):Mod X.K X.mg X.base:=I.ok.mod
theorem Inv.kIn (I:Inv X pins σ H s):X.K.In s.heap:=I.ok.mod.kin.keeps I.bk
theorem Inv.fr (I:Inv X pins σ H s):∃ m,Fr X.base X.env.locals s.heap m :=
 let ⟨m,hn,_⟩:=I.loc
 ⟨m,hn,I.bk,Nat.le_trans I.ok.bsz I.ok.above⟩
theorem Inv.lt (I:Inv X pins σ H s):X.env.locals < s.heap.objs.size:=let ⟨_,hn,_⟩:=I.loc; hn.lt
theorem Inv.sz (I:Inv X pins σ H s):X.s₀.heap.objs.size≤s.heap.objs.size:=Nat.le_trans I.ok.above (Nat.le_of_lt I.lt)
theorem Inv.nofs (I:Inv X pins σ H s) {a:Addr} (h:s.heap.objs.size≤a):a ∉ X.fs:=fun hb => by
 obtain ⟨_,o,ho,_⟩:=I.ok.funs.mem hb
 exact absurd (Nat.lt_of_lt_of_le (Heap.lt_size ho) (Nat.le_trans I.sz h)) (Nat.lt_irrefl _)
theorem Inv.cne (I:Inv X pins σ H s):∀ x c,X.env.cells.lookup x = some c→c≠X.env.locals:=fun x c e z => by
 obtain ⟨v,o,ho,hd⟩:=I.cell x c e
 obtain ⟨m,⟨o',es,ep,ho',hd',_⟩,_⟩:=I.loc
 rw [z,ho'] at ho; cases ho; rw [hd'] at hd; cases hd
theorem Inv.funs (I:Inv X pins σ H s):s.heap.FunFrames X.base X.outer:=by
 have all:∀ (l:List Env),(∀ b ∈ frs l,b ∈ X.fs)→X.s₀.heap.FunFrames X.base l→s.heap.FunFrames X.base l:=by
  intro l
  induction l with
  | nil => intro _ _; trivial
  | cons env r ih =>
   intro hs hl
   obtain ⟨hk,⟨L,o,hf,hn,ho,hd⟩,hr⟩:=hl
   have hL:L ∈ X.fs:=hs L (by unfold frs; rw [List.filterMap_cons,hf]; exact List.mem_cons_self)
   obtain ⟨sl,e⟩:=I.base.slot L o ho (I.ok.frf L hL) hL fun z => I.ok.exfs L z hL
   exact ⟨hk,⟨L,_,hf,hn,e,hd⟩,ih (fun b hb => hs b (by unfold frs; rw [List.filterMap_cons,hf]; exact List.mem_cons_of_mem _ hb)) hr⟩
 exact all X.outer (fun _ hb => hb) I.ok.funs
theorem Inv.stack (I:Inv X pins σ H s):s.heap.FunFrames X.base X.stack:=by
 rcases I.ok.stk with e | ⟨e,hf⟩
 ·rw [e]; exact I.funs
 ·rw [e]
  obtain ⟨m,hn,_⟩:=I.loc
  refine .cons (by rw [I.ok.kind]; decide) hf hn ?_ I.funs
  exact Heap.get?_none_of_le (Nat.le_trans I.ok.bsz I.ok.above)
theorem Inv.stkSub (I:Inv X pins σ H s):∀ b ∈ frs X.stack,b ∈ X.env.locals :: X.fs:=fun b hb => by
 rcases I.ok.stk with e | ⟨e,hf⟩
 ·rw [e] at hb; exact List.mem_cons_of_mem _ hb
 ·rw [e] at hb
  unfold frs at hb
  rw [List.filterMap_cons,hf] at hb
  exact hb
theorem Inv.stkFree (I:Inv X pins σ H s):∀ b ∈ frs X.stack,H b = none:=fun b hb => by
 rcases List.mem_cons.mp (I.stkSub b hb) with e | hb
 ·rw [e]; exact I.free
 ·obtain ⟨_,o,ho,_⟩:=I.ok.funs.mem hb
  exact I.base.free b o ho (I.ok.frf b hb) fun z => I.ok.exfs b z hb
theorem Inv.step {g':Array GenState} {t':Nat} {d':Drawn} {ch:List Addr} (I:Inv X pins σ H s)
  (hch:∀ b ∈ ch,(b ∈ X.ex∨X.s₀.heap.objs.size≤b)∧b≠X.env.locals∧(∀ x c,X.env.cells.lookup x = some c→c≠b)∧∀ p ∈ X.pn ++ pins,p.1≠b)
  (keep:∀ b o,b≠X.env.locals→b ∉ X.fs→b ∉ ch→s.heap.get? b = some o→H b = none→h'.get? b = some o)
  (slot:∀ b o,b≠X.env.locals→b ∈ X.fs→b ∉ ch→s.heap.get? b = some o→H b = none→∃ sl,h'.get? b = some { o with slots:=sl }) (free:∀ b o,b ∉ ch→s.heap.get? b = some o→H b = none→H' b = none)
  (there:∀ b o,b ∉ ch→s.heap.get? b = some o→∃ o',h'.get? b = some o')
  (tups:∀ b xs,H b = some (.tup xs)→H' b = some (.tup xs)) (frzs:∀ b o u,H b = some (.frz o u)→H' b = some (.frz o u)) (tbls:∀ b ps,H b = some (.tbl ps)→∃ more,H' b = some (.tbl (ps ++ more)))
  (ns:∀ m,s.heap.Ns X.env.locals m→h'.Ns X.env.locals m) (hok:HOk X.prog X.w H' h') (hg:AllBare g') :
  Inv X pins σ H' { s with heap:=h',gens:=g',drawn:=d',toks:=t' }:=by
 have neL:∀ b o,X.s₀.heap.get? b = some o→b≠X.env.locals:=fun b o e => Nat.ne_of_lt (Nat.lt_of_lt_of_le (Heap.lt_size e) I.ok.above)
 have neC:∀ b o,X.s₀.heap.get? b = some o→b ∉ X.ex→b ∉ ch:=fun b o e hx hb => by
  rcases (hch b hb).1 with z | z
  ·exact hx z
  ·exact absurd (Nat.lt_of_lt_of_le (Heap.lt_size e) z) (Nat.lt_irrefl _)
 have cellK:∀ x c,X.env.cells.lookup x = some c→∀ v,s.heap.IsCell c v→h'.IsCell c v:=fun x c e v ⟨o,ho,hd⟩ => by
  have nch:c ∉ ch:=fun z => (hch c z).2.2.1 x c e rfl
  by_cases hc:c ∈ X.fs
  ·obtain ⟨sl,q⟩:=slot c o (I.cne x c e) hc nch ho (I.freeC x c e)
   exact ⟨_,q,hd⟩
  ·exact ⟨o,keep c o (I.cne x c e) hc nch ho (I.freeC x c e),hd⟩
 refine ⟨I.ok,I.os,hg,⟨fun b o e n hb hx => ?_,fun b o e n hb hx => ?_,fun b o e n hx => ?_,fun b o e hx => ?_,fun b xs e => tups b xs (I.base.tups b xs e),fun b o xs e => frzs b o xs (I.base.frzs b o xs e),fun b ps e => ?_⟩, ?_,fun x c e => ?_, ?_,fun x c e => ?_,fun p hp => ?_,hok,I.len⟩
 ·exact keep b o (neL b o e) hb (neC b o e hx) (I.base.keep b o e n hb hx) (I.base.free b o e n hx)
 ·obtain ⟨sl,e1⟩:=I.base.slot b o e n hb hx
  obtain ⟨sl',e2⟩:=slot b _ (neL b o e) hb (neC b o e hx) e1 (I.base.free b o e n hx)
  exact ⟨sl',e2⟩
 ·obtain ⟨o',e1⟩:=I.base.there b o e hx
  exact free b o' (neC b o e hx) e1 (I.base.free b o e n hx)
 ·obtain ⟨o',e1⟩:=I.base.there b o e hx
  exact there b o' (neC b o e hx) e1
 ·obtain ⟨m1,e1⟩:=I.base.tbls b ps e
  obtain ⟨m2,e2⟩:=tbls b _ e1
  exact ⟨m1 ++ m2,by rw [e2,Array.append_assoc]⟩
 ·obtain ⟨m,hn,hl⟩:=I.loc
  refine ⟨m,ns m hn,fun i x v e1 e2 e3 => ?_⟩
  obtain ⟨u,r,l⟩:=hl i x v e1 e2 e3
  refine ⟨u,r, ?_⟩
  rcases l with l | ⟨k,c,e,z⟩
  ·exact .inl l
  ·exact .inr ⟨k,c,e,cellK x c e _ z⟩
 ·obtain ⟨v,z⟩:=I.cell x c e
  exact ⟨v,cellK x c e v z⟩
 ·obtain ⟨m,⟨o,_,_,ho,_⟩,_⟩:=I.loc
  exact free _ o (fun z => (hch _ z).2.1 rfl) ho I.free
 ·obtain ⟨v,o,ho,hd⟩:=I.cell x c e
  exact free c o (fun z => (hch c z).2.2.1 x c e rfl) ho (I.freeC x c e)
 ·obtain ⟨e,n,ne,nf,d⟩:=I.pin p hp
  have nch:p.1 ∉ ch:=fun z => (hch p.1 z).2.2.2 p hp rfl
  exact ⟨keep p.1 p.2 ne nf nch e n,free p.1 p.2 nch e n,ne,nf,d⟩
theorem Inv.un {t':Nat} (I:Inv X pins σ H s) (u:Un X.fs [] H H' s.heap h') (hok:HOk X.prog X.w H' h'):Inv X pins σ H' { s with heap:=h',toks:=t' }:=by
 obtain ⟨m,⟨o,es,ep,ho,r⟩,_⟩:=id I.loc
 obtain ⟨sl,hL⟩:=u.any ho I.free (by simp)
 exact I.step (g':=s.gens) (d':=s.drawn) (ch:=[]) (fun _ z => nomatch z) (fun b o _ hb _ e n => u.keep b o e n hb (by simp)) (fun b o _ hb _ e n => u.slot b o e n hb (by simp)) (fun b o _ e n => u.free b o e n (by simp)) (fun b o _ e => u.there b o e (by simp)) u.tups u.frzs u.tbls (fun m' hm => by
  obtain ⟨o',es',ep',ho',r'⟩:=hm
  rw [ho] at ho'; cases ho'
  exact ⟨_,es',ep',hL,r'⟩) hok I.bare
theorem Inv.call {g':Array GenState} {t':Nat} {d':Drawn} {ch:List Addr} (I:Inv X pins σ H s) (u:Un (frs X.stack) ch H H' s.heap h') (hok:HOk X.prog X.w H' h') (hg:AllBare g')
  (hch:∀ b ∈ ch,(b ∈ X.ex∨X.s₀.heap.objs.size≤b)∧b≠X.env.locals∧(∀ x c,X.env.cells.lookup x = some c→c≠b)∧∀ p ∈ X.pn ++ pins,p.1≠b) :
  Inv X pins σ H' { s with heap:=h',gens:=g',drawn:=d',toks:=t' }:=by
 obtain ⟨m,⟨o,es,ep,ho,r⟩,_⟩:=id I.loc
 obtain ⟨sl,hL⟩:=u.any ho I.free fun z => (hch _ z).2.1 rfl
 exact I.step (ch:=ch) hch (fun b o hL hb hc e n => u.keep b o e n (fun z => (List.mem_cons.mp (I.stkSub b z)).elim hL hb) hc) (fun b o _ _ hc e n => u.any e n hc) (fun b o hc e n => u.free b o e n hc) (fun b o hc e => u.there b o e hc) u.tups u.frzs u.tbls (fun m' hm => by
  obtain ⟨o',es',ep',ho',r'⟩:=hm
  rw [ho] at ho'; cases ho'
  exact ⟨_,es',ep',hL,r'⟩) hok hg
theorem Inv.turned {t':Nat} {it:Addr} (I:Inv X pins σ H s) (k:∀ b o,b≠it→s.heap.get? b = some o→h'.get? b = some o) (hn:H it = none) (hL:it≠X.env.locals)
  (h1:it ∈ X.ex∨X.s₀.heap.objs.size≤it) (h2:∀ x c,X.env.cells.lookup x = some c→c≠it) (h3:∀ p ∈ X.pn ++ pins,p.1≠it):Inv X pins σ H { s with heap:=h',toks:=t' }:=by
 have nit:∀ b u,H b = some u→b≠it:=fun b u e z => by rw [z,hn] at e; cases e
 refine I.step (g':=s.gens) (d':=s.drawn) (ch:=[it]) (fun b hb => ?_) (fun b o _ _ hc e _ => k b o (fun z => hc (by simp [z])) e) (fun b o _ _ hc e _ => ⟨o.slots,k b o (fun z => hc (by simp [z])) e⟩) (fun _ _ _ _ n => n)
  (fun b o hc e => ⟨o,k b o (fun z => hc (by simp [z])) e⟩) (fun _ _ e => e) (fun _ _ _ e => e) (fun b ps e => ⟨#[],by rw [e]; simp⟩) (fun m hm => ?_) (fun b u e => ?_) I.bare
 ·have e:b = it:=by simpa using hb
  subst e
  exact ⟨h1,hL,h2,h3⟩
 ·obtain ⟨o,es,ep,ho,r⟩:=hm
  exact ⟨o,es,ep,k _ o (Ne.symm hL) ho,r⟩
 ·refine (I.hok b u e).stay (fun c v hc q => k c v ?_ q) (fun _ q => q) fun _ _ q => q
  rcases hc with z | z
  ·rw [z]; exact nit b u e
  ·exact nit c _ z
theorem Inv.tok (I:Inv X pins σ H s) (t:Nat):Inv X pins σ H { s with toks:=t }:=I.un (h':=s.heap) (t':=t) Un.refl I.hok
theorem Inv.kept {t':Nat} (I:Inv X pins σ H s) (k:∀ b u,s.heap.get? b = some u→h'.get? b = some u):Inv X pins σ H { s with heap:=h',toks:=t' }:=I.un (Un.kept k) (I.hok.kept k)
theorem Inv.laid {a:Addr} {o:HO} {t':Nat} (I:Inv X pins σ H s) (k:∀ b u,s.heap.get? b = some u→h'.get? b = some u) (hp:s.heap.objs.size≤a) (new:ObjOk X.prog X.w (upd H a o) h' a o) :
  Inv X pins σ (upd H a o) { s with heap:=h',toks:=t' }:=I.un (Un.laid k hp (I.hok.fresh hp)) (I.hok.laid k hp new)
theorem Inv.write {x e:Addr} {o:HO} {t':Nat} (I:Inv X pins σ H s) (mu:Mut (H x)) (he:e = x∨H e = some (.own x)) (k:∀ b u,b≠e→s.heap.get? b = some u→h'.get? b = some u) (heo:∃ u,h'.get? e = some u)
  (new:ObjOk X.prog X.w (upd H x o) h' x o):Inv X pins σ (upd H x o) { s with heap:=h',toks:=t' }:=I.un (Un.write mu he k heo) (I.hok.write mu he k heo new)
theorem Inv.weak {σ':List (Option V)} (I:Inv X pins σ H s) (hl:σ'.length = σ.length) (w:∀ (i:Nat) v,σ'[i]? = some (some v)→σ[i]? = some (some v)):Inv X pins σ' H s :=
 ⟨I.ok,I.os,I.bare,I.base,let ⟨m,hn,hl'⟩:=I.loc; ⟨m,hn,fun i x v e1 e2 e3 => hl' i x v e1 (w i v e2) e3⟩,I.cell,I.free,I.freeC,I.pin,I.hok,hl.trans I.len⟩
theorem Inv.pins_of {pins':List (Addr × Obj)} (I:Inv X pins σ H s) (h:∀ p ∈ pins',s.heap.get? p.1 = some p.2∧H p.1 = none∧p.1≠X.env.locals∧p.1 ∉ X.fs∧∀ v,p.2.data ≠ .cell v):Inv X pins' σ H s :=
 ⟨I.ok,I.os,I.bare,I.base,I.loc,I.cell,I.free,I.freeC,fun p hp => (List.mem_append.mp hp).elim (fun z => I.pin p (List.mem_append_left _ z)) (h p),I.hok,I.len⟩
theorem kM {N:List Str} (hN:N.Nodup) {i j:Nat} {x:Str} (a:N[i]? = some x) (b:N[j]? = some x):i = j:=by
 obtain ⟨h1,e1⟩:=List.getElem?_eq_some_iff.mp a
 obtain ⟨h2,e2⟩:=List.getElem?_eq_some_iff.mp b
 exact (List.getElem_inj hN).mp (e1.trans e2.symm)
theorem Qw {M:Model} {A:Around} {E:Value→Shared→Prop} {i:Nat} {x:Str} {v:V} {u:Value} {Q:Unit→Shared→Prop} (I:Inv X pins σ H s) (hN:X.N.Nodup) (hi:X.N[i]? = some x) (hx:Loc X.env.scope x) (r:RelV v u)
  (h:∀ s',Inv X pins (σ.set i (some v)) H s'→(∃ a,Heap.SameBut a s.heap s'.heap∧(a = X.env.locals∨X.env.cells.lookup x = some a))→Q () s') (hf:X.fn x = true∨X.env.scope.names.lookup x = some .local:=by first | exact .inl rfl | exact .inr rfl | assumption):wpAny M A (storeName X.env x u) Q E s:=by
 obtain ⟨m,hn,hl⟩:=id I.loc
 have hcls:(X.env.scope.kind == .class || (X.env.scope.kind == .module && X.env.locals != X.env.globals)) = false:=by rw [I.ok.kind]; rfl
 have hiσ:i < σ.length:=by rw [I.len]; exact (List.getElem?_eq_some_iff.mp hi).1
 have cne:=I.cne
 have tracked:∀ {a:Addr} {h':Heap},(∃ o,s.heap.get? a = some o∧H a = none)→Heap.SameBut a s.heap h'→HOk X.prog X.w H h':=fun {a h'} ha hs b ob e => by
  obtain ⟨_,_,hfree⟩:=ha
  refine (I.hok b ob e).stay (fun c w' hc q => (hs.2 c ?_).trans q) (fun _ q => q) fun _ _ q => q
  rintro rfl
  rcases hc with rfl | hc
  ·rw [hfree] at e; cases e
  ·rw [hfree] at hc; cases hc
 rcases hx with hk | hk
 ·refine wpAny_storeName_local hk hn (fun h' hn' hs => ?_) hcls
  obtain ⟨oL,_,_,hoL,_⟩:=id hn
  refine h _ ⟨I.ok,I.os,I.bare,⟨fun b o e n hb hx => ?_,fun b o e n hb hx => ?_,I.base.free,fun b o e hx => ?_,I.base.tups,I.base.frzs,I.base.tbls⟩,⟨_,hn',fun j y v' e1 e2 e3 => ?_⟩,fun y c e => ?_,I.free,I.freeC,fun p hp => ?_,tracked ⟨oL,hoL,I.free⟩ hs,by simpa using I.len⟩ ⟨_,hs, .inl rfl⟩
  ·exact (hs.2 b (Nat.ne_of_lt (Nat.lt_of_lt_of_le (Heap.lt_size e) I.ok.above))).trans (I.base.keep b o e n hb hx)
  ·obtain ⟨sl,e1⟩:=I.base.slot b o e n hb hx
   exact ⟨sl,(hs.2 b (Nat.ne_of_lt (Nat.lt_of_lt_of_le (Heap.lt_size e) I.ok.above))).trans e1⟩
  ·obtain ⟨o',e1⟩:=I.base.there b o e hx
   exact ⟨o',(hs.2 b (Nat.ne_of_lt (Nat.lt_of_lt_of_le (Heap.lt_size e) I.ok.above))).trans e1⟩
  ·by_cases hj:j = i
   ·subst hj
    rw [hi] at e1; cases e1
    rw [List.getElem?_set_self hiσ] at e2
    cases e2
    exact ⟨u,r, .inl ⟨hk,by simp⟩⟩
   ·rw [List.getElem?_set_ne (Ne.symm hj)] at e2
    obtain ⟨u',r',q⟩:=hl j y v' e1 e2 e3
    refine ⟨u',r', ?_⟩
    rcases q with ⟨k,e⟩ | ⟨k,c,e,z⟩
    ·refine .inl ⟨k, ?_⟩
     have:y≠x:=fun e => hj (kM hN e1 (e ▸ hi))
     simp [this,e]
    ·exact .inr ⟨k,c,e,z.sameBut hs (cne y c e)⟩
  ·obtain ⟨w',z⟩:=I.cell y c e
   exact ⟨w',z.sameBut hs (cne y c e)⟩
  ·obtain ⟨e,n,ne,nf,d⟩:=I.pin p hp
   exact ⟨(hs.2 p.1 ne).trans e,n,ne,nf,d⟩
 ·have hfn:X.fn x = true:=by
   rcases hf with z | z
   ·exact z
   ·rw [z] at hk; cases hk
  obtain ⟨c,hc⟩:=I.ok.has x (.inl hk)
  obtain ⟨w',z⟩:=I.cell x c hc
  refine wpAny_storeName_cell I.ok.kind hk hc z (fun h' hc' hs => ?_)
  obtain ⟨oc,hoc,hocd⟩:=id z
  refine h { s with heap:=h' } ⟨I.ok,I.os,I.bare,⟨fun b o e n hb hx => ?_,fun b o e n hb hx => ?_,I.base.free,fun b o e hx => ?_,I.base.tups,I.base.frzs,I.base.tbls⟩,⟨m,hn.sameBut hs (Ne.symm (cne x c hc)),fun j y v' e1 e2 e3 => ?_⟩,fun y c' e => ?_,I.free,I.freeC,fun p hp => ?_,tracked ⟨oc,hoc,I.freeC x c hc⟩ hs,by simpa using I.len⟩ ⟨c,hs, .inr hc⟩
  ·exact (hs.2 b (Nat.ne_of_lt (Nat.lt_of_lt_of_le (Heap.lt_size e) (I.ok.cab x c hfn hc)))).trans (I.base.keep b o e n hb hx)
  ·obtain ⟨sl,e1⟩:=I.base.slot b o e n hb hx
   exact ⟨sl,(hs.2 b (Nat.ne_of_lt (Nat.lt_of_lt_of_le (Heap.lt_size e) (I.ok.cab x c hfn hc)))).trans e1⟩
  ·obtain ⟨o',e1⟩:=I.base.there b o e hx
   exact ⟨o',(hs.2 b (Nat.ne_of_lt (Nat.lt_of_lt_of_le (Heap.lt_size e) (I.ok.cab x c hfn hc)))).trans e1⟩
  ·by_cases hj:j = i
   ·subst hj
    rw [hi] at e1; cases e1
    rw [List.getElem?_set_self hiσ] at e2
    cases e2
    exact ⟨u,r, .inr ⟨.inl hk,c,hc,hc'⟩⟩
   ·rw [List.getElem?_set_ne (Ne.symm hj)] at e2
    obtain ⟨u',r',q⟩:=hl j y v' e1 e2 e3
    refine ⟨u',r', ?_⟩
    rcases q with q | ⟨k,c',e,z'⟩
    ·exact .inl q
    ·refine .inr ⟨k,c',e,z'.sameBut hs ?_⟩
     rintro rfl
     exact hj (kM hN e1 (I.ok.inj _ _ _ e hc ▸ hi))
  ·by_cases hcc:c' = c
   ·subst hcc; exact ⟨_,hc'⟩
   ·obtain ⟨w2,z2⟩:=I.cell y c' e
    exact ⟨w2,z2.sameBut hs hcc⟩
  ·obtain ⟨e,n,ne,nf,d⟩:=I.pin p hp
   refine ⟨(hs.2 p.1 ?_).trans e,n,ne,nf,d⟩
   intro q
   rw [q,hoc] at e
   have q':oc = p.2:=Option.some.inj e
   exact d w' (by rw [← q']; exact hocd)
theorem xw {M:Model} {A:Around} {E:Value→Shared→Prop} {i:Nat} {x:Str} {v:V} {u:Value} {Q:Unit→Shared→Prop} (I:Inv X pins σ H s) (hN:X.N.Nodup) (hi:X.N[i]? = some x) (hx:Loc X.env.scope x) (r:RelV v u)
  (h:∀ s',Inv X pins (σ.set i (some v)) H s'→Q () s') (hf:X.fn x = true∨X.env.scope.names.lookup x = some .local:=by first | exact .inl rfl | exact .inr rfl | assumption):wpAny M A (storeName X.env x u) Q E s :=
 Qw I hN hi hx r (fun s' I' _ => h s' I') hf
theorem Inv.call' {s':Shared} {ch:List Addr} (I:Inv X pins σ H s) (ho:s'.os = s.os) (u:Un (frs X.stack) ch H H' s.heap s'.heap) (hok:HOk X.prog X.w H' s'.heap) (hg:AllBare s'.gens)
  (hch:∀ b ∈ ch,(b ∈ X.ex∨X.s₀.heap.objs.size≤b)∧b≠X.env.locals∧(∀ x c,X.env.cells.lookup x = some c→c≠b)∧∀ p ∈ X.pn ++ pins,p.1≠b):Inv X pins σ H' s':=by
 obtain ⟨h',g',d',t',o'⟩:=s'
 have e:o' = s.os:=ho
 subst e
 exact I.call (g':=g') (t':=t') (d':=d') u hok hg hch
end
abbrev XK:=Value→Option Addr→Hp→Prop
abbrev St:=List (Option V)
abbrev VK:=V→Hp→Prop
abbrev TE:=St→Hp→VK→Prop
abbrev TT:=St→Hp→(Bool→Hp→Prop)→Prop
abbrev TA:=St→Hp→(List V→Hp→Prop)→Prop
structure Ends where
 nx:St→Hp→Prop
 rt:VK
 bk:St→Hp→Prop:=fun _ _ => False
 ct:St→Hp→Prop:=fun _ _ => False
abbrev TS:=Ends→St→Hp→Prop
def EP (X:Cx) (pins:List (Addr × Obj)) (σ:St) (Q:VK) (u:Value) (s':Shared):Prop:=∃ v H',Inv X pins σ H' s'∧RelV v u∧Q v H'
def TP (X:Cx) (pins:List (Addr × Obj)) (σ:St) (Q:Bool→Hp→Prop) (b:Bool) (s':Shared):Prop:=∃ H',Inv X pins σ H' s'∧Q b H'
def AP (X:Cx) (pins:List (Addr × Obj)) (σ:St) (Q:List V→Hp→Prop) (us:List Value) (s':Shared):Prop:=∃ vs H',Inv X pins σ H' s'∧Vals vs us∧Q vs H'
def SP (X:Cx) (pins:List (Addr × Obj)) (D:Ends) (f:Flow) (s':Shared):Prop :=
 match f with
 | .next => ∃ σ' H',Inv X pins σ' H' s'∧D.nx σ' H'
 | .brk => ∃ σ' H',Inv X pins σ' H' s'∧D.bk σ' H'
 | .cont => ∃ σ' H',Inv X pins σ' H' s'∧D.ct σ' H'
 | .ret u => ∃ v σ' H',Inv X pins σ' H' s'∧RelV v u∧D.rt v H'
def PE (X:Cx) (e:Expr) (t:TE):Prop :=
 ∀ (pins:List (Addr × Obj)) (s:Shared) (σ:St) (H:Hp) (Q:VK),Inv X pins σ H s→t σ H Q→wpAny (model X.prog X.w) X.A (eval e X.env) (EP X pins σ Q) X.xe s
def PT (X:Cx) (e:Expr) (t:TT):Prop :=
 ∀ (pins:List (Addr × Obj)) (s:Shared) (σ:St) (H:Hp) (Q:Bool→Hp→Prop),Inv X pins σ H s→t σ H Q→wpAny (model X.prog X.w) X.A (isTrue e X.env (eval e X.env)) (TP X pins σ Q) X.xe s
def PW (X:Cx) (e:Expr) (t:TT):Prop :=
 ∀ (whole:Sem Value) (pins:List (Addr × Obj)) (s:Shared) (σ:St) (H:Hp) (Q:Bool→Hp→Prop),Inv X pins σ H s→t σ H Q→wpAny (model X.prog X.w) X.A (isTrue e X.env whole) (TP X pins σ Q) X.xe s
theorem PW.pt {X:Cx} {e:Expr} {t:TT} (h:PW X e t):PT X e t:=h _
def PA (X:Cx) (es:List Expr) (t:TA):Prop :=
 ∀ (pos:Pos) (pins:List (Addr × Obj)) (s:Shared) (σ:St) (H:Hp) (Q:List V→Hp→Prop),Inv X pins σ H s→t σ H Q→wpAny (model X.prog X.w) X.A (spliced (backTo pos (starEach es X.env))) (AP X pins σ Q) X.xe s
def PS (X:Cx) (st:Stmt) (t:TS):Prop :=
 ∀ (pins:List (Addr × Obj)) (s:Shared) (σ:St) (H:Hp) (D:Ends),Inv X pins σ H s→t D σ H→wpAny (model X.prog X.w) X.A (exec st X.env) (SP X pins D) X.xe s
def PSs (X:Cx) (st:List Stmt) (t:TS):Prop :=
 ∀ (pins:List (Addr × Obj)) (s:Shared) (σ:St) (H:Hp) (D:Ends),Inv X pins σ H s→t D σ H→wpAny (model X.prog X.w) X.A (execs st X.env) (SP X pins D) X.xe s
theorem thn {α:Type} {t:Sem α} {Q Q':α→Shared→Prop} {M:Model} {A:Around} {E:Value→Shared→Prop} {s:Shared} (h:wpAny M A t Q E s) (hQ:∀ a s,Q a s→Q' a s):wpAny M A t Q' E s:=wpAny_mono h hQ fun _ _ x => x
section
variable {X:Cx}
theorem bin {a b:Expr} {ta tb:TE} (ha:PE X a ta) (hb:PE X b tb) {pins:List (Addr × Obj)} {s:Shared} {σ:St} {H:Hp} {R:V→V→Hp→Prop} (I:Inv X pins σ H s) (h:ta σ H fun x H1 => tb σ H1 fun y H2 => R x y H2)
  {α:Type} {Q:α→Shared→Prop} {f:Value→Value→Sem α}
  (hf:∀ v u s2 x y H2,Inv X pins σ H2 s2→RelV x v→RelV y u→R x y H2→wpAny (model X.prog X.w) X.A (f v u) Q X.xe s2) :
  wpAny (model X.prog X.w) X.A (eval a X.env) (fun v s₁ => wpAny (model X.prog X.w) X.A (eval b X.env) (fun u s₂ => wpAny (model X.prog X.w) X.A (f v u) Q X.xe s₂) X.xe s₁) X.xe s:=by
 refine thn (ha pins s σ H _ I h) fun v s1 ⟨x,H1,I1,r1,q1⟩ => ?_
 refine thn (hb pins s1 σ H1 _ I1 q1) fun u s2 ⟨y,H2,I2,r2,q2⟩ => ?_
 exact hf v u s2 x y H2 I2 r1 r2 q2
def tVar (i:Nat):TE:=fun σ H Q => ∃ v,σ[i]? = some (some v)∧Q v H
def tC (v:V):TE:=fun _ H Q => Q v H
theorem pe_var {i:Nat} {x:Str} {pos:Pos} (hN:X.N[i]? = some x) (hv:Vis X.env.scope x) (hd:(x == ("__debug__" : Str)) = false:=by decide) (hcd:(x == ("__classdict__" : Str)) = false:=by decide):PE X (.Name x pos) (tVar i):=by
 intro pins s σ H Q I h
 obtain ⟨v,e,h⟩:=h
 obtain ⟨m,hn,hl⟩:=I.loc
 obtain ⟨u,r,l⟩:=hl i x v hN e hv
 have fin:EP X pins σ Q u s:=⟨v,H,I,r,h⟩
 rcases l with ⟨hk,hm⟩ | ⟨hk,c,hc,hcell⟩
 ·exact wpAny_Name (wpAny_loadName_local I.ok.kind hk hn hm fin) hd
 ·rcases hk with hk | hk
  ·exact wpAny_Name (wpAny_loadName_cell I.ok.kind hk hc hcell fin) hd
  ·exact wpAny_Name (wpAny_loadName_free I.ok.kind hk hc hcell fin hcd) hd
theorem pe_int {i j pos}:PE X (.Constant (.int i) j pos) (tC (.int i)):=fun _ _ _ H _ I h => wpAny_Constant_int ⟨.int i,H,I.tok _,⟨_,rfl⟩,h⟩
theorem pe_bl {b j pos}:PE X (.Constant (.bool b) j pos) (tC (.bl b)):=fun _ _ _ H _ I h => Constant_bool ⟨.bl b,H,I,rfl,h⟩
theorem pe_non {j pos}:PE X (.Constant .none j pos) (tC .non):=fun _ _ _ H _ I h => Constant_none ⟨.non,H,I,rfl,h⟩
theorem pe_str {x j pos}:PE X (.Constant (.str x) j pos) (tC (.str x)):=fun _ _ _ H _ I h => Calls.Constant_str ⟨.str x,H,I.tok _,⟨_,rfl⟩,h⟩
def Gl (X:Cx) (x:Str):Prop:=X.env.kindOf x = some .globalImplicit
theorem xn {E:Value→Shared→Prop} {pins:List (Addr × Obj)} {s:Shared} {σ:St} {H:Hp} {x:Str} {u:Value} {pos:Pos} {Q:Value→Shared→Prop} (I:Inv X pins σ H s) (hg:Gl X x) (hm:X.mg x = some u) (h:Q u s)
  (hd:(x == ("__debug__" : Str)) = false:=by decide):wpAny (model X.prog X.w) X.A (eval (.Name x pos) X.env) Q E s :=
 Calls.Name_function_global I.ok.kind hg (Calls.loadGlobal_global (by rw [I.ok.glob]; exact I.mod.glob.keeps I.bk) hm h) hd
theorem ZN {E:Value→Shared→Prop} {pins:List (Addr × Obj)} {s:Shared} {σ:St} {H:Hp} {x:Str} {u:Value} {pos:Pos} {Q:Value→Shared→Prop} (I:Inv X pins σ H s) (hg:Gl X x) (hm:X.mg x = none) (hv:bootBuiltins x = some u) (h:Q u s)
  (hn:x ≠ "__name__" := by decide) (hd:(x == ("__debug__" : Str)) = false:=by decide):wpAny (model X.prog X.w) X.A (eval (.Name x pos) X.env) Q E s:=by
 obtain ⟨mb,h1,h2⟩:=I.mod.blt
 exact Calls.Name_function_global I.ok.kind hg (Calls.loadGlobal_builtin (by rw [I.ok.glob]; exact I.mod.glob.keeps I.bk) hm (by rw [I.ok.blt]; exact h1.keeps I.bk) ((h2 x hn).trans hv) h) hd
theorem JZ {x:Str} {v:V} {u:Value} {pos:Pos} (hg:Gl X x) (hm:X.mg x = some u) (r:RelV v u) (hd:(x == ("__debug__" : Str)) = false:=by decide):PE X (.Name x pos) (tC v) :=
 fun _ _ _ H _ I h => xn I hg hm ⟨v,H,I,r,h⟩ hd
theorem pe_bltn {x:Str} {v:V} {u:Value} {pos:Pos} (hg:Gl X x) (hm:X.mg x = none) (hv:bootBuiltins x = some u) (r:RelV v u) (hn:x ≠ "__name__" := by decide) (hd:(x == ("__debug__" : Str)) = false:=by decide):PE X (.Name x pos) (tC v) :=
 fun _ _ _ H _ I h => ZN I hg hm hv ⟨v,H,I,r,h⟩ hn hd
variable {a b:Expr} {ta tb:TE} {pos:Pos}
def PC (X:Cx) (op:CmpOp) (a b:Expr) (t:TE):Prop :=
 ∀ (pins:List (Addr × Obj)) (s:Shared) (σ:St) (H:Hp) (Q:VK),Inv X pins σ H s→t σ H Q →
  wpAny (model X.prog X.w) X.A (eval a X.env) (fun v s₁ => wpAny (model X.prog X.w) X.A (eval b X.env) (fun u s₂ => wpAny (model X.prog X.w) X.A (compareOp op v u) (EP X pins σ Q) X.xe s₂) X.xe s₁) X.xe s
def tB (t:TE):TT:=fun σ H Q => t σ H fun x H1 => ∃ c,x = .bl c∧Q c H1
theorem pt_cmp {op:CmpOp} {t:TE} (h:PC X op a b t) (h1:behindInMarks op b = false:=by first | exact nobehind _ (by decide) (by decide) | rfl):PT X (.Compare a [op] [b] pos) (tB t):=by
 intro pins s σ H Q I hw
 refine wpAny_isTrue_Compare1 (thn (h pins s σ H _ I hw) fun v s1 h1 => thn h1 fun u s2 h2 => thn h2 fun c s3 ⟨x,H1,I1,r1,q1⟩ => ?_) h1
 obtain ⟨d,rfl,q⟩:=q1
 cases r1
 exact wpAny_truthy_bool ⟨H1,I1,q⟩
theorem pt_val {e:Expr} {t:TE} (h:PE X e t) (he:∀ whole,isTrue e X.env whole = (do let v ← whole; standAt e.pos; holding [v] (truthy v)):=by intro _; rfl):PT X e (tB t):=by
 intro pins s σ H Q I hw
 refine isTrue_plain (thn (h pins s σ H _ I hw) fun v s1 ⟨x,H1,I1,r1,q1⟩ => ?_) (he _)
 obtain ⟨d,rfl,q⟩:=q1
 cases r1
 exact wpAny_truthy_bool ⟨H1,I1,q⟩
variable {tA tB':TT} {rest:List Expr}
def tAnd (t u:TT):TT:=fun σ H Q => t σ H fun c H1 => if c = true then u σ H1 Q else Q false H1
def tOr (t u:TT):TT:=fun σ H Q => t σ H fun c H1 => if c = true then Q true H1 else u σ H1 Q
def tNot (t:TT):TT:=fun σ H Q => t σ H fun c H1 => Q (!c) H1
theorem pw_and1 (ha:PT X a tA):PW X (.BoolOp .And [a] pos) tA:=by
 intro wh pins s σ H Q I h
 refine isTrue_and (thn (ha pins s σ H Q I h) fun c s1 e => ?_)
 cases c with
 | true => exact isTrue_and_nil e
 | false => exact e
theorem pw_and (ha:PT X a tA) (hb:PW X (.BoolOp .And (b :: rest) pos) tB'):PW X (.BoolOp .And (a :: b :: rest) pos) (tAnd tA tB'):=by
 intro wh pins s σ H Q I h
 refine isTrue_and (thn (ha pins s σ H _ I h) fun c s1 ⟨H1,I1,q1⟩ => ?_)
 cases c with
 | true => exact hb wh pins s1 σ H1 Q I1 q1
 | false => exact ⟨H1,I1,q1⟩
theorem pt_not (ha:PT X a tA):PT X (.UnaryOp .Not a pos) (tNot tA):=by
 intro pins s σ H Q I h
 exact isTrue_not (ha pins s σ H (fun c H1 => Q (!c) H1) I h)
def zz (ta tb:TE):TE:=fun σ H Q => ta σ H fun x H1 => ∃ c,x = .bl c∧if c = true then tb σ H1 Q else Q (.bl false) H1
def tOrV (ta tb:TE):TE:=fun σ H Q => ta σ H fun x H1 => ∃ c,x = .bl c∧if c = true then Q (.bl true) H1 else tb σ H1 Q
def z0 (ta:TE):TE:=fun σ H Q => ta σ H fun x H1 => ∃ c,x = .bl c∧Q (.bl (!c)) H1
theorem pe_one {op} {t:TE} (h:PE X a t):PE X (.BoolOp op [a] pos) t:=fun pins s σ H Q I hw => BoolOp_one (h pins s σ H Q I hw)
theorem pe_and (ha:PE X a ta) (hb:PE X (.BoolOp .And (b :: rest) pos) tb):PE X (.BoolOp .And (a :: b :: rest) pos) (zz ta tb):=by
 intro pins s σ H Q I h
 refine BoolOp_and (thn (ha pins s σ H _ I h) fun v s1 ⟨x,H1,I1,r1,q1⟩ => ?_)
 obtain ⟨c,rfl,q1⟩:=q1
 cases r1
 refine wpAny_truthy_bool ?_
 cases c with
 | true => exact hb pins s1 σ H1 Q I1 q1
 | false => exact ⟨.bl false,H1,I1,rfl,q1⟩
def tIf (t:TT) (ta tb:TE):TE:=fun σ H Q => t σ H fun c H1 => if c = true then ta σ H1 Q else tb σ H1 Q
theorem pe_ifExp {c:Expr} (hc:PT X c tA) (ha:PE X a ta) (hb:PE X b tb):PE X (.IfExp c a b pos) (tIf tA ta tb):=by
 intro pins s σ H Q I h
 refine wpAny_IfExp (thn (hc pins s σ H _ I h) fun d s1 ⟨H1,I1,q1⟩ => ?_)
 cases d with
 | true => exact ha pins s1 σ H1 Q I1 q1
 | false => exact hb pins s1 σ H1 Q I1 q1
end
def SqL (K:PySem.W.Frag) (H:Hp) (a:Addr) (xs:List V):Prop :=
 Rd H a (.lst xs) ∨
  ∃ (o:Obj) (its:Array Value) (n:Nat),K.lookup a = some o∧o.cls = .type "list" ∧ o.dict = none∧o.data = .seq its n∧its.size≤sizeLine∧Vals xs its.toList
def SqT (K:PySem.W.Frag) (H:Hp) (a:Addr) (xs:List V):Prop :=
 Rd H a (.tup xs) ∨
  ∃ (o:Obj) (its:Array Value) (n:Nat),K.lookup a = some o∧o.cls = .type "tuple" ∧ o.data = .seq its n∧its.size≤sizeLine∧Vals xs its.toList
def absV:Value→Option V
 | .none => some .non
 | .bool b => some (.bl b)
 | .int i _ => some (.int i)
 | .str x _ => some (.str x)
 | .bytes b _ => some (.byt b)
 | .float b _ => some (.flt b)
 | .ref a => some (.ref a)
 | .type n => some (.ty n)
 | _ => none
theorem RelV.abs {x:V} {u:Value} (r:RelV x u):absV u = some x:=by
 cases x with
 | non => cases r; rfl
 | bl _ => cases r; rfl
 | int _ => obtain ⟨t,rfl⟩:=r; rfl
 | str _ => obtain ⟨t,rfl⟩:=r; rfl
 | byt _ => obtain ⟨t,rfl⟩:=r; rfl
 | flt _ => obtain ⟨t,rfl⟩:=r; rfl
 | ref _ => cases r; rfl
 | ty _ => cases r; rfl
theorem RelV.inj {x y:V} {u:Value} (r:RelV x u) (q:RelV y u):x = y:=Option.some.inj (r.abs.symm.trans q.abs)
theorem Vals.inj:∀ {xs ys:List V} {us:List Value},Vals xs us→Vals ys us→xs = ys
 | _,_,_, .nil, .nil => rfl
 | _,_,_, .cons r t, .cons r' t' => by rw [r.inj r',Vals.inj t t']
section
variable {X:Cx} {pins:List (Addr × Obj)} {σ:St} {H:Hp} {s:Shared} {a:Addr} {xs ys:List V}
theorem SqL.of {K:PySem.W.Frag} (h:H a = some (.lst xs)):SqL K H a xs:=.inl (.inl h)
theorem SqT.of {K:PySem.W.Frag} (h:H a = some (.tup xs)):SqT K H a xs:=.inl (.inl h)
theorem Inv.list (I:Inv X pins σ H s) (h:SqL X.K H a xs):∃ its:List Value,Vals xs its∧PlainL s.heap a its.toArray∧xs.length≤sizeLine:=by
 rcases h with h | ⟨o,its,n,hk,hc,hd,hs,hz,r⟩
 ·obtain ⟨z,its,n,r,e⟩:=h.ok I.hok
  exact ⟨its,r,⟨_,n,e,rfl,rfl,rfl⟩,z⟩
 ·refine ⟨its.toList,r,⟨o,n,I.kIn a o hk,hc,hd,by simpa using hs⟩, ?_⟩
  have e:=r.length
  simp only [Array.length_toList] at e
  omega
theorem Inv.tuple (I:Inv X pins σ H s) (h:SqT X.K H a xs):∃ its:List Value,Vals xs its∧IsTup s.heap a its.toArray∧xs.length≤sizeLine:=by
 rcases h with h | ⟨o,its,n,hk,hc,hs,hz,r⟩
 ·obtain ⟨z,its,r,p⟩:=h.ok I.hok
  exact ⟨its,r,p,z⟩
 ·refine ⟨its.toList,r,⟨o,I.kIn a o hk,hc,n,by simpa using hs⟩, ?_⟩
  have e:=r.length
  simp only [Array.length_toList] at e
  omega
theorem Inv.list_inj (I:Inv X pins σ H s) (h:SqL X.K H a xs) (h':SqL X.K H a ys):xs = ys:=by
 obtain ⟨its,r,⟨o,n,e,_,_,d⟩,_⟩:=I.list h
 obtain ⟨its',r',⟨o',n',e',_,_,d'⟩,_⟩:=I.list h'
 rw [e] at e'; cases e'
 rw [d] at d'
 injection d' with d1 _
 have:its = its':=by simpa using congrArg Array.toList d1
 subst this
 exact r.inj r'
end
abbrev Cx.wish (X:Cx) (E:Value→Shared→Prop):Cx:={ X with xe:=E }
abbrev Cx.nox (X:Cx):Cx:=X.wish fun _ _ => False
theorem Cx.Ok.wish {X:Cx} (ok:X.Ok) (E:Value→Shared→Prop):(X.wish E).Ok :=
 ⟨ok.mod,ok.kind,ok.glob,ok.blt,ok.above,ok.inj,ok.has,ok.cab,ok.hd,ok.frames,ok.stk,ok.exf,ok.bs,ok.bsz,ok.noex,ok.exfs,ok.funs,ok.frf⟩
theorem Cx.Ok.unwish {X:Cx} {E:Value→Shared→Prop} (ok:(X.wish E).Ok):X.Ok :=
 ⟨ok.mod,ok.kind,ok.glob,ok.blt,ok.above,ok.inj,ok.has,ok.cab,ok.hd,ok.frames,ok.stk,ok.exf,ok.bs,ok.bsz,ok.noex,ok.exfs,ok.funs,ok.frf⟩
section
variable {X:Cx} {pins:List (Addr × Obj)} {σ:St} {H:Hp} {s:Shared} {E:Value→Shared→Prop}
theorem Inv.wish (I:Inv X pins σ H s) (E:Value→Shared→Prop):Inv (X.wish E) pins σ H s:=⟨I.ok.wish E,I.os,I.bare,I.base,I.loc,I.cell,I.free,I.freeC,I.pin,I.hok,I.len⟩
theorem Inv.unwish (I:Inv (X.wish E) pins σ H s):Inv X pins σ H s:=⟨I.ok.unwish,I.os,I.bare,I.base,I.loc,I.cell,I.free,I.freeC,I.pin,I.hok,I.len⟩
theorem SP.unwish {D:Ends} {f:Flow} {s':Shared} (h:SP (X.wish E) pins D f s'):SP X pins D f s':=by
 cases f with
 | next => obtain ⟨σ',H',I,q⟩:=h; exact ⟨σ',H',I.unwish,q⟩
 | brk => obtain ⟨σ',H',I,q⟩:=h; exact ⟨σ',H',I.unwish,q⟩
 | cont => obtain ⟨σ',H',I,q⟩:=h; exact ⟨σ',H',I.unwish,q⟩
 | ret u => obtain ⟨v,σ',H',I,r,q⟩:=h; exact ⟨v,σ',H',I.unwish,r,q⟩
theorem PE.nox {e:Expr} {t:TE} (h:PE X.nox e t):PE X e t:=fun pins s σ H Q I hw =>
 wpAny_mono (h pins s σ H Q (I.wish _) hw) (fun _ _ ⟨v,H',I',r,q⟩ => ⟨v,H',I'.unwish,r,q⟩) fun _ _ z => False.elim z
theorem PT.nox {e:Expr} {t:TT} (h:PT X.nox e t):PT X e t:=fun pins s σ H Q I hw =>
 wpAny_mono (h pins s σ H Q (I.wish _) hw) (fun _ _ ⟨H',I',q⟩ => ⟨H',I'.unwish,q⟩) fun _ _ z => False.elim z
theorem PSs.nox {st:List Stmt} {t:TS} (h:PSs X.nox st t):PSs X st t:=fun pins s σ H D I hw =>
 wpAny_mono (h pins s σ H D (I.wish _) hw) (fun _ _ q => q.unwish) fun _ _ z => False.elim z
end
section
variable {X:Cx} {st:Stmt} {rest:List Stmt} {t u:TS} {e:Expr} {te:TE} {pos:Pos}
def zn:TS:=fun D σ H => D.nx σ H
def tSeq (t u:TS):TS:=fun D σ H => t { D with nx:=u D } σ H
theorem pss_nil:PSs X [] zn:=fun _ _ σ H _ I h => wpAny_execs_nil ⟨σ,H,I,h⟩
theorem pss_cons (h1:PS X st t) (h2:PSs X rest u):PSs X (st :: rest) (tSeq t u):=by
 intro pins s σ H D I h
 refine wpAny_execs_cons (thn (h1 pins s σ H { D with nx:=u D } I h) fun f s1 q => ?_)
 cases f with
 | next =>
  obtain ⟨σ',H',I',q⟩:=q
  exact h2 pins s1 σ' H' D I' q
 | ret v => exact q
 | brk => exact q
 | cont => exact q
theorem pss_one (h1:PS X st t):PSs X [st] t:=by
 intro pins s σ H D I h
 refine wpAny_execs_cons (thn (h1 pins s σ H D I h) fun f s1 q => ?_)
 cases f with
 | next => exact wpAny_execs_nil q
 | ret v => exact q
 | brk => exact q
 | cont => exact q
theorem Inv.quiet {pins:List (Addr × Obj)} {σ:St} {H:Hp} {s:Shared} (I:Inv X pins σ H s):interactive X.env = false:=by simp [interactive,I.ok.kind]
def zy (te:TE):TS:=fun D σ H => te σ H fun _ H1 => D.nx σ H1
theorem ps_expr (he:PE X e te) (hs:swapsWith e none pos.line X.env = pure false:=by rfl):PS X (.Expr e pos) (zy te):=by
 intro pins s σ H D I h
 exact wpAny_Expr_any (thn (he pins s σ H _ I h) fun v s1 ⟨x,H1,I1,r1,q1⟩ => ⟨σ,H1,I1,q1⟩) I.quiet hs
def tRet (te:TE):TS:=fun D σ H => te σ H D.rt
theorem ps_ret (he:PE X e te):PS X (.Return (some e) pos) (tRet te):=by
 intro pins s σ H D I h
 exact wpAny_Return_some (thn (he pins s σ H _ I h) fun v s1 ⟨x,H1,I1,r1,q1⟩ => ⟨x,σ,H1,I1,r1,q1⟩)
def zw:TS:=fun D _ H => D.rt .non H
theorem ps_retN:PS X (.Return none pos) zw:=fun _ _ σ H _ I h => wpAny_Return_none ⟨.non,σ,H,I,rfl,h⟩
def tIfS (c:TT) (t u:TS):TS:=fun D σ H => c σ H fun b H1 => if b = true then t D σ H1 else u D σ H1
theorem ps_if {c:Expr} {a b:List Stmt} {tc:TT} (hc:PT X c tc) (ha:PSs X a t) (hb:PSs X b u):PS X (.If c a b pos) (tIfS tc t u):=by
 intro pins s σ H D I h
 refine wpAny_If (thn (hc pins s σ H _ I h) fun d s1 ⟨H1,I1,q1⟩ => ?_)
 cases d with
 | true => exact ha pins s1 σ H1 D I1 q1
 | false => exact hb pins s1 σ H1 D I1 q1
end
abbrev TG:=V→St→Hp→(St→Hp→Prop)→Prop
abbrev TGs:=List V→St→Hp→(St→Hp→Prop)→Prop
def PG (X:Cx) (target:Expr) (t:TG):Prop :=
 ∀ (pins:List (Addr × Obj)) (s:Shared) (σ:St) (H:Hp) (v:V) (u:Value) (Q:St→Hp→Prop),Inv X pins σ H s→RelV v u→t v σ H Q →
  wpAny (model X.prog X.w) X.A (assign target X.env u) (fun _ s' => ∃ σ' H',Inv X pins σ' H' s'∧Q σ' H') X.xe s
def PGs (X:Cx) (ts:List Expr) (t:TGs):Prop :=
 ∀ (pins:List (Addr × Obj)) (s:Shared) (σ:St) (H:Hp) (vs:List V) (us:List Value) (Q:St→Hp→Prop),Inv X pins σ H s→Vals vs us→t vs σ H Q →
  wpAny (model X.prog X.w) X.A (assignInOrder ((assignEach ts X.env).map (·.2)) us) (fun _ s' => ∃ σ' H',Inv X pins σ' H' s'∧Q σ' H') X.xe s
abbrev TSet:=V→V→V→Hp→(Hp→Prop)→Prop
def PSet (X:Cx) (t:TSet):Prop :=
 ∀ (pins:List (Addr × Obj)) (s:Shared) (σ:St) (H:Hp) (o i v:V) (ov iv u:Value) (Q:Hp→Prop),Inv X pins σ H s→RelV o ov→RelV i iv→RelV v u→t o i v H Q →
  wpAny (model X.prog X.w) X.A (setItem ov iv u) (fun _ s' => ∃ H',Inv X pins σ H' s'∧Q H') X.xe s
section
variable {X:Cx} {pos:Pos}
def qE (i:Nat):TG:=fun v σ H Q => Q (σ.set i (some v)) H
theorem jt {i:Nat} {x:Str} (hN:X.N.Nodup) (hi:X.N[i]? = some x) (hx:Loc X.env.scope x) (hf:X.fn x = true∨X.env.scope.names.lookup x = some .local:=by first | exact .inl rfl | exact .inr rfl | assumption):PG X (.Name x pos) (qE i):=by
 intro pins s σ H v u Q I r h
 exact wpAny_assign_Name (xw I hN hi hx r (fun s' I' => ⟨_,H,I',h⟩) hf)
def gNil:TGs:=fun vs σ H Q => vs = []∧Q σ H
def vq (t:TG) (u:TGs):TGs:=fun vs σ H Q => ∃ v r,vs = v :: r∧t v σ H fun σ' H' => u r σ' H' Q
theorem JY:PGs X [] gNil:=by
 intro pins s σ H vs us Q I r h
 obtain ⟨e,h⟩:=h
 subst e
 cases r
 exact assignInOrder_nil ⟨σ,H,I,h⟩
theorem jb {e:Expr} {es:List Expr} {t:TG} {u:TGs} (h1:PG X e t) (h2:PGs X es u)
  (hs:(assignEach (e :: es) X.env).map (·.2) = assign e X.env :: (assignEach es X.env).map (·.2):=by rfl):PGs X (e :: es) (vq t u):=by
 intro pins s σ H vs us Q I r h
 obtain ⟨v,vr,e1,h⟩:=h
 subst e1
 cases r with
 | cons r rr =>
  rw [hs]
  refine assignInOrder_cons (thn (h1 pins s σ H _ _ _ I r h) fun _ s1 ⟨σ1,H1,I1,q1⟩ => ?_)
  exact h2 pins s1 σ1 H1 _ _ Q I1 rr q1
def gTup (K:PySem.W.Frag) (n:Nat) (t:TGs):TG:=fun v σ H Q => ∃ a xs,v = .ref a∧SqT K H a xs∧xs.length = n∧t xs σ H Q
theorem pg_tup {es:List Expr} {k:Nat} {t:TGs} {n:Nat} (hc:X.calm = true) (h:PGs X es t)
  (hn:(assignEach es X.env).length = n:=by rfl) (hst:(assignEach es X.env).findIdx? (·.1) = none:=by rfl):PG X (.Tuple es k pos) (gTup X.K n t):=by
 intro pins s σ H v u Q I r hw
 obtain ⟨a,xs,e1,hq,hl,hw⟩:=hw
 subst e1
 cases r
 obtain ⟨its,rv,ht,hz⟩:=I.tuple hq
 refine assign_Tuple_tuple (I.ok.hd hc) ht (by simp [hn, ← hl,rv.length]) hst fun h' hx => ?_
 have I1:Inv X pins σ H { s with heap:=h' }:=I.kept (t':=s.toks) fun b o e => hx b o (Nat.ne_of_lt (Heap.lt_size e)) e
 exact h pins _ σ H xs _ Q I1 (by simpa using rv) hw
def gSub (to ti:TE) (t:TSet):TG:=fun v σ H Q => to σ H fun o H1 => ti σ H1 fun i H2 => t o i v H2 fun H3 => Q σ H3
theorem pg_sub {o i:Expr} {to ti:TE} {t:TSet} (ho:PE X o to) (hi:PE X i ti) (hs:PSet X t)
  (ha:∀ v,assign (.Subscript o i pos) X.env v = (do
   let ov ← holding [v] (eval o X.env)
   let iv ← holding [v,ov] (eval i X.env)
   standAt pos
   holding [v,ov,iv] (setItem ov iv v)
   release [v,ov,iv] []):=by intro _; rfl):PG X (.Subscript o i pos) (gSub to ti t):=by
 intro pins s σ H v u Q I r h
 rw [ha]
 refine wpAny_bind (wpAny_holding (thn (ho pins s σ H _ I h) fun ov s1 ⟨x,H1,I1,r1,q1⟩ => ?_))
 refine wpAny_bind (wpAny_holding (thn (hi pins s1 σ H1 _ I1 q1) fun iv s2 ⟨y,H2,I2,r2,q2⟩ => ?_))
 refine wpAny_bind (wpAny_standAt (wpAny_bind (wpAny_holding (thn (hs pins s2 σ H2 x y v ov iv u _ I2 r1 r2 r q2) fun _ s3 ⟨H3,I3,q3⟩ => ?_))))
 exact wpAny_release ⟨σ,H3,I3,q3⟩
def tAsg (te:TE) (g:TG):TS:=fun D σ H => te σ H fun x H1 => g x σ H1 D.nx
theorem ps_asg {tg e:Expr} {te:TE} {g:TG} (he:PE X e te) (hg:PG X tg g) (hs:swapsWithSole [tg] e pos.line X.env = pure false:=by rfl) (hw:swappedStores [tg] e X.env = pure none:=by rfl)
  (h1:(assignEach [tg] X.env).map (·.2) = [assign tg X.env]:=by rfl):PS X (.Assign [tg] e pos) (tAsg te g):=by
 intro pins s σ H D I h
 refine wpAny_Assign_stores (thn (he pins s σ H _ I h) fun v s1 ⟨x,H1,I1,r1,q1⟩ => ?_) hs hw
 rw [h1]
 exact thn (hg pins s1 σ H1 x v _ I1 r1 q1) fun _ s2 q => q
theorem ps_set {i:Nat} {x:Str} {e:Expr} {te:TE} {pos':Pos} (hN:X.N.Nodup) (hi:X.N[i]? = some x) (hx:Loc X.env.scope x) (he:PE X e te) (hs:swapsWith e (some (.Name x pos')) pos.line X.env = pure false:=by rfl) (hf:X.fn x = true∨X.env.scope.names.lookup x = some .local:=by first | exact .inl rfl | exact .inr rfl | assumption) :
  PS X (.Assign [.Name x pos'] e pos) (tAsg te (qE i)):=by
 intro pins s σ H D I h
 refine wpAny_Assign_Name (thn (he pins s σ H _ I h) fun v s1 ⟨y,H1,I1,r1,q1⟩ => ?_) hs
 exact xw I1 hN hi hx r1 (fun s2 I2 => ⟨_,H1,I2,q1⟩) hf
def tPar (i j:Nat) (ta:TA):TS:=fun D σ H => ta σ H fun vs H1 => ∃ v w,vs = [v,w]∧D.nx ((σ.set i (some v)).set j (some w)) H1
theorem ps_par {i j:Nat} {x y:Str} {a b:Expr} {ta:TA} {px py pt:Pos} {kt k2 pt2} (hc:X.calm = true) (hN:X.N.Nodup) (hi:X.N[i]? = some x) (hj:X.N[j]? = some y) (hij:i≠j)
  (hx:X.env.scope.names.lookup x = some .local) (hy:X.env.scope.names.lookup y = some .local) (ha:PA X [a,b] ta)
  (hw:swappedStores [.Tuple [.Name x px, .Name y py] kt pt] (.Tuple [a,b] k2 pt2) X.env = pure (some [x,y]))
  (hs:swapsWithSole [.Tuple [.Name x px, .Name y py] kt pt] (.Tuple [a,b] k2 pt2) pos.line X.env = pure false:=by rfl) :
  PS X (.Assign [.Tuple [.Name x px, .Name y py] kt pt] (.Tuple [a,b] k2 pt2) pos) (tPar i j ta):=by
 intro pins s σ H D I h
 rw [exec_Assign_arm]
 refine wpAny_bind (wpAny_standAt ?_)
 rw [hs]
 refine wpAny_bind (wpAny_pure ?_)
 rw [if_neg (by decide)]
 refine wpAny_bind (Tuple_ (thn (ha _ pins s σ H _ I h) fun us s1 ⟨vs,H1,I1,r1,q1⟩ => ?_))
 obtain ⟨v,w,e1,q1⟩:=q1
 subst e1
 obtain ⟨u1,u2,rfl,rv,rw'⟩:∃ u1 u2,us = [u1,u2]∧RelV v u1∧RelV w u2:=by
  cases r1 with
  | cons p q =>
   cases q with
   | cons p' q' =>
    cases q'
    exact ⟨_,_,rfl,p,p'⟩
 refine wpAny_newObj_type ?_ (by show 2≤sizeLine; decide)
 have I2:Inv X pins σ H1 { s1 with heap:=s1.heap.push { cls:=.type "tuple", data:=.seq [u1,u2].toArray } }:=I1.kept (t':=s1.toks) fun b o e => Heap.get?_push_of_some _ e
 rw [hw]
 refine wpAny_bind (wpAny_pure ?_)
 show wpAny (model X.prog X.w) X.A (do rule "assign.swapped-stores"; let items ← unpackItems (.ref s1.heap.objs.size) 2 none; assignInOrder [fun v => bindName X.env y v,fun v => bindName X.env x v] items.reverse; pure Flow.next) _ _ _
 refine wpAny_bind (wpAny_rule (wpAny_bind (unpackItems_tuple (items:=#[u1,u2]) (I.ok.hd hc) (IsTup.new s1.heap _) fun h' hx' => ?_)))
 have I3:=I2.kept (h':=h') (t':=s1.toks) fun b o e => hx' b o (Nat.ne_of_lt (Heap.lt_size e)) e
 show wpAny _ _ (assignInOrder [fun v => bindName X.env y v,fun v => bindName X.env x v] [u2,u1] >>= fun _ => pure Flow.next) _ _ _
 refine wpAny_bind (assignInOrder_cons (wpAny_bindName (xw I3 hN hj (.inl hy) rw' (fun s2 I4 => ?_) (.inr hy))))
 refine assignInOrder_cons (wpAny_bindName (xw I4 hN hi (.inl hx) rv (fun s3 I5 => assignInOrder_nil (wpAny_pure ?_)) (.inr hx)))
 rw [List.set_comm _ _ (Ne.symm hij)] at I5
 exact ⟨_,H1,I5,q1⟩
end
section
variable {X:Cx} {pos:Pos}
def Zl (c:TT) (tb:TS):TS:=fun D σ H => ∃ W:Nat→St→Hp→Prop,(∃ m,W m σ H)∧∀ m σ H,W m σ H →
 c σ H fun b H1 => if b = true then ∃ N:St→Hp→Prop,(∀ σ' H',N σ' H'→∃ m',m' < m∧W m' σ' H')∧tb { D with nx:=N,ct:=N,bk:=D.nx } σ H1 else D.nx σ H1
theorem ps_while {c:Expr} {body:List Stmt} {tc:TT} {tb:TS} (hp:PassesOwn (model X.prog X.w) X.A X.env X.xe) (hc:PT X c tc) (hb:PSs X body tb):PS X (.While c body [] pos) (Zl tc tb):=by
 intro pins s σ H D I h
 obtain ⟨W,⟨m0,w0⟩,turn⟩:=h
 refine wpAny_While (codeAny_whileLoop (fun n s' => ∃ σ' H',Inv X pins σ' H' s'∧W n σ' H') ?_ m0 ⟨σ,H,I,w0⟩)
 rintro n s1 ⟨σ1,H1,I1,w1⟩
 refine wpAny_passesOwn hp (thn (hc pins s1 σ1 H1 _ I1 (turn n σ1 H1 w1)) fun b s2 ⟨H2,I2,q2⟩ => ?_)
 cases b with
 | true =>
  obtain ⟨N,hN,q2⟩:=q2
  rw [if_pos rfl]
  refine wpAny_passesOwn hp (thn (hb pins s2 σ1 H2 _ I2 q2) fun f s3 q3 => ?_)
  cases f with
  | next =>
   obtain ⟨σ3,H3,I3,n3⟩:=q3
   obtain ⟨m',hm,w3⟩:=hN σ3 H3 n3
   exact ⟨m',hm,σ3,H3,I3,w3⟩
  | cont =>
   obtain ⟨σ3,H3,I3,n3⟩:=q3
   obtain ⟨m',hm,w3⟩:=hN σ3 H3 n3
   exact ⟨m',hm,σ3,H3,I3,w3⟩
  | brk => exact q3
  | ret v => exact q3
 | false =>
  rw [if_neg Bool.false_ne_true]
  exact wpAny_execs_nil ⟨σ1,H2,I2,q2⟩
end
structure It where
 go:Nat→Hp→Prop
 yld:Nat→Hp→V→Hp→Prop
 stop:Nat→Hp→Prop
def FpOk (X:Cx) (pins:List (Addr × Obj)) (H:Hp) (b:Addr):Prop :=
 H b = none∧b≠X.env.locals∧b ∉ X.fs∧(b ∈ X.ex∨X.s₀.heap.objs.size≤b)∧(∀ x c,X.env.cells.lookup x = some c→c≠b)∧∀ p ∈ X.pn ++ pins,p.1≠b
theorem Inv.fpOk {X:Cx} {pins:List (Addr × Obj)} {σ:St} {H H':Hp} {s:Shared} {b:Addr} (I:Inv X pins σ H s) (hb:s.heap.objs.size≤b) (hn:H' b = none):FpOk X pins H' b:=by
 refine ⟨hn,Nat.ne_of_gt (Nat.lt_of_lt_of_le I.lt hb),I.nofs hb, .inr (Nat.le_trans I.sz hb),fun x c e z => ?_,fun p hp z => ?_⟩
 ·obtain ⟨v,q⟩:=I.cell x c e
  exact absurd (Nat.lt_of_lt_of_le q.lt (by rw [z]; exact hb)) (Nat.lt_irrefl _)
 ·exact absurd (Nat.lt_of_lt_of_le (Heap.lt_size (I.pin p hp).1) (by rw [z]; exact hb)) (Nat.lt_irrefl _)
structure Turn (P:Program) (w:World) (K:PySem.W.Frag) (tg:Expr) (J:It) (fp:List Addr) (it:Addr) (tn:Nat→Heap→Prop):Prop where
 mem:it ∈ fp
 obj:∀ i h,tn i h→∀ b ∈ fp,∃ o,h.get? b = some o∧∀ v,o.data ≠ .cell v
 keep:∀ i h h',tn i h→(∀ b ∈ fp,∀ o,h.get? b = some o→h'.get? b = some o)→tn i h'
 item:∀ (X:Cx),X.prog = P→X.w = w→X.K = K→X.calm = true→∀ (i:Nat) (pins:List (Addr × Obj)) (s:Shared) (σ:St) (H:Hp) (E:Value→Shared→Prop),Inv X pins σ H s→(∀ b ∈ fp,FpOk X pins H b)→tn i s.heap→J.go i H →
  wpAny (model P w) X.A (pyNext (.ref it)) (fun r s1 => ∃ u,r = some u ∧
   wpAny (model P w) X.A (letOwnedTupleGo tg (.ref it) u) (fun _ s2 => ∃ x H',Inv X pins σ H' s2∧RelV x u∧J.yld i H x H'∧tn (i + 1) s2.heap∧∀ b ∈ fp,H' b = none) E s1) E s
 done:∀ (X:Cx),X.prog = P→X.w = w→X.K = K→X.calm = true→∀ (i:Nat) (pins:List (Addr × Obj)) (s:Shared) (σ:St) (H:Hp) (E:Value→Shared→Prop),Inv X pins σ H s→(∀ b ∈ fp,FpOk X pins H b)→tn i s.heap→J.stop i H →
  wpAny (model P w) X.A (pyNext (.ref it)) (fun r s1 => r = none∧Inv X pins σ H s1) E s
 self:∀ (A:Around) (i:Nat) (s:Shared) (Q:Value→Shared→Prop) (E:Value→Shared→Prop),tn i s.heap→Q (.ref it) s→wpAny (model P w) A (pyIter (.ref it)) Q E s
abbrev TI:=St→Hp→(It→Hp→Prop)→Prop
def PIE (X:Cx) (pins:List (Addr × Obj)) (σ:St) (tg:Expr) (R:It→Hp→Prop) (itv:Value) (s2:Shared):Prop :=
 ∃ (it:Addr) (fp:List Addr) (tn:Nat→Heap→Prop) (J:It) (H':Hp),itv = .ref it∧Inv X pins σ H' s2∧Turn X.prog X.w X.K tg J fp it tn∧tn 0 s2.heap∧(∀ b ∈ fp,FpOk X pins H' b)∧R J H'
def PI (X:Cx) (tg iter:Expr) (wi:TI):Prop :=
 ∀ (pins:List (Addr × Obj)) (s:Shared) (σ:St) (H:Hp) (R:It→Hp→Prop),Inv X pins σ H s→wi σ H R →
  wpAny (model X.prog X.w) X.A (eval iter X.env) (fun v s1 => wpAny (model X.prog X.w) X.A (pyIter v) (PIE X pins σ tg R) X.xe s1) X.xe s
theorem go_of {M:Model} {A:Around} {E:Value→Shared→Prop} {s:Shared} {tg:Expr} {it:Addr} {u:Value} {o:Obj} {n:String} {vs:Array Value} {Q:Unit→Shared→Prop} (ho:s.heap.get? it = some o) (hc:o.cls = .type n) (hd:o.data = .fields vs)
  (hn:["enumerate", "zip", "dict_itemiterator", "dict_reverseitemiterator", "odict_iterator", "itertools.zip_longest", "itertools.pairwise"].contains n = false) (hQ:Q () s):wpAny M A (letOwnedTupleGo tg (.ref it) u) Q E s:=by
 unfold letOwnedTupleGo
 cases tg <;> first
  | exact wpAny_pure hQ
  | (cases u <;> first
    | exact wpAny_pure hQ
    | (refine wpAny_bind (wpAny_load ho ?_)
       rw [hc,hd]
       show wpAny M A (if (["enumerate", "zip", "dict_itemiterator", "dict_reverseitemiterator", "odict_iterator", "itertools.zip_longest", "itertools.pairwise"].contains n && vs[0]? == some (rawInt _)) = true then _ else _) Q E s
       rw [if_neg (by intro h; rw [hn,Bool.false_and] at h; cases h)]
       exact wpAny_pure hQ))
def Itl (K:PySem.W.Frag) (a:Addr):It :=
 ⟨fun i H => ∃ xs x,SqL K H a xs∧xs[i]? = some x,fun i H x H' => H' = H∧∀ xs,SqL K H a xs→xs[i]? = some x,fun i H => ∃ xs,SqL K H a xs∧xs.length≤i⟩
def Itr (lo:Int) (n:Nat):It:=⟨fun i _ => i < n,fun i H x H' => H' = H∧x = .int (lo + i),fun i _ => n≤i⟩
theorem X7 {P:Program} {w:World} {K:PySem.W.Frag} {tg:Expr} (a it:Addr):Turn P w K tg (Itl K a) [it] it (fun i h => h.IsListIter it a i) where
 mem:=by simp
 obj:=fun i h st b hb => by
  have e:b = it:=by simpa using hb
  subst e
  obtain ⟨o,e,c,d⟩:=st
  exact ⟨o,e,fun v z => by rw [d] at z; cases z⟩
 keep:=fun i h h' st k => st.at fun o e => k it (by simp) o e
 item:=by
  intro X hP hw hK hc i pins s σ H E I hf st hg
  subst hP hw hK
  obtain ⟨xs,x,hq,hx⟩:=hg
  obtain ⟨its,rv,p,hz⟩:=I.list hq
  obtain ⟨u,hu,ru⟩:=rv.get hx
  obtain ⟨f0,f1,f2,f3,f4,f5⟩:=hf it (by simp)
  refine wpAny_pyNext_list_item st p.isList (x:=u) (by simpa using hu) fun h' st' sb => ?_
  have I1:Inv X pins σ H { s with heap:=h' }:=I.turned (t':=s.toks) (fun b o hb e => (sb.2 b hb).trans e) f0 f1 f3 f4 f5
  obtain ⟨o,e,c,d⟩:=id st'
  exact ⟨u,rfl,go_of (s:={ s with heap:=h' }) e c d (by decide) ⟨x,H,I1,ru,⟨rfl,fun ys hy => by rw [I.list_inj hy hq]; exact hx⟩,st',fun b hb => (hf b hb).1⟩⟩
 done:=by
  intro X hP hw hK hc i pins s σ H E I hf st hg
  subst hP hw hK
  obtain ⟨xs,hq,hx⟩:=hg
  obtain ⟨its,rv,p,hz⟩:=I.list hq
  obtain ⟨f0,f1,f2,f3,f4,f5⟩:=hf it (by simp)
  have hl:=rv.length
  exact wpAny_pyNext_list_end (I.ok.hd hc) st p.isList (by simp; omega) fun h' eb => ⟨rfl,I.turned (t':=s.toks) (fun b o hb e => eb b o hb e) f0 f1 f3 f4 f5⟩
 self:=fun _ _ _ _ _ st h => wpAny_pyIter_listiter st h
theorem Xh {P:Program} {w:World} {K:PySem.W.Frag} {tg:Expr} (it:Addr) (lo:Int) (n:Nat):Turn P w K tg (Itr lo n) [it] it (fun i h => IsRangeIter h it (lo + (i:Nat) * 1) ((n:Int) - (i:Nat)) 1) where
 mem:=by simp
 obj:=fun i h st b hb => by
  have e:b = it:=by simpa using hb
  subst e
  exact ⟨_,st,fun v z => by
   have z':Data.fields _ = Data.cell v:=z
   cases z'⟩
 keep:=fun i h h' st k => k it (by simp) _ st
 item:=by
  intro X hP hw hK hc i pins s σ H E I hf st hg
  subst hP hw hK
  obtain ⟨f0,f1,f2,f3,f4,f5⟩:=hf it (by simp)
  have W:=Walks.range (prog:=X.prog) (w:=X.w) (I.ok.hd hc) it lo 1 n
  refine W.item i s _ _ hg st fun v h' tk hv st' kk => ?_
  obtain ⟨t,rfl⟩:=hv
  have I1:Inv X pins σ H { s with heap:=h',toks:=tk }:=I.turned (fun b o hb e => kk b o (by simpa using hb) e) f0 f1 f3 f4 f5
  refine ⟨_,rfl,go_of (s:={ s with heap:=h',toks:=tk }) (n := "range_iterator") st' rfl rfl (by decide) ⟨.int (lo + i),H,I1,⟨t, ?_⟩,⟨rfl,rfl⟩,st',fun b hb => (hf b hb).1⟩⟩
  rw [Int.mul_one]
 done:=by
  intro X hP hw hK hc i pins s σ H E I hf st hg
  subst hP hw hK
  obtain ⟨f0,f1,f2,f3,f4,f5⟩:=hf it (by simp)
  exact wpAny_pyNext_range_end (I.ok.hd hc) st (by have:n≤i:=hg; omega) fun h' eb => ⟨rfl,I.turned (t':=s.toks) (fun b o hb e => eb b o hb e) f0 f1 f3 f4 f5⟩
 self:=fun _ _ _ _ _ st h => wpAny_pyIter_rangeiter st h
section
variable {X:Cx} {tg:Expr}
def XQ (K:PySem.W.Frag) (tl:TE):TI:=fun σ H R => tl σ H fun x H1 => ∃ a,x = .ref a∧(∃ xs,SqL K H1 a xs)∧R (Itl K a) H1
theorem pi_list {l:Expr} {tl:TE} (hl:PE X l tl):PI X tg l (XQ X.K tl):=by
 intro pins s σ H R I h
 refine thn (hl pins s σ H _ I h) fun v s1 ⟨x,H1,I1,r1,q1⟩ => ?_
 obtain ⟨a,e,⟨xs,hq⟩,q⟩:=q1
 subst e
 cases r1
 obtain ⟨its,rv,p,hz⟩:=I1.list hq
 refine wpAny_pyIter_list p.isList ?_
 refine ⟨s1.heap.objs.size, [s1.heap.objs.size],_,_,H1,rfl,I1.kept (t':=s1.toks) fun b o e => Heap.get?_push_of_some _ e,X7 a _,⟨_,Heap.get?_push_size _ rfl,rfl,rfl⟩,fun b hb => ?_,q⟩
 have e:b = s1.heap.objs.size:=by simpa using hb
 subst e
 exact I1.fpOk (Nat.le_refl _) (I1.hok.fresh (Nat.le_refl _))
theorem range_it {pins:List (Addr × Obj)} {σ:St} {H:Hp} {s:Shared} {R:It→Hp→Prop} {E:Value→Shared→Prop} {lo hi:Int} {t u v:Tok} {tk:Nat} (I:Inv X pins σ H s) (h1 : -(2 ^ 62)≤lo) (h2:lo < 2 ^ 62) (h3 : -(2 ^ 62)≤hi) (h4:hi < 2 ^ 62)
  (q:R (Itr lo (hi - lo).toNat) H):wpAny (model X.prog X.w) X.A (pyIter (.ref s.heap.objs.size)) (PIE X pins σ tg R) E { s with heap:=s.heap.push { cls:=.type "range", data:=.fields #[.int lo t, .int hi u, .int 1 v] },toks:=tk }:=by
 refine wpAny_pyIter_range (IsRange.new ..) (small_one h1 h2 h3 h4) ?_
 have I1:Inv X pins σ H { s with heap:=s.heap.push { cls:=.type "range", data:=.fields #[.int lo t, .int hi u, .int 1 v] },toks:=tk }:=I.kept fun b o e => Heap.get?_push_of_some _ e
 refine ⟨(s.heap.push { cls:=.type "range", data:=.fields #[.int lo t, .int hi u, .int 1 v] }).objs.size, [(s.heap.push { cls:=.type "range", data:=.fields #[.int lo t, .int hi u, .int 1 v] }).objs.size],_,_,H,rfl,
  I1.kept (t':=tk) fun b o e => Heap.get?_push_of_some _ e,Xh _ lo (hi - lo).toNat, ?_,fun b hb => ?_,q⟩
 ·have e1:lo + ((0:Nat):Int) * 1 = lo:=by simp
  have e2:(((hi - lo).toNat:Nat):Int) - ((0:Nat):Int) = Builtin.Range.rangeSize lo hi 1:=by rw [rangeSize_one]; split <;> omega
  show IsRangeIter _ _ (lo + ((0:Nat):Int) * 1) ((((hi - lo).toNat:Nat):Int) - ((0:Nat):Int)) 1
  rw [e1,e2]
  exact Heap.get?_push_size _ rfl
 ·have e:b = (s.heap.push { cls:=.type "range", data:=.fields #[.int lo t, .int hi u, .int 1 v] }).objs.size:=by simpa using hb
  subst e
  exact I1.fpOk (Nat.le_refl _) (I1.hok.fresh (Nat.le_refl _))
def KM (ta:TA):TI:=fun σ H R => ta σ H fun vs H1 => ∃ j:Int,vs = [.int j] ∧ -(2 ^ 62)≤j∧j < 2 ^ 62∧R (Itr 0 j.toNat) H1
theorem JX {a:Expr} {ta:TA} {p pos:Pos} (hg:Gl X "range") (hm:X.mg "range" = none) (ha:PA X [a] ta) (hs:starEach [a] X.env = [(false,eval a X.env)]:=by rfl):PI X tg (.Call (.Name "range" p) [a] [] pos) (KM ta):=by
 intro pins s σ H R I h
 refine Call_ (ZN I hg hm boot_range (PyProof.Rows.callWith_type1 (thn (ha pos pins s σ H _ I h) fun us s1 ⟨vs,H1,I1,r1,q1⟩ => ?_) hs rfl))
 obtain ⟨j,e,q1,q2,q⟩:=q1
 subst e
 cases r1 with
 | cons r rr =>
  cases rr
  obtain ⟨t,rfl⟩:=r
  exact call_range_1 (range_it I1 (by omega) (by omega) q1 q2 (by simpa using q))
def tFor (wi:TI) (g:TG) (tb:TS):TS:=fun D σ H => wi σ H fun J H1 => ∃ W:Nat→Nat→St→Hp→Prop,(∃ m,W 0 m σ H1)∧∀ i m σ H,W i m σ H →
 (J.stop i H∧D.nx σ H)∨(J.go i H∧∃ N:St→Hp→Prop,(∀ σ' H',N σ' H'→∃ m',m' < m∧W (i + 1) m' σ' H')∧∀ x H',J.yld i H x H'→g x σ H' fun σ2 H2 => tb { D with nx:=N,ct:=N,bk:=D.nx } σ2 H2)
def QK (fp:List Addr) (h:Heap):List (Addr × Obj):=fp.filterMap fun b => (h.get? b).map fun o => (b,o)
theorem xC {fp:List Addr} {h:Heap} {b:Addr} {o:Obj} (hb:b ∈ fp) (e:h.get? b = some o):(b,o) ∈ QK fp h:=List.mem_filterMap.mpr ⟨b,hb,by rw [e]; rfl⟩
theorem Ki {fp:List Addr} {h:Heap} {p:Addr × Obj} (hp:p ∈ QK fp h):p.1 ∈ fp∧h.get? p.1 = some p.2:=by
 obtain ⟨b,hb,e⟩:=List.mem_filterMap.mp hp
 cases q:h.get? b with
 | none => rw [q] at e; cases e
 | some o =>
  rw [q] at e
  have e':(b,o) = p:=Option.some.inj e
  subst e'
  exact ⟨hb,q⟩
theorem Inv.pinned {pins:List (Addr × Obj)} {σ:St} {H:Hp} {s:Shared} {fp:List Addr} (I:Inv X pins σ H s) (hf:∀ b ∈ fp,FpOk X pins H b) (ho:∀ b ∈ fp,∃ o,s.heap.get? b = some o∧∀ v,o.data ≠ .cell v):Inv X (pins ++ QK fp s.heap) σ H s :=
 I.pins_of fun p hp => (List.mem_append.mp hp).elim (fun z => I.pin p (List.mem_append_right _ z)) fun z => by
  obtain ⟨hb,e⟩:=Ki z
  obtain ⟨f0,f1,f2,_⟩:=hf p.1 hb
  obtain ⟨o,e',d⟩:=ho p.1 hb
  rw [e] at e'; cases e'
  exact ⟨e,f0,f1,f2,d⟩
theorem Inv.unpinned {pins pl:List (Addr × Obj)} {σ:St} {H:Hp} {s:Shared} (I:Inv X (pins ++ pl) σ H s):Inv X pins σ H s:=I.pins_of fun p hp => I.pin p (List.mem_append_right _ (List.mem_append_left _ hp))
theorem ps_for {iter:Expr} {body:List Stmt} {wi:TI} {g:TG} {tb:TS} {pos:Pos} (hp:PassesOwn (model X.prog X.w) X.A X.env X.xe) (hc:X.calm = true) (hi:PI X tg iter wi) (hg:PG X tg g) (hb:PSs X body tb)
  (hs:∀ x,foldedSetIterable iter X.env x = pure x:=by intro _; rfl):PS X (.For tg iter body [] pos) (tFor wi g tb):=by
 intro pins s σ H D I h
 refine wpAny_For (thn (hi pins s σ H _ I h) fun v s1 h1 => thn h1 fun itv s2 h2 => ?_) hs
 obtain ⟨it,fp,tn,J,H2,e,I2,T,st2,f2,W,⟨m0,w0⟩,turn⟩:=h2
 subst e
 -- what stays true of the iterator's objects through the loop
 have stat:∀ {H':Hp},(∀ b ∈ fp,H' b = none)→∀ b ∈ fp,FpOk X pins H' b:=fun hn b hb => ⟨hn b hb,(f2 b hb).2⟩
 refine codeAny_forLoop_any (fun n s' => ∃ i σ' H',Inv X pins σ' H' s'∧tn i s'.heap∧(∀ b ∈ fp,H' b = none)∧W i n σ' H') ?_ m0 ⟨0,σ,H2,I2,st2,fun b hb => (f2 b hb).1,w0⟩
 rintro n s3 ⟨i,σ3,H3,I3,st3,fr3,w3⟩
 rcases turn i n σ3 H3 w3 with ⟨stop,qn⟩ | ⟨go,N,hN,step⟩
 ·refine wpAny_passesOwn hp (thn (T.done X rfl rfl rfl hc i pins s3 σ3 H3 X.xe I3 (stat fr3) st3 stop) fun r s4 ⟨hr,I4⟩ => ?_)
  subst hr
  exact wpAny_execs_nil ⟨σ3,H3,I4,qn⟩
 ·refine wpAny_passesOwn hp (thn (T.item X rfl rfl rfl hc i pins s3 σ3 H3 X.xe I3 (stat fr3) st3 go) fun r s4 ⟨u,hr,h4⟩ => ?_)
  subst hr
  refine wpAny_passesOwn hp (thn h4 fun _ s5 ⟨x,H5,I5,r5,y5,st5,fr5⟩ => ?_)
  have I5':=I5.pinned (stat fr5) (T.obj _ _ st5)
  refine wpAny_passesOwn hp (thn (hg _ s5 σ3 H5 x u _ I5' r5 (step x H5 y5)) fun _ s6 ⟨σ6,H6,I6,q6⟩ => ?_)
  refine wpAny_passesOwn hp (thn (hb _ s6 σ6 H6 _ I6 q6) fun f s7 q7 => ?_)
  have again:∀ {σ7:St} {H7:Hp},Inv X (pins ++ QK fp s5.heap) σ7 H7 s7→N σ7 H7→∃ m,m < n∧∃ i σ' H',Inv X pins σ' H' s7∧tn i s7.heap∧(∀ b ∈ fp,H' b = none)∧W i m σ' H':=fun {σ7 H7} I7 n7 => by
   obtain ⟨m',hm,w7⟩:=hN σ7 H7 n7
   refine ⟨m',hm,i + 1,σ7,H7,I7.unpinned,T.keep _ _ _ st5 fun b hb o e => (I7.pin (b,o) (List.mem_append_right _ (List.mem_append_right _ (xC hb e)))).1,fun b hb => ?_,w7⟩
   obtain ⟨o,e,d⟩:=T.obj _ _ st5 b hb
   exact (I7.pin (b,o) (List.mem_append_right _ (List.mem_append_right _ (xC hb e)))).2.1
  cases f with
  | next => obtain ⟨σ7,H7,I7,n7⟩:=q7; exact again I7 n7
  | cont => obtain ⟨σ7,H7,I7,n7⟩:=q7; exact again I7 n7
  | brk => obtain ⟨σ7,H7,I7,q7⟩:=q7; exact ⟨σ7,H7,I7.unpinned,q7⟩
  | ret v => obtain ⟨x7,σ7,H7,I7,r7,q7⟩:=q7; exact ⟨x7,σ7,H7,I7.unpinned,r7,q7⟩
end
theorem for_list {K:PySem.W.Frag} {a:Addr} {xs:List V} {g:TG} {tb:TS} {D:Ends} {σ:St} {H:Hp} (Pv:Nat→St→Hp→Prop) (h0:Pv 0 σ H) (hl:∀ i σ H,i≤xs.length→Pv i σ H→SqL K H a xs)
  (hs:∀ i x σ H,xs[i]? = some x→Pv i σ H→g x σ H fun σ2 H2 => tb { D with nx:=Pv (i + 1),ct:=Pv (i + 1),bk:=D.nx } σ2 H2) (hd:∀ σ H,Pv xs.length σ H→D.nx σ H) :
  ∃ W:Nat→Nat→St→Hp→Prop,(∃ m,W 0 m σ H)∧∀ i m σ H,W i m σ H →
   ((Itl K a).stop i H∧D.nx σ H)∨((Itl K a).go i H∧∃ N:St→Hp→Prop,(∀ σ' H',N σ' H'→∃ m',m' < m∧W (i + 1) m' σ' H')∧∀ x H',(Itl K a).yld i H x H'→g x σ H' fun σ2 H2 => tb { D with nx:=N,ct:=N,bk:=D.nx } σ2 H2):=by
 refine ⟨fun i m σ H => m = xs.length - i∧i≤xs.length∧Pv i σ H,⟨xs.length,by simp,Nat.zero_le _,h0⟩, ?_⟩
 rintro i m σ H ⟨rfl,hi,p⟩
 have q:=hl i σ H hi p
 by_cases hlt:i < xs.length
 ·refine .inr ⟨⟨xs,xs[i],q,by simp [hlt]⟩,Pv (i + 1),fun σ' H' p' => ⟨xs.length - (i + 1),by omega,rfl,hlt,p'⟩,fun x H' y => ?_⟩
  obtain ⟨e,y⟩:=y
  subst e
  exact hs i x σ _ (y xs q) p
 ·have e:i = xs.length:=by omega
  subst e
  exact .inl ⟨⟨xs,q,Nat.le_refl _⟩,hd σ H p⟩
abbrev R2:=V→V→Hp→VK→Prop
def OpR (X:Cx) (f:Value→Value→Sem Value) (r:R2):Prop :=
 ∀ (pins:List (Addr × Obj)) (s:Shared) (σ:St) (H:Hp) (x y:V) (v u:Value) (Q:VK),Inv X pins σ H s→RelV x v→RelV y u→r x y H Q →
  wpAny (model X.prog X.w) X.A (f v u) (EP X pins σ Q) X.xe s
def UnR (X:Cx) (f:Value→Sem Value) (r:V→Hp→VK→Prop):Prop :=
 ∀ (pins:List (Addr × Obj)) (s:Shared) (σ:St) (H:Hp) (x:V) (v:Value) (Q:VK),Inv X pins σ H s→RelV x v→r x H Q →
  wpAny (model X.prog X.w) X.A (f v) (EP X pins σ Q) X.xe s
def xV (X:Cx) (f:Value) (r:List V→Hp→VK→Prop):Prop :=
 ∀ (pins:List (Addr × Obj)) (s:Shared) (σ:St) (H:Hp) (xs:List V) (us:List Value) (Q:VK),Inv X pins σ H s→Vals xs us→r xs H Q →
  wpAny (model X.prog X.w) X.A (call f us) (EP X pins σ Q) X.xe s
def TruR (X:Cx) (r:V→Hp→(Bool→Hp→Prop)→Prop):Prop :=
 ∀ (pins:List (Addr × Obj)) (s:Shared) (σ:St) (H:Hp) (x:V) (v:Value) (Q:Bool→Hp→Prop),Inv X pins σ H s→RelV x v→r x H Q →
  wpAny (model X.prog X.w) X.A (truthy v) (TP X pins σ Q) X.xe s
def tOp (r:R2) (ta tb:TE):TE:=fun σ H Q => ta σ H fun x H1 => tb σ H1 fun y H2 => r x y H2 Q
def tUn (r:V→Hp→VK→Prop) (ta:TE):TE:=fun σ H Q => ta σ H fun x H1 => r x H1 Q
def rI (C:Int→Int→Prop) (g:Int→Int→V):R2:=fun x y H Q => ∃ i j,x = .int i∧y = .int j∧C i j∧Q (g i j) H
def rI0 (g:Int→Int→V):R2:=fun x y H Q => ∃ i j,x = .int i∧y = .int j∧Q (g i j) H
def rU (g:Int→V):V→Hp→VK→Prop:=fun x H Q => ∃ i,x = .int i∧Q (g i) H
section
variable {X:Cx} {a b:Expr} {ta tb:TE} {pos:Pos}
theorem binT (ha:PE X a ta) (hb:PE X b tb) {pins:List (Addr × Obj)} {s:Shared} {σ:St} {H:Hp} {R:V→V→Hp→Prop} (I:Inv X pins σ H s)
  (h:ta σ H fun x H1 => tb σ H1 fun y H2 => R x y H2) {Q:Value→Shared→Prop} {f:Value→Value→Sem Value}
  (hf:∀ v u s2 x y H2,Inv X pins σ H2 s2→RelV x v→RelV y u→R x y H2→wpAny (model X.prog X.w) X.A (f v u) Q X.xe s2) :
  wpAny (model X.prog X.w) X.A (eval a X.env) (fun v s₁ => wpAny (model X.prog X.w) X.A (eval b X.env) (fun u s₂ => wpAny (model X.prog X.w) X.A (f v u) Q X.xe s₂) X.xe s₁) X.xe s:=by
 refine thn (ha pins s σ H _ I h) fun v s1 ⟨x,H1,I1,r1,q1⟩ => ?_
 refine thn (hb pins s1 σ H1 _ I1 q1) fun u s2 ⟨y,H2,I2,r2,q2⟩ => ?_
 exact hf v u s2 x y H2 I2 r1 r2 q2
theorem pe_op {op:Operator} {r:R2} (ho:OpR X (binaryOp op) r) (ha:PE X a ta) (hb:PE X b tb):PE X (.BinOp a op b pos) (tOp r ta tb):=by
 intro pins s σ H Q I h
 exact wpAny_BinOp (binT ha hb I h fun v u s2 x y H2 I2 rx ry q => ho pins s2 σ H2 x y v u Q I2 rx ry q)
theorem pe_un {op:UnaryOp} {r:V→Hp→VK→Prop} (ho:UnR X (unaryOp op) r) (ha:PE X a ta):PE X (.UnaryOp op a pos) (tUn r ta):=by
 intro pins s σ H Q I h
 exact UnaryOp_ (thn (ha pins s σ H _ I h) fun v s1 ⟨x,H1,I1,r1,q1⟩ => ho pins s1 σ H1 x v Q I1 r1 q1)
theorem opI {f:Value→Value→Sem Value} {C:Int→Int→Prop} {g:Int→Int→Int}
  (rule:∀ (i j:Int) (t u:Tok) (s:Shared) (Q:Value→Shared→Prop) (E:Value→Shared→Prop),C i j→Q (.int (g i j) s.toks) { s with toks:=s.toks + 1 }→wpAny (model X.prog X.w) X.A (f (.int i t) (.int j u)) Q E s) :
  OpR X f (rI C fun i j => .int (g i j)):=by
 intro pins s σ H x y v u Q I rx ry h
 obtain ⟨i,j,rfl,rfl,hc,q⟩:=h
 obtain ⟨t,rfl⟩:=rx
 obtain ⟨t',rfl⟩:=ry
 exact rule i j t t' s _ _ hc ⟨.int (g i j),H,I.tok _,⟨_,rfl⟩,q⟩
theorem opI0 {f:Value→Value→Sem Value} {g:Int→Int→Int}
  (rule:∀ (i j:Int) (t u:Tok) (s:Shared) (Q:Value→Shared→Prop) (E:Value→Shared→Prop),Q (.int (g i j) s.toks) { s with toks:=s.toks + 1 }→wpAny (model X.prog X.w) X.A (f (.int i t) (.int j u)) Q E s) :
  OpR X f (rI0 fun i j => .int (g i j)):=by
 intro pins s σ H x y v u Q I rx ry h
 obtain ⟨i,j,rfl,rfl,q⟩:=h
 obtain ⟨t,rfl⟩:=rx
 obtain ⟨t',rfl⟩:=ry
 exact rule i j t t' s _ _ ⟨.int (g i j),H,I.tok _,⟨_,rfl⟩,q⟩
theorem opB0 {f:Value→Value→Sem Value} {g:Int→Int→Bool}
  (rule:∀ (i j:Int) (t u:Tok) (s:Shared) (Q:Value→Shared→Prop) (E:Value→Shared→Prop),Q (.bool (g i j)) s→wpAny (model X.prog X.w) X.A (f (.int i t) (.int j u)) Q E s) :
  OpR X f (rI0 fun i j => .bl (g i j)):=by
 intro pins s σ H x y v u Q I rx ry h
 obtain ⟨i,j,rfl,rfl,q⟩:=h
 obtain ⟨t,rfl⟩:=rx
 obtain ⟨t',rfl⟩:=ry
 exact rule i j t t' s _ _ ⟨.bl (g i j),H,I,rfl,q⟩
def CPow (i j:Int):Prop:=0≤j∧j≤1000000∧i.natAbs < 2 ^ 64
def CMul (i j:Int):Prop:=(-(2 ^ 64) < i∧i < 2 ^ 64)∨(-(2 ^ 64) < j∧j < 2 ^ 64)
theorem CMul.ok {i j:Int} (h:CMul i j):IntMulOk i j:=by
 rcases h with ⟨h1,h2⟩ | ⟨h1,h2⟩
 ·exact .of_left (intBits_le_64 h1 h2)
 ·exact .of_right (intBits_le_64 h1 h2)
theorem Xg (k:Nat):(0:Int)≤2 ^ k:=by
 rw [two_pow_cast]
 exact Int.natCast_nonneg _
theorem vM:OpR X (binaryOp .Add) (rI0 fun i j => .int (i + j)):=opI0 fun _ _ _ _ _ _ _ q => add_int q
theorem vL:OpR X (binaryOp .Sub) (rI0 fun i j => .int (i - j)):=opI0 fun _ _ _ _ _ _ _ q => sub_int q
theorem QL:OpR X (binaryOp .Mult) (rI CMul fun i j => .int (i * j)):=opI fun _ _ _ _ _ _ _ hc q => mul_int q hc.ok
theorem xI:OpR X (binaryOp .Mod) (rI (fun _ j => 0 < j) fun i j => .int (i % j)):=opI fun i j _ _ _ _ _ hc q => by
 have h1:(0:Int) < j:=hc
 exact mod_int' (by omega) (by rw [Int.fmod_eq_emod_of_nonneg i (by omega)]; exact q)
theorem op_pow:OpR X (binaryOp .Pow) (rI CPow fun i j => .int (i ^ j.toNat)):=opI fun _ _ _ _ _ _ _ hc q => pow_int_small hc.1 hc.2.1 hc.2.2 q
theorem zZ:OpR X (binaryOp .LShift) (rI CPow fun i j => .int (i * 2 ^ j.toNat)):=opI fun _ _ _ _ _ _ _ hc q => lshift_int_small hc.1 hc.2.1 hc.2.2 q
theorem op_shr:OpR X (binaryOp .RShift) (rI (fun _ j => 0≤j) fun i j => .int (i / 2 ^ j.toNat)):=opI fun i j _ _ _ _ _ hc q =>
 rshift_int hc (by rw [Int.fdiv_eq_ediv_of_nonneg i (Xg _)]; exact q)
theorem op_xor:OpR X (binaryOp .BitXor) (rI0 fun i j => .int (Builtin.bitXor i j)):=opI0 fun _ _ _ _ _ _ _ q => xor_int q
theorem unI {f:Value→Sem Value} {g:Int→Int}
  (rule:∀ (i:Int) (t:Tok) (s:Shared) (Q:Value→Shared→Prop) (E:Value→Shared→Prop),Q (.int (g i) s.toks) { s with toks:=s.toks + 1 }→wpAny (model X.prog X.w) X.A (f (.int i t)) Q E s) :
  UnR X f (rU fun i => .int (g i)):=by
 intro pins s σ H x v Q I rx h
 obtain ⟨i,rfl,q⟩:=h
 obtain ⟨t,rfl⟩:=rx
 exact rule i t s _ _ ⟨.int (g i),H,I.tok _,⟨_,rfl⟩,q⟩
theorem un_neg:UnR X (unaryOp .USub) (rU fun i => .int (-i)):=unI fun _ _ _ _ _ q => neg_int q
end
def scal:V→V→Bool
 | .non, .non => true | .non, .int _ => true | .int _, .non => true | .non, .bl _ => true | .bl _, .non => true | .non, .str _ => true | .str _, .non => true
 | .int _, .int _ => true | .bl _, .bl _ => true | .str _, .str _ => true | .byt _, .byt _ => true
 | .int _, .str _ => true | .str _, .int _ => true | .bl _, .str _ => true | .str _, .bl _ => true
 | _,_ => false
def rEq:R2:=fun x y H Q => scal x y = true∧Q (.bl (decide (x = y))) H
def rNe:R2:=fun x y H Q => scal x y = true∧Q (.bl (!decide (x = y))) H
theorem Yb {i j:Int}:decide (V.int i = V.int j) = (i == j):=by
 rw [Bool.eq_iff_iff]
 simp
theorem dec_bl {i j:Bool}:decide (V.bl i = V.bl j) = (i == j):=by
 rw [Bool.eq_iff_iff]
 simp
theorem K9 {i j:Str}:decide (V.str i = V.str j) = (i == j):=by
 rw [Bool.eq_iff_iff]
 simp
theorem Yc {i j:Array UInt8}:decide (V.byt i = V.byt j) = (i.toList == j.toList):=by
 rw [Bool.eq_iff_iff]
 cases i
 cases j
 simp
section
variable {X:Cx} {a b c:Expr} {ta tb tc:TE} {pos:Pos}
theorem qT {pins:List (Addr × Obj)} {σ:St} {H:Hp} {s:Shared} {Q:VK} {k k':Bool} (I:Inv X pins σ H s) (q:Q (.bl k) H) (e:k = k'):EP X pins σ Q (.bool k') s:=by
 subst e
 exact ⟨.bl k,H,I,rfl,q⟩
theorem op_eq:OpR X (compareOp .Eq) rEq:=by
 intro pins s σ H x y v u Q I rx ry h
 obtain ⟨hs,q⟩:=h
 cases x with
 | non =>
  cases rx
  cases y with
  | non => cases ry; exact PySem.EqNone.eq_none_none (qT I q (by simp))
  | bl j => cases ry; exact PySem.EqNone.eq_none_bool (qT I q (by simp))
  | int j => obtain ⟨t',rfl⟩:=ry; exact PySem.EqNone.eq_none_int (qT I q (by simp))
  | str j => obtain ⟨t',rfl⟩:=ry; exact PySem.EqNone.eq_none_str (qT I q (by simp))
  | _ => exact absurd (show false = true from hs) Bool.false_ne_true
 | bl i =>
  cases rx
  cases y with
  | non => cases ry; exact PySem.EqNone.eq_bool_none (qT I q (by simp))
  | bl j => cases ry; exact eq_bool (qT I q dec_bl)
  | str j => obtain ⟨t',rfl⟩:=ry; exact PySem.EqMixed.eq_bool_str (qT I q (by simp))
  | _ => exact absurd (show false = true from hs) Bool.false_ne_true
 | int i =>
  obtain ⟨t,rfl⟩:=rx
  cases y with
  | non => cases ry; exact PySem.EqNone.eq_int_none (qT I q (by simp))
  | int j => obtain ⟨t',rfl⟩:=ry; exact eq_int (qT I q Yb)
  | str j => obtain ⟨t',rfl⟩:=ry; exact PySem.EqMixed.eq_int_str (qT I q (by simp))
  | _ => exact absurd (show false = true from hs) Bool.false_ne_true
 | str i =>
  obtain ⟨t,rfl⟩:=rx
  cases y with
  | non => cases ry; exact PySem.EqNone.eq_str_none (qT I q (by simp))
  | bl j => cases ry; exact PySem.EqMixed.eq_str_bool (qT I q (by simp))
  | int j => obtain ⟨t',rfl⟩:=ry; exact PySem.EqMixed.eq_str_int (qT I q (by simp))
  | str j => obtain ⟨t',rfl⟩:=ry; exact eq_str (qT I q K9)
  | _ => exact absurd (show false = true from hs) Bool.false_ne_true
 | byt i =>
  obtain ⟨t,rfl⟩:=rx
  cases y with
  | byt j => obtain ⟨t',rfl⟩:=ry; exact PySem.W.eq_bytes (qT I q Yc)
  | _ => exact absurd (show false = true from hs) Bool.false_ne_true
 | _ => cases y <;> exact absurd (show false = true from hs) Bool.false_ne_true
theorem op_ne:OpR X (compareOp .NotEq) rNe:=by
 intro pins s σ H x y v u Q I rx ry h
 obtain ⟨hs,q⟩:=h
 cases x with
 | non =>
  cases rx
  cases y with
  | non => cases ry; exact PySem.EqNone.ne_none_none (qT I q (by simp))
  | bl j => cases ry; exact PySem.EqNone.ne_none_bool (qT I q (by simp))
  | int j => obtain ⟨t',rfl⟩:=ry; exact PySem.EqNone.ne_none_int (qT I q (by simp))
  | str j => obtain ⟨t',rfl⟩:=ry; exact PySem.EqNone.ne_none_str (qT I q (by simp))
  | _ => exact absurd (show false = true from hs) Bool.false_ne_true
 | bl i =>
  cases rx
  cases y with
  | non => cases ry; exact PySem.EqNone.ne_bool_none (qT I q (by simp))
  | bl j => cases ry; exact ne_bool (qT I q (congrArg not dec_bl))
  | str j => obtain ⟨t',rfl⟩:=ry; exact PySem.EqMixed.ne_bool_str (qT I q (by simp))
  | _ => exact absurd (show false = true from hs) Bool.false_ne_true
 | int i =>
  obtain ⟨t,rfl⟩:=rx
  cases y with
  | non => cases ry; exact PySem.EqNone.ne_int_none (qT I q (by simp))
  | int j => obtain ⟨t',rfl⟩:=ry; exact ne_int (qT I q (congrArg not Yb))
  | str j => obtain ⟨t',rfl⟩:=ry; exact PySem.EqMixed.ne_int_str (qT I q (by simp))
  | _ => exact absurd (show false = true from hs) Bool.false_ne_true
 | str i =>
  obtain ⟨t,rfl⟩:=rx
  cases y with
  | non => cases ry; exact PySem.EqNone.ne_str_none (qT I q (by simp))
  | bl j => cases ry; exact PySem.EqMixed.ne_str_bool (qT I q (by simp))
  | int j => obtain ⟨t',rfl⟩:=ry; exact PySem.EqMixed.ne_str_int (qT I q (by simp))
  | str j => obtain ⟨t',rfl⟩:=ry; exact ne_str (qT I q (congrArg not K9))
  | _ => exact absurd (show false = true from hs) Bool.false_ne_true
 | byt i =>
  obtain ⟨t,rfl⟩:=rx
  cases y with
  | byt j => obtain ⟨t',rfl⟩:=ry; exact PySem.W.ne_bytes (qT I q (congrArg not Yc))
  | _ => exact absurd (show false = true from hs) Bool.false_ne_true
 | _ => cases y <;> exact absurd (show false = true from hs) Bool.false_ne_true
theorem VN:OpR X (compareOp .Lt) (rI0 fun i j => .bl (decide (i < j))):=opB0 fun _ _ _ _ _ _ _ q => lt_int q
theorem op_le:OpR X (compareOp .LtE) (rI0 fun i j => .bl (decide (i≤j))):=opB0 fun _ _ _ _ _ _ _ q => le_int q
theorem op_gt:OpR X (compareOp .Gt) (rI0 fun i j => .bl (decide (j < i))):=opB0 fun _ _ _ _ _ _ _ q => gt_int q
theorem op_ge:OpR X (compareOp .GtE) (rI0 fun i j => .bl (decide (j≤i))):=opB0 fun _ _ _ _ _ _ _ q => ge_int q
theorem op_isN:OpR X (compareOp .Is) (fun x y H Q => y = .non∧Q (.bl (decide (x = .non))) H):=by
 intro pins s σ H x y v u Q I rx ry h
 obtain ⟨rfl,q⟩:=h
 cases ry
 refine is_none_gen (qT I q ?_)
 cases x <;> first
  | (cases rx; rfl)
  | (obtain ⟨t,rfl⟩:=rx; rfl)
theorem OpR.or {f:Value→Value→Sem Value} {r r':R2} (h:OpR X f r) (h':OpR X f r'):OpR X f (fun x y H Q => r x y H Q∨r' x y H Q):=by
 intro pins s σ H x y v u Q I rx ry q
 rcases q with q | q
 ·exact h pins s σ H x y v u Q I rx ry q
 ·exact h' pins s σ H x y v u Q I rx ry q
theorem qK (b:Expr) {op:CmpOp} (h:op ≠ .In:=by decide) (h2:op ≠ .NotIn:=by decide):behindInMarks op b = false:=by
 have e1:(op == CmpOp.In) = false:=by cases op <;> first | rfl | exact absurd rfl h
 have e2:(op == CmpOp.NotIn) = false:=by cases op <;> first | rfl | exact absurd rfl h2
 cases b <;> simp [behindInMarks,e1,e2]
theorem pe_cmpR {op:CmpOp} {r:R2} (ho:OpR X (compareOp op) r) (ha:PE X a ta) (hb:PE X b tb) (hm:behindInMarks op b = false):PE X (.Compare a [op] [b] pos) (tOp r ta tb):=by
 intro pins s σ H Q I h
 exact wpAny_Compare1 (binT ha hb I h fun v u s2 x y H2 I2 rx ry q => ho pins s2 σ H2 x y v u Q I2 rx ry q) hm
def zm (t:TE):TT:=fun σ H Q => t σ H fun x H' => ∃ k,x = .bl k∧Q k H'
theorem pt_cmpR {op:CmpOp} {r:R2} (ho:OpR X (compareOp op) r) (ha:PE X a ta) (hb:PE X b tb) (hm:behindInMarks op b = false):PT X (.Compare a [op] [b] pos) (zm (tOp r ta tb)):=by
 intro pins s σ H Q I h
 refine wpAny_isTrue_Compare1 (thn (ha pins s σ H _ I h) fun v s1 ⟨x,H1,I1,r1,q1⟩ => thn (hb pins s1 σ H1 _ I1 q1) fun u s2 ⟨y,H2,I2,r2,q2⟩ =>
  thn (ho pins s2 σ H2 x y v u _ I2 r1 r2 q2) fun c s3 ⟨z,H3,I3,r3,k,e,q3⟩ => ?_) hm
 subst e
 cases r3
 exact wpAny_truthy_bool ⟨H3,I3,q3⟩
def vF (r r':R2) (ta tb tc:TE):TE:=fun σ H Q => ta σ H fun x H1 => tb σ H1 fun y H2 => r x y H2 fun z H3 => ∃ k,z = .bl k ∧
 (if k = true then tc σ H3 fun w' H4 => r' y w' H4 Q else Q (.bl false) H3)
theorem pe_chain {op op':CmpOp} {r r':R2} (ho:OpR X (compareOp op) r) (ho':OpR X (compareOp op') r') (ha:PE X a ta) (hb:PE X b tb) (hc:PE X c tc)
  (hm:lastMarks [op,op'] [b,c] = false:=by with_unfolding_all rfl):PE X (.Compare a [op,op'] [b,c] pos) (vF r r' ta tb tc):=by
 intro pins s σ H Q I h
 refine Compare_chain (thn (ha pins s σ H _ I h) fun v s1 ⟨x,H1,I1,r1,q1⟩ => chain_link (thn (hb pins s1 σ H1 _ I1 q1) fun u s2 ⟨y,H2,I2,r2,q2⟩ =>
  thn (ho pins s2 σ H2 x y v u _ I2 r1 r2 q2) fun d s3 ⟨z,H3,I3,r3,k,e,q3⟩ => ?_)) hm
 subst e
 cases r3
 refine wpAny_truthy_bool ?_
 cases k with
 | false => exact ite_ff ⟨.bl false,H3,I3,rfl,q3⟩
 | true => exact ite_tt (chain_last (thn (hc pins s3 σ H3 _ I3 q3) fun w' s4 ⟨z',H4,I4,r4,q4⟩ => ho' pins s4 σ H4 y z' u w' Q I4 r2 r4 q4))
def TruV (K:PySem.W.Frag) (x:V) (H:Hp) (k:Bool):Prop :=
 match x with
 | .non => k = false
 | .bl b => k = b
 | .int i => k = (i != 0)
 | .str y => y.length≤sizeLine∧k = ((y.length:Int) != 0)
 | .byt y => y.size≤sizeLine∧k = ((y.size:Int) != 0)
 | .ref p => (∃ xs,SqL K H p xs∧k = !xs.isEmpty)∨(∃ xs,SqT K H p xs∧k = !xs.isEmpty)∨∃ kvs,H p = some (.dK kvs)∧k = !kvs.isEmpty
 | _ => False
theorem XO {κ:Type} {kvs:List (κ × V)} {vs:List (κ × Value)} (r:KV kvs vs):(!vs.isEmpty) = !kvs.isEmpty:=by
 cases r <;> rfl
theorem ko {xs:List V} {its:List Value} (r:Vals xs its):(!its.toArray.isEmpty) = !xs.isEmpty:=by
 cases r <;> simp
theorem Q3:(sizeLine:Nat) < 2 ^ 63:=by rw [sizeLine_eq]; decide
theorem tru_ok:TruR X (fun x H Q => ∃ k,TruV X.K x H k∧Q k H):=by
 intro pins s σ H x v Q I rx h
 obtain ⟨k,e,q⟩:=h
 have hl:=Q3
 have hs:sizeLine = 16777216:=sizeLine_eq
 cases x with
 | non =>
  cases rx
  have e':k = false:=e
  subst e'
  exact truthy_none ⟨H,I,q⟩
 | bl b =>
  cases rx
  have e':k = b:=e
  subst e'
  exact wpAny_truthy_bool ⟨H,I,q⟩
 | int i =>
  obtain ⟨t,rfl⟩:=rx
  have e':k = (i != 0):=e
  subst e'
  exact PySem.P.truthy_int ⟨H,I,q⟩
 | str y =>
  obtain ⟨t,rfl⟩:=rx
  obtain ⟨hy,e'⟩:y.length≤sizeLine∧k = ((y.length:Int) != 0):=e
  subst e'
  exact PySem.P.truthy_str (by omega) ⟨H,I.tok _,q⟩
 | byt y =>
  obtain ⟨t,rfl⟩:=rx
  obtain ⟨hy,e'⟩:y.size≤sizeLine∧k = ((y.size:Int) != 0):=e
  subst e'
  exact PySem.W.truthy_bytes (by omega) ⟨H,I.tok _,q⟩
 | ref p =>
  cases rx
  have e':(∃ xs,SqL X.K H p xs∧k = !xs.isEmpty)∨(∃ xs,SqT X.K H p xs∧k = !xs.isEmpty)∨∃ kvs,H p = some (.dK kvs)∧k = !kvs.isEmpty:=e
  rcases e' with ⟨xs,hx,e'⟩ | ⟨xs,hx,e'⟩ | ⟨kvs,hx,e'⟩
  ·subst e'
   obtain ⟨its,r,pl,hz⟩:=I.list hx
   have hlen:=r.length
   exact wpAny_truthy_list pl.isList (by simp only [List.size_toArray]; omega) ⟨H,I.tok _,by rw [ko r]; exact q⟩
  ·subst e'
   obtain ⟨its,r,pl,hz⟩:=I.tuple hx
   have hlen:=r.length
   exact truthy_tuple pl (by simp only [List.size_toArray]; omega) ⟨H,I.tok _,by rw [ko r]; exact q⟩
  ·subst e'
   obtain ⟨hz,hS,vs,r,m⟩:kvs.length≤sizeLine∧(p == sysModules) = false∧∃ vs,KV kvs vs∧s.heap.DictOf (vp X.prog X.w) p vs:=I.hok p _ hx
   have hlen:kvs.length = vs.length:=Paired.length r
   exact wpAny_truthy_dict hS m (by omega) ⟨H,I.tok _,by rw [XO r]; exact q⟩
 | _ => exact (show False from e).elim
theorem pt_truth (ha:PE X a ta) (he:∀ whole,isTrue a X.env whole = (do let v ← whole; standAt a.pos; holding [v] (truthy v))) :
  PT X a (fun σ H Q => ta σ H fun x H' => ∃ k,TruV X.K x H' k∧Q k H'):=by
 intro pins s σ H Q I h
 exact isTrue_plain (thn (ha pins s σ H _ I h) fun v s1 ⟨x,H1,I1,r1,q1⟩ => tru_ok pins s1 σ H1 x v Q I1 r1 q1) (he _)
theorem Xe {x:V} {us:List Value} (r:Vals [x] us):∃ u,us = [u]∧RelV x u:=by
 cases r with
 | cons r1 r2 => cases r2; exact ⟨_,rfl,r1⟩
theorem vals2 {x y:V} {us:List Value} (r:Vals [x,y] us):∃ u w',us = [u,w']∧RelV x u∧RelV y w':=by
 cases r with
 | cons r1 r2 =>
  cases r2 with
  | cons r3 r4 => cases r4; exact ⟨_,_,rfl,r1,r3⟩
theorem call_abs:xV X (.builtin "abs") (fun xs H Q => ∃ i,xs = [.int i]∧Q (.int (if i < 0 then -i else i)) H):=by
 intro pins s σ H xs us Q I r h
 obtain ⟨i,rfl,q⟩:=h
 obtain ⟨u,rfl,t,rfl⟩:=Xe r
 exact call_abs_int fun u tk => ⟨.int (if i < 0 then -i else i),H,I.tok _,⟨_,rfl⟩,q⟩
theorem Yq (hc:X.calm = true):xV X (.builtin "max") (fun xs H Q => ∃ i j,xs = [.int i, .int j]∧Q (.int (if j > i then j else i)) H):=by
 intro pins s σ H xs us Q I r h
 obtain ⟨i,j,rfl,q⟩:=h
 obtain ⟨u,w',rfl,⟨t,rfl⟩,⟨t',rfl⟩⟩:=vals2 r
 refine max_two_ints (I.ok.hd hc) fun h' tk k => ⟨_,H,I.kept k, ?_,q⟩
 by_cases hj:j > i
 ·rw [if_pos hj,if_pos hj]; exact ⟨_,rfl⟩
 ·rw [if_neg hj,if_neg hj]; exact ⟨_,rfl⟩
theorem Vm (hc:X.calm = true):xV X (.builtin "min") (fun xs H Q => ∃ i j,xs = [.int i, .int j]∧Q (.int (if j < i then j else i)) H):=by
 intro pins s σ H xs us Q I r h
 obtain ⟨i,j,rfl,q⟩:=h
 obtain ⟨u,w',rfl,⟨t,rfl⟩,⟨t',rfl⟩⟩:=vals2 r
 refine min_two_ints (I.ok.hd hc) fun h' tk k => ⟨_,H,I.kept k, ?_,q⟩
 by_cases hj:j < i
 ·rw [if_pos hj,if_pos hj]; exact ⟨_,rfl⟩
 ·rw [if_neg hj,if_neg hj]; exact ⟨_,rfl⟩
theorem Yr:xV X (.type "int") (fun xs H Q => (∃ i,xs = [.int i]∧Q (.int i) H)∨∃ k,xs = [.bl k]∧Q (.int (if k then 1 else 0)) H):=by
 intro pins s σ H xs us Q I r h
 rcases h with ⟨i,rfl,q⟩ | ⟨k,rfl,q⟩
 ·obtain ⟨u,rfl,t,rfl⟩:=Xe r
  exact call_int_int ⟨.int i,H,I,⟨_,rfl⟩,q⟩
 ·obtain ⟨u,rfl,r1⟩:=Xe r
  cases r1
  exact call_int_bool ⟨.int (if k then 1 else 0),H,I.tok _,⟨_,rfl⟩,q⟩
end
structure ObjM (h:Heap) (x dx C:Addr) (mA:Str→Option Value):Prop where
 obj:h.get? x = some (PySem.W.instObj C dx)
 ns:h.Ns1 dx mA
 ne:dx≠x
theorem Q2 {h:Heap} {dx:Addr} {mA:Str→Option Value} (n:h.Ns1 dx mA):∃ od,h.get? dx = some od∧∀ name,PySem.W.lookIn name od = some (mA name):=by
 obtain ⟨o,es,ep,ho,hd,hk,_,hm⟩:=n
 refine ⟨o,ho,fun name => ?_⟩
 have e:=hm name
 unfold nsFind findBy at e
 rw [← Array.find?_toList] at e
 unfold PySem.W.lookIn
 rw [hd]
 dsimp only
 split
 ·rename_i y q
  rw [q] at e
  exact congrArg some e
 ·rename_i q
  rw [q] at e
  have a:es.toList.any (·.refKey) = false:=by
   rw [List.any_eq_false]
   intro y hy
   obtain ⟨z,t,hkey⟩:=hk y (Array.mem_toList_iff.mp hy)
   simp [DictEntry.refKey,hkey]
  have a':¬ es.toList.any (·.refKey) = true:=by rw [a]; exact Bool.false_ne_true
  rw [if_neg a']
  exact congrArg some e
theorem ObjM.look {h:Heap} {x dx C:Addr} {mA:Str→Option Value} (I:ObjM h x dx C mA):∃ od,PySem.W.InstAt h x (PySem.W.instObj C dx) C (some od)∧∀ name,PySem.W.lookIn name od = some (mA name) :=
 let ⟨od,ho,hl⟩:=Q2 I.ns
 ⟨od,⟨I.obj,rfl,rfl,ho⟩,hl⟩
section
variable {prog:Program} {w:World} {A:Around} {E:Value→Shared→Prop} {s:Shared} {K:PySem.W.Frag} {x dx C f:Addr} {mA:Str→Option Value} {name:Str} {v:Value}
theorem get_map {expr:Bool} {Q:Value→Shared→Prop} (X:K.In s.heap) (I:ObjM s.heap x dx C mA) (hg:PySem.W.plainGet K C name = true) (hh:PySem.W.hasDictIn K C = true)
  (ha:PySem.W.findIn K (.ref C) name = some none) (hv:mA name = some v) (hv':PySem.W.handedIn v = true) (h:Q v { s with toks:=s.toks + 1 }) :
  wpAny (model prog w) A (getAttr (.ref x) name expr) Q E s:=by
 obtain ⟨od,J,hl⟩:=I.look
 exact PySem.W.get_value X J (PySem.W.plainGet_of hg).1 (PySem.W.findObj_own hh ha rfl (by rw [hl,hv])) hv' h
theorem get_meth {pl:Sem Bool} {Q:Value × List Value→Shared→Prop} (X:K.In s.heap) (I:ObjM s.heap x dx C mA) (hg:PySem.W.plainGet K C name = true)
  (hf:PySem.W.findIn K (.ref C) name = some (some (.ref f))) (ht:PySem.W.isFn K (.ref f) = true) (hv:mA name = none) (h:Q (.ref f, [.ref x]) s) :
  wpAny (model prog w) A (getMethod (.ref x) name pl) Q E s:=by
 obtain ⟨od,J,hl⟩:=I.look
 exact PySem.W.method_fn X J (PySem.W.plainGet_of hg).1 (PySem.W.plainGet_of hg).2 hf (beq_iff_eq.mp ht) (by show (PySem.W.lookIn name od).map (·.isSome) = some false; rw [hl,hv]; rfl) h
theorem set_map {ns:List Str} {Q:Unit→Shared→Prop} (X:K.In s.heap) (I:ObjM s.heap x dx C mA)
  (hs:PySem.W.findIn K (.ref C) "__setattr__" = some (some (.builtin "object.__setattr__"))) (hp:PySem.W.plainOver K C = true) (ht:PySem.W.takerIn K C name = some none) (hh:PySem.W.hasDictIn K C = true)
  (hw:PySem.Within mA ns) (hsz:ns.length≤sizeLine)
  (h:∀ h',ObjM h' x dx C (fun y => if y = name then some v else mA y)→Heap.SameBut dx s.heap h'→Q () { s with heap:=h',toks:=s.toks + 2 }) :
  wpAny (model prog w) A (setAttr (.ref x) name v) Q E s:=by
 obtain ⟨od,J,hl⟩:=I.look
 refine PySem.W.set_plain X J hs (PySem.W.osa_open (s:={ s with toks:=s.toks + 1 }) (r:=none) X J hp ht fun b => ?_)
 obtain ⟨cd,hc,hd'⟩:=PySem.W.any_some hh
 have hx:s.heap.get? x = some ⟨.ref C,some dx, .plain, #[]⟩:=I.obj
 refine wpAny_bind (wpAny_pure (wpAny_bind (wpAny_bind (wpAny_loadPart hx (wpAny_bind (PySem.W.Looks.here (s:={ s with toks:=s.toks + 1 }) (PySem.W.looks_clsIn X hc) ?_))))))
 rw [hd']
 refine wpAny_pure (a:=some dx) (wpAny_bind (wpAny_pure (wpAny_bind ?_)))
 refine wpAny_nsSet1 (s:={ s with toks:=s.toks + 1 }) I.ns fun h' hn2 hs2 => ?_
 obtain ⟨oD,esD,epD,hoD,hdD,hcD⟩:=hn2.count (PySem.Within.cons name v hw)
 refine wpAny_bind (wpAny_lookBehind hoD (by rw [hdD]; exact pastItsLine_dict (Nat.le_trans hcD (by rw [List.length_cons]; omega))) ?_)
 exact wpAny_pure (h _ ⟨(hs2.2 _ (Ne.symm I.ne)).trans I.obj,hn2,I.ne⟩ hs2)
theorem make_map {R:Result→Shared→Prop} {vs:List Value} {kw:List (Str × Value)} (X:K.In s.heap) (hm:PySem.W.makesIn K C = true)
  (hi:PySem.W.findIn K (.ref C) "__init__" = some (some (.ref f))) (hf:PySem.W.typeIn K (.ref f) = some (.type "function"))
  (h:codeAny (model prog w) (A.under (.builtin "type.__call__" ⟨.ref C :: vs,kw⟩)) (.call (.ref f) ⟨.ref (s.heap.objs.size + 1) :: vs,kw⟩) (PySem.W.InitBack (s.heap.objs.size + 1) R)
   { s with heap:=(s.heap.push PySem.W.emptyDict).push (PySem.W.instObj C s.heap.objs.size) }) :
  codeAny (model prog w) A (.call (.ref C) ⟨vs,kw⟩) R s:=by
 obtain ⟨hh,g,d,t,os⟩:=s
 exact PySem.W.make_core (PySem.W.makes_of X hm) (PySem.W.looks_findIn X hi) (fun self => PySem.W.bind_fn X self hf) (.inl rfl) h
end
def putF (f:Str) (v:V):List (Str × V)→List (Str × V)
 | [] => [(f,v)]
 | (g,x) :: r => if g = f then (g,v) :: r else (g,x) :: putF f v r
theorem jV (f g:Str) (v:V):∀ fs:List (Str × V),(putF f v fs).lookup g = if g = f then some v else fs.lookup g
 | [] => by
  show List.lookup g [(f,v)] = _
  by_cases h:g = f
  ·have hb:(g == f) = true:=beq_iff_eq.mpr h
   simp only [List.lookup,hb,if_pos h]
  ·have hb:(g == f) = false:=beq_eq_false_iff_ne.mpr h
   simp only [List.lookup,hb,if_neg h]
 | (k,x) :: r => by
  have ih:=jV f g v r
  rw [show putF f v ((k,x) :: r) = (if k = f then (k,v) :: r else (k,x) :: putF f v r) from rfl]
  by_cases hk:k = f
  ·rw [if_pos hk]
   by_cases h:g = k
   ·have hb:(g == k) = true:=beq_iff_eq.mpr h
    simp only [List.lookup,hb,if_pos (h.trans hk)]
   ·have hb:(g == k) = false:=beq_eq_false_iff_ne.mpr h
    simp only [List.lookup,hb,if_neg (fun e:g = f => h (e.trans hk.symm))]
  ·rw [if_neg hk]
   by_cases h:g = k
   ·have hb:(g == k) = true:=beq_iff_eq.mpr h
    simp only [List.lookup,hb,if_neg (fun e:g = f => hk (h.symm.trans e))]
   ·have hb:(g == k) = false:=beq_eq_false_iff_ne.mpr h
    simp only [List.lookup,hb]
    exact ih
theorem jX (f:Str) (v:V):∀ fs:List (Str × V),f ∈ (putF f v fs).map (·.1)∧∀ g,g ∈ fs.map (·.1)→g ∈ (putF f v fs).map (·.1)
 | [] => ⟨by simp [putF],fun g h => by simp at h⟩
 | (k,x) :: r => by
  obtain ⟨i1,i2⟩:=jX f v r
  rw [show putF f v ((k,x) :: r) = (if k = f then (k,v) :: r else (k,x) :: putF f v r) from rfl]
  by_cases hk:k = f
  ·rw [if_pos hk]
   subst hk
   exact ⟨by simp,fun g h => by simpa using h⟩
  ·rw [if_neg hk]
   refine ⟨?_,fun g h => ?_⟩
   ·rw [List.map_cons]
    exact List.mem_cons_of_mem _ i1
   ·rw [List.map_cons] at h ⊢
    rcases List.mem_cons.mp h with e | e
    ·exact List.mem_cons.mpr (.inl e)
    ·exact List.mem_cons_of_mem _ (i2 g e)
theorem jW (f:Str) (v:V):∀ fs:List (Str × V),(putF f v fs).length≤fs.length + 1
 | [] => by simp [putF]
 | (k,x) :: r => by
  have ih:=jW f v r
  rw [show putF f v ((k,x) :: r) = (if k = f then (k,v) :: r else (k,x) :: putF f v r) from rfl]
  by_cases hk:k = f
  ·rw [if_pos hk,List.length_cons,List.length_cons]; omega
  ·rw [if_neg hk,List.length_cons,List.length_cons]; omega
theorem RelO.some_of {v:V} {o:Option Value} (r:RelO (some v) o):∃ u,o = some u∧RelV v u:=by
 cases o with
 | none => exact (show False from r).elim
 | some u => exact ⟨u,rfl,r⟩
theorem RelO.none_of {o:Option Value} (r:RelO none o):o = none:=by
 cases o with
 | none => rfl
 | some u => exact (show False from r).elim
theorem KO {v:V} {u:Value} (r:RelV v u):PySem.W.handedIn u = true:=by
 cases v with
 | non => cases (show u = Value.none from r); rfl
 | bl b => cases (show u = Value.bool b from r); rfl
 | int i => obtain ⟨t,e⟩:=(show ∃ t,u = Value.int i t from r); cases e; rfl
 | str x => obtain ⟨t,e⟩:=(show ∃ t,u = Value.str x t from r); cases e; rfl
 | byt b => obtain ⟨t,e⟩:=(show ∃ t,u = Value.bytes b t from r); cases e; rfl
 | flt b => obtain ⟨t,e⟩:=(show ∃ t,u = Value.float b t from r); cases e; rfl
 | ref a => cases (show u = Value.ref a from r); rfl
 | ty n => cases (show u = Value.type n from r); rfl
section
variable {P:Program} {w:World} {H:Hp} {h:Heap} {a C dx:Addr} {fs:List (Str × V)}
theorem kR (hok:HOk P w H h) (e:H a = some (.ins C dx fs)):∃ mA,ObjM h a dx C mA∧(∀ f,RelO (fs.lookup f) (mA f))∧PySem.Within mA (fs.map (·.1))∧fs.length≤1000∧H dx = some (.own a):=by
 obtain ⟨d,z,ne,ob,mA,n,r,q⟩:=(show ObjOk P w H h a (.ins C dx fs) from hok a _ e)
 exact ⟨mA,⟨ob,n,ne⟩,r,q,z,d⟩
end
structure Cls (K:PySem.W.Frag) (C:Addr):Prop where
 pg:PySem.W.plainGet K C Str.empty = true
 hd:PySem.W.hasDictIn K C = true
 po:PySem.W.plainOver K C = true
 sa:PySem.W.findIn K (.ref C) "__setattr__" = some (some (.builtin "object.__setattr__"))
theorem Cls.get {K:PySem.W.Frag} {C:Addr} (c:Cls K C) (f:Str):PySem.W.plainGet K C f = true:=c.pg
def NoAttr (K:PySem.W.Frag) (C:Addr) (f:Str):Prop:=PySem.W.findIn K (.ref C) f = some none
theorem NoAttr.taker {K:PySem.W.Frag} {C:Addr} {f:Str} (n:NoAttr K C f):PySem.W.takerIn K C f = some none:=by
 unfold PySem.W.takerIn
 rw [show PySem.W.findIn K (.ref C) f = some none from n]
 rfl
structure Meth (K:PySem.W.Frag) (C:Addr) (m:Str) (f:Addr):Prop where
 at_:PySem.W.findIn K (.ref C) m = some (some (.ref f))
 fn:PySem.W.isFn K (.ref f) = true
 kp:PySem.W.keepIn K (.ref f) = true
section
variable {X:Cx} {pins:List (Addr × Obj)} {σ:St} {H:Hp} {s:Shared} {a C dx:Addr} {fs:List (Str × V)} {f:Str} {v:V} {A:Around} {E:Value→Shared→Prop}
theorem XR {b:Bool} {Q:Value→Shared→Prop} (I:Inv X pins σ H s) (e:H a = some (.ins C dx fs)) (c:Cls X.K C) (n:NoAttr X.K C f) (l:fs.lookup f = some v)
  (h:∀ u s',Inv X pins σ H s'→RelV v u→Q u s'):wpAny (model X.prog X.w) A (getAttr (.ref a) f b) Q E s:=by
 obtain ⟨mA,O,r,_,_,_⟩:=kR I.hok e
 obtain ⟨u,hu,ru⟩:=RelO.some_of (v:=v) (o:=mA f) (by rw [← l]; exact r f)
 exact get_map I.kIn O (c.get f) c.hd n hu (KO ru) (h u _ (I.tok _) ru)
theorem xF {m:Str} {g:Addr} {pl:Sem Bool} {Q:Value × List Value→Shared→Prop} (I:Inv X pins σ H s) (e:H a = some (.ins C dx fs)) (c:Cls X.K C) (k:Meth X.K C m g) (l:fs.lookup m = none)
  (h:Q (.ref g, [.ref a]) s):wpAny (model X.prog X.w) A (getMethod (.ref a) m pl) Q E s:=by
 obtain ⟨mA,O,r,_,_,_⟩:=kR I.hok e
 have hn:mA m = none:=RelO.none_of (by rw [← l]; exact r m)
 exact get_meth I.kIn O (c.get m) k.at_ k.fn hn h
theorem Xl {y:V} {u:Value} {Q:Unit→Shared→Prop} (I:Inv X pins σ H s) (e:H a = some (.ins C dx fs)) (c:Cls X.K C) (n:NoAttr X.K C f) (hl:fs.length < 1000) (ry:RelV y u)
  (h:∀ s',Inv X pins σ (upd H a (.ins C dx (putF f y fs))) s'→Q () s'):wpAny (model X.prog X.w) A (setAttr (.ref a) f u) Q E s:=by
 obtain ⟨mA,O,r,wi,_,ho⟩:=kR I.hok e
 have hz:(fs.map (·.1)).length≤sizeLine:=by rw [List.length_map,sizeLine_eq]; omega
 refine set_map I.kIn O c.sa c.po n.taker c.hd wi hz fun h' O' sb => h _ ?_
 have hd:∃ o,h'.get? dx = some o:=let ⟨o,_,_,e',_⟩:=O'.ns; ⟨o,e'⟩
 refine I.write (x:=a) (e:=dx) (by rw [e]; exact True.intro) (.inr ho) (fun b q hb z => (sb.2 b hb).trans z) hd ?_
 refine ⟨by rw [upd_ne O.ne]; exact ho, ?_,O.ne,O'.obj,_,O'.ns,fun g => ?_,fun g hg => ?_⟩
 ·have:=jW f y fs; omega
 ·show RelO ((putF f y fs).lookup g) (if g = f then some u else mA g)
  rw [jV]
  by_cases q:g = f
  ·rw [if_pos q,if_pos q]; exact ry
  ·rw [if_neg q,if_neg q]; exact r g
 ·by_cases q:g = f
  ·rw [q]; exact (jX f y fs).1
  ·refine (jX f y fs).2 g (wi g fun z => hg ?_)
   show (if g = f then some u else mA g) = none
   rw [if_neg q]; exact z
theorem Inv.made (I:Inv X pins σ H s):Inv X pins σ (upd (upd H s.heap.objs.size (.own (s.heap.objs.size + 1))) (s.heap.objs.size + 1) (.ins C s.heap.objs.size []))
  { s with heap:=(s.heap.push PySem.W.emptyDict).push (PySem.W.instObj C s.heap.objs.size) }:=by
 have e1:(s.heap.push PySem.W.emptyDict).get? s.heap.objs.size = some PySem.W.emptyDict:=Heap.get?_push_size s.heap rfl
 have e2:((s.heap.push PySem.W.emptyDict).push (PySem.W.instObj C s.heap.objs.size)).get? (s.heap.objs.size + 1) = some (PySem.W.instObj C s.heap.objs.size):=by
  have:=Heap.get?_push_size (s.heap.push PySem.W.emptyDict) (o:=PySem.W.instObj C s.heap.objs.size) rfl
  rwa [Heap.size_push] at this
 have e3:(s.heap.push PySem.W.emptyDict).Ns s.heap.objs.size (fun _ => none):=⟨PySem.W.emptyDict, #[],_,e1,rfl,(fun e he => absurd he (by simp)),fun _ => rfl⟩
 have I1:=I.laid (a:=s.heap.objs.size) (o:=.own (s.heap.objs.size + 1)) (h':=s.heap.push PySem.W.emptyDict) (t':=s.toks) (fun b u q => Heap.get?_push_of_some _ q) (Nat.le_refl _) ⟨_,e1⟩
 refine I1.laid (a:=s.heap.objs.size + 1) (o:=.ins C s.heap.objs.size []) (t':=s.toks) (fun b u q => Heap.get?_push_of_some _ q) (Nat.le_of_eq (Heap.size_push _ _)) ?_
 have ne:s.heap.objs.size≠s.heap.objs.size + 1:=Nat.ne_of_lt (Nat.lt_succ_self _)
 refine ⟨by rw [upd_ne ne,upd_same],Nat.zero_le _,ne,e2,fun _ => none,(Heap.Ns1.of_empty e3).at fun o q => Heap.get?_push_of_some _ q,fun _ => True.intro,fun y hy => absurd rfl hy⟩
theorem Yy {prog:Program} {w:World} {env:Env} {e:Expr} {f:Str} {pos:Pos} {s:Shared} {Q:Value→Shared→Prop} (hb:attributeBase e f env (eval e env) = eval e env)
  (h:wpAny (model prog w) A (eval e env) (fun o s₁ => wpAny (model prog w) A (getAttr o f true) Q E s₁) E s):wpAny (model prog w) A (eval (.Attribute e f pos) env) Q E s :=
 Attribute_any_ h (by rw [arm_eval_Attribute,hb])
end
def tFld (K:PySem.W.Frag) (ta:TE) (f:Str):TE:=fun σ H Q => ta σ H fun x H1 => ∃ a C dx fs v,x = .ref a∧H1 a = some (.ins C dx fs)∧Cls K C∧NoAttr K C f∧fs.lookup f = some v∧Q v H1
def sFld (K:PySem.W.Frag) (ta tv:TE) (f:Str):TS:=fun D σ H => tv σ H fun y H1 => ta σ H1 fun x H2 => ∃ a C dx fs,x = .ref a∧H2 a = some (.ins C dx fs)∧Cls K C∧NoAttr K C f∧fs.length < 1000 ∧
 D.nx σ (upd H2 a (.ins C dx (putF f y fs)))
section
variable {X:Cx} {o e value:Expr} {f:Str} {pos pos':Pos} {ta tv:TE}
theorem pe_fld (he:PE X e ta) (hb:attributeBase e f X.env (eval e X.env) = eval e X.env):PE X (.Attribute e f pos) (tFld X.K ta f):=by
 intro pins s σ H Q I h
 refine Yy hb (thn (he pins s σ H _ I h) fun u s1 ⟨x,H1,I1,rx,a,C,dx,fs,v,ex,ea,c,n,l,q⟩ => ?_)
 subst ex
 obtain rfl:u = Value.ref a:=rx
 exact XR I1 ea c n l fun u' s2 I2 ru => ⟨v,H1,I2,ru,q⟩
theorem ps_fld (ha:PE X o ta) (hv:PE X value tv) (hs:swapsWith value (some (.Attribute o f pos')) pos.line X.env = pure false):PS X (.Assign [.Attribute o f pos'] value pos) (sFld X.K ta tv f):=by
 intro pins s σ H D I h
 refine plainObj_wpAny_Assign_Attribute (thn (hv pins s σ H _ I h) fun u s1 ⟨y,H1,I1,ry,q⟩ => thn (ha pins s1 σ H1 _ I1 q) fun ov s2 ⟨x,H2,I2,rx,a,C,dx,fs,ex,ea,c,n,l,q2⟩ => ?_) hs
 subst ex
 obtain rfl:ov = Value.ref a:=rx
 exact Xl I2 ea c n l ry fun s3 I3 => ⟨σ,_,I3,q2⟩
theorem methcall_of {pl:Sem Bool} {m:Str} {apos:Pos} {args:List Expr} {pins:List (Addr × Obj)} {s:Shared} {σ:St} {H:Hp} {Q:Value→Shared→Prop} {te:TE} (he:PE X e te) (I:Inv X pins σ H s)
  (h:te σ H fun x H1 => ∃ a C dx fs g,x = .ref a∧H1 a = some (.ins C dx fs)∧Cls X.K C∧Meth X.K C m g∧fs.lookup m = none ∧
   ∀ s1,Inv X pins σ H1 s1→wpAny (model X.prog X.w) X.A (callWith pos (.ref g) [.ref a] (backTo pos (starEach args X.env)) (backToKw pos (keywordEach [] X.env))) Q X.xe s1)
  (ht:eval (.Call (.Attribute e m apos) args [] pos) X.env = (do
   let ov ← eval e X.env
   standAt apos.atName
   let (f,first) ← holding [ov] (getMethod ov m pl)
   callWith pos f first (backTo pos (starEach args X.env)) (backToKw pos (keywordEach [] X.env)))) :
  wpAny (model X.prog X.w) X.A (eval (.Call (.Attribute e m apos) args [] pos) X.env) Q X.xe s:=by
 refine PySem.W.methodCall_KW (pl:=pl) (thn (he pins s σ H _ I h) fun u s1 ⟨x,H1,I1,rx,a,C,dx,fs,g,ex,ea,c,k,l,q⟩ => ?_) ht
 subst ex
 obtain rfl:u = Value.ref a:=rx
 exact xF I1 ea c k l (q s1 I1)
end
section
variable {X:Cx} {pins:List (Addr × Obj)} {σ:St} {H:Hp} {s:Shared} {A:Around} {E:Value→Shared→Prop} {Q:Value→Shared→Prop} {c:Value} {b:Bool}
inductive TyOf (K:PySem.W.Frag) (H:Hp):V→Value→Prop where
 | non:TyOf K H .non (.type "NoneType")
 | bl (x:Bool):TyOf K H (.bl x) (.type "bool")
 | int (i:Int):TyOf K H (.int i) (.type "int")
 | str (x:Str):TyOf K H (.str x) (.type "str")
 | flt (x:UInt64):TyOf K H (.flt x) (.type "float")
 | lst {a:Addr} {xs:List V} (e:H a = some (.lst xs)):TyOf K H (.ref a) (.type "list")
 | frz {a:Addr} {o:Obj} {xs:List V} (e:H a = some (.frz o (.lst xs))):TyOf K H (.ref a) (.type "list")
 | tup {a:Addr} {xs:List V} (e:H a = some (.tup xs)):TyOf K H (.ref a) (.type "tuple")
 | dK {a:Addr} {kvs:List (Key × V)} (e:H a = some (.dK kvs)):TyOf K H (.ref a) (.type "dict")
 | dT {a:Addr} {kvs:List (List Key × V)} (e:H a = some (.dT kvs)):TyOf K H (.ref a) (.type "dict")
 | ins {a C dx:Addr} {fs:List (Str × V)} (e:H a = some (.ins C dx fs)) (cl:Cls K C) (ha:PySem.W.findIn K (.ref C) "__class__" = some (some (.builtin "object.__class__")))
   (hn:PySem.W.specialIn K (.builtin "object.__class__") "__get__" = some (some (.builtin "getset_descriptor.__get__"))) (htk:PySem.W.takesIn K (.builtin "object.__class__") = some true)
   (hm:PySem.W.mroIn K C (.type "object") = some true):TyOf K H (.ref a) (.ref C)
theorem KH {x:V} {u t:Value} (I:Inv X pins σ H s) (rx:RelV x u) (ty:TyOf X.K H x t) (e:PySem.W.kitOne X.K t c = some b) (h:∀ tk,Q (.bool b) { s with toks:=tk }) :
  wpAny (model X.prog X.w) A (call (.builtin "isinstance") [u,c]) Q E s:=by
 cases ty with
 | non => cases (show u = Value.none from rx); exact PySem.W.kia_one PySem.W.kitx_none I.kIn True.intro e (fun z => nomatch z) h
 | bl y => cases (show u = Value.bool y from rx); exact PySem.W.kia_one PySem.W.kitx_bool I.kIn True.intro e (fun z => nomatch z) h
 | int i => obtain ⟨t,q⟩:=(show ∃ t,u = Value.int i t from rx); cases q; exact PySem.W.kia_one PySem.W.kitx_int I.kIn True.intro e (fun z => nomatch z) h
 | str y => obtain ⟨t,q⟩:=(show ∃ t,u = Value.str y t from rx); cases q; exact PySem.W.kia_one PySem.W.kitx_str I.kIn True.intro e (fun z => nomatch z) h
 | flt y => obtain ⟨t,q⟩:=(show ∃ t,u = Value.float y t from rx); cases q; exact PySem.W.kia_one PySem.W.kitx_float I.kIn True.intro e (fun z => nomatch z) h
 | @lst a xs ea =>
  cases (show u = Value.ref a from rx)
  obtain ⟨_,_,n,_,h1⟩:=(show ObjOk X.prog X.w H s.heap a (.lst xs) from I.hok a _ ea)
  exact PySem.W.kia_one PySem.W.kitx_list I.kIn ⟨_,h1,rfl⟩ e (fun z => nomatch z) h
 | @frz a ob xs ea =>
  cases (show u = Value.ref a from rx)
  obtain ⟨_,_,_,n,_,h1⟩:=(show ObjOk X.prog X.w H s.heap a (.frz ob (.lst xs)) from I.hok a _ ea)
  exact PySem.W.kia_one PySem.W.kitx_list I.kIn ⟨_,h1,rfl⟩ e (fun z => nomatch z) h
 | @tup a xs ea =>
  cases (show u = Value.ref a from rx)
  obtain ⟨_,_,_,p⟩:=(show ObjOk X.prog X.w H s.heap a (.tup xs) from I.hok a _ ea)
  obtain ⟨o,h1,h2,_⟩:=p
  exact PySem.W.kia_one PySem.W.kitx_tuple I.kIn ⟨o,h1,h2⟩ e (fun z => nomatch z) h
 | @dK a kvs ea =>
  cases (show u = Value.ref a from rx)
  obtain ⟨_,_,vs,_,p⟩:=(show ObjOk X.prog X.w H s.heap a (.dK kvs) from I.hok a _ ea)
  obtain ⟨o,es,ep,h1,h2,_⟩:=p
  exact PySem.W.kia_one PySem.W.kitx_dict I.kIn ⟨o,h1,h2.1⟩ e (fun z => nomatch z) h
 | @dT a kvs ea =>
  cases (show u = Value.ref a from rx)
  obtain ⟨_,_,xs,_,o,es,ep,h1,h2,_⟩:=(show ObjOk X.prog X.w H s.heap a (.dT kvs) from I.hok a _ ea)
  exact PySem.W.kia_one PySem.W.kitx_dict I.kIn ⟨o,h1,h2.1⟩ e (fun z => nomatch z) h
 | @ins a C dx fs ea cl ha hn htk hm =>
  cases (show u = Value.ref a from rx)
  obtain ⟨mA,O,_⟩:=kR I.hok ea
  obtain ⟨od,J,_⟩:=O.look
  exact PySem.W.kia_one (PySem.W.kitx_own (cl.get _) cl.hd ha hn htk hm) I.kIn J e (fun z => nomatch z) h
end
structure Room (k:Nat) (A:Around):Prop where
 hd:A.handled = none
 dp:A.depth + 3 * k + 5 < recursionLimit
 un:A.units + 16 * k + 200 < cLine
 gd:A.guards = some []
theorem Room.mono {j k:Nat} {A:Around} (r:Room k A) (h:j≤k):Room j A:=⟨r.hd,by have:=r.dp; omega,by have:=r.un; omega,r.gd⟩
theorem Room.deeper {k:Nat} {A:Around} (r:Room (k + 1) A) (env:Env):Room k (A.deeper env) :=
 ⟨r.hd,by have:=r.dp; show A.depth + 1 + 3 * k + 5 < _; omega,by have:=r.un; show A.units + 3 + 16 * k + 200 < _; omega,r.gd⟩
theorem XJ {A:Around} {C:Addr} {us:List Value} {kw:List (Str × Value)}:(A.under (.builtin "type.__call__" ⟨.ref C :: us,kw⟩)).depth = A.depth + 1:=by
 first | rfl | simp [Around.under,Code.weight,Code.isCreation,Code.isGuard,Code.isCaller,Code.frames,Code.isFrame,guardIds]
theorem XH {A:Around} {C:Addr} {us:List Value} {kw:List (Str × Value)}:(A.under (.builtin "type.__call__" ⟨.ref C :: us,kw⟩)).units = A.units + 1:=by
 first | rfl | simp [Around.under,Code.cUnits,Code.frames,Code.isFrame]
theorem make_guards {A:Around} {C:Addr} {us:List Value} {kw:List (Str × Value)}:(A.under (.builtin "type.__call__" ⟨.ref C :: us,kw⟩)).guards = A.guards:=by
 first | rfl | simp [Around.under,Code.guards,Code.isGuard,guardIds,pushGuards]
theorem Room.make {k:Nat} {A:Around} (r:Room (k + 1) A) (C:Addr) (us:List Value) (kw:List (Str × Value)):Room k (A.under (.builtin "type.__call__" ⟨.ref C :: us,kw⟩)) :=
 ⟨r.hd,by have:=r.dp; rw [XJ]; omega,by have:=r.un; rw [XH]; omega,make_guards.trans r.gd⟩
theorem Room.depth {k:Nat} {A:Around} (r:Room k A):A.depth < recursionLimit:=by have:=r.dp; omega
theorem Room.units {k:Nat} {A:Around} (r:Room k A):A.units + 64 < cLine:=by have:=r.un; omega
def tNil:TA:=fun _ H Q => Q [] H
def vH (ta:TE) (tr:TA):TA:=fun σ H Q => ta σ H fun x H1 => tr σ H1 fun xs H2 => Q (x :: xs) H2
section
variable {X:Cx} {e:Expr} {es:List Expr} {te:TE} {t:TA} {pos:Pos}
theorem pa_nil:PA X [] tNil:=fun _ _ _ _ H Q I h => Calls.spliced_nil ⟨[],H,I, .nil,h⟩
theorem pa_cons (ha:PE X e te) (hr:PA X es t) (hs:starEach (e :: es) X.env = (false,eval e X.env) :: starEach es X.env:=by rfl):PA X (e :: es) (vH te t):=by
 intro pos pins s σ H Q I h
 rw [hs]
 show wpAny _ _ (spliced ((false,eval e X.env) :: backTo pos (starEach es X.env))) _ _ s
 refine Calls.spliced_cons (thn (ha pins s σ H _ I h) fun u s1 ⟨x,H1,I1,r1,q1⟩ => ?_)
 exact thn (hr pos pins s1 σ H1 _ I1 q1) fun us s2 ⟨xs,H2,I2,r2,q2⟩ => ⟨x :: xs,H2,I2, .cons r1 r2,q2⟩
def tTup (t:TA):TE:=fun σ H Q => t σ H fun xs H1 => xs.length≤sizeLine∧∀ p,H1 p = none→Q (.ref p) (upd H1 p (.tup xs))
def tLst (t:TA):TE:=fun σ H Q => t σ H fun xs H1 => xs.length≤sizeLine∧∀ p,H1 p = none→Q (.ref p) (upd H1 p (.lst xs))
theorem pe_tup {x1} (h:PA X es t):PE X (.Tuple es x1 pos) (tTup t):=by
 intro pins s σ H Q I hq
 refine wpAny_Tuple_spliced (thn (h pos pins s σ H _ I hq) fun us s1 ⟨xs,H1,I1,r,z,q⟩ => ⟨by rw [← r.length]; exact z, ?_⟩)
 have hf:H1 s1.heap.objs.size = none:=I1.hok.fresh (Nat.le_refl _)
 refine ⟨.ref s1.heap.objs.size,upd H1 s1.heap.objs.size (.tup xs),I1.laid (t':=s1.toks) (fun b u e => Heap.get?_push_of_some _ e) (Nat.le_refl _) ?_,rfl,q _ hf⟩
 exact ⟨z,us,r,⟨_,Heap.get?_push_size _ rfl,rfl,_,rfl⟩⟩
theorem pe_lst (h:PA X es t):PE X (.List es pos) (tLst t):=by
 intro pins s σ H Q I hq
 refine wpAny_List_spliced (thn (h pos pins s σ H _ I hq) fun us s1 ⟨xs,H1,I1,r,z,q⟩ => ⟨by rw [← r.length]; exact z, ?_⟩)
 have hf:H1 s1.heap.objs.size = none:=I1.hok.fresh (Nat.le_refl _)
 refine ⟨.ref s1.heap.objs.size,upd H1 s1.heap.objs.size (.lst xs),I1.laid (t':=s1.toks) (fun b u e => Heap.get?_push_of_some _ e) (Nat.le_refl _) ?_,rfl,q _ hf⟩
 exact ⟨z,us,0,r,Heap.get?_push_size _ rfl⟩
end
abbrev Sp:=List V→Hp→VK→XK→Prop
abbrev CXT:=List Env→Hp→Shared→XK→Value→Shared→Prop
structure Env0 (P:Program) (w:World) (K:PySem.W.Frag) (mg:Str→Option Value) (base:Heap) (A:Around) (outer:List Env) (s:Shared) (H:Hp):Prop where
 frames:A.frames = some outer
 mod:Mod K mg base
 bs:∀ b o,base.get? b = some o→s.heap.get? b = some o∧H b = none
 bsz:base.objs.size≤s.heap.objs.size
 funs:s.heap.FunFrames base outer
 frf:∀ b ∈ frs outer,H b = none
 hok:HOk P w H s.heap
 bare:AllBare s.gens
def CE (outer:List Env) (P:Program) (w:World) (H:Hp) (s:Shared) (Q:VK) (u:Value) (s':Shared):Prop :=
 ∃ v H',s'.os = s.os∧AllBare s'.gens∧Un (frs outer) [] H H' s.heap s'.heap∧HOk P w H' s'.heap∧RelV v u∧Q v H'
def CR (CX:CXT) (outer:List Env) (P:Program) (w:World) (H:Hp) (s:Shared) (Q:VK) (E:XK) (r:Result) (s':Shared):Prop :=
 match r with
 | .ok (.ret u) => CE outer P w H s Q u s'
 | .ok _ => False
 | .error e => CX outer H s E e s'
structure FnOk (P:Program) (w:World) (K:PySem.W.Frag) (mg:Str→Option Value) (base:Heap) (CX:CXT) (k:Nat) (f:Addr) (fd:FuncData) (ps:List Str) (sp:Sp):Prop where
 len:∀ vs H Q E,sp vs H Q E→vs.length = ps.length
 run:∀ (A:Around) (outer:List Env) (s:Shared) (H:Hp) (args:Args) (us:List Value) (vs:List V) (Q:VK) (E:XK),Room k A→Env0 P w K mg base A outer s H→BindsTo s fd args (ps.zip us)→Vals vs us→sp vs H Q E →
  codeAny (model P w) A (.call (.ref f) args) (CR CX outer P w H s Q E) s
theorem FnOk.mono {P:Program} {w:World} {K:PySem.W.Frag} {mg:Str→Option Value} {base:Heap} {CX:CXT} {j k:Nat} {f:Addr} {fd:FuncData} {ps:List Str} {sp:Sp} (F:FnOk P w K mg base CX j f fd ps sp) (h:j≤k) :
  FnOk P w K mg base CX k f fd ps sp:=⟨F.len,fun A outer s H args us vs Q E hr => F.run A outer s H args us vs Q E (hr.mono h)⟩
theorem FnOk.imp {P:Program} {w:World} {K:PySem.W.Frag} {mg:Str→Option Value} {base:Heap} {CX:CXT} {k:Nat} {f:Addr} {fd:FuncData} {ps:List Str} {sp sp':Sp} (F:FnOk P w K mg base CX k f fd ps sp)
  (h:∀ vs H Q E,sp' vs H Q E→sp vs H Q E):FnOk P w K mg base CX k f fd ps sp' :=
 ⟨fun vs H Q E q => F.len vs H Q E (h _ _ _ _ q),fun A outer s H args us vs Q E hr he hb hv hs => F.run A outer s H args us vs Q E hr he hb hv (h _ _ _ _ hs)⟩
theorem Env0.make {P:Program} {w:World} {K:PySem.W.Frag} {mg:Str→Option Value} {base:Heap} {A:Around} {outer:List Env} {s:Shared} {H:Hp} (e:Env0 P w K mg base A outer s H) (C:Addr) (us:List Value) (kw:List (Str × Value)) :
  Env0 P w K mg base (A.under (.builtin "type.__call__" ⟨.ref C :: us,kw⟩)) outer s H:=⟨by first | exact e.frames | (simpa [Around.under,Code.envs,Code.isFrame,pushEnvs] using e.frames),e.mod,e.bs,e.bsz,e.funs,e.frf,e.hok,e.bare⟩
section
variable {X:Cx} {pins:List (Addr × Obj)} {σ:St} {H:Hp} {s s':Shared}
theorem Inv.env0 (I:Inv X pins σ H s):Env0 X.prog X.w X.K X.mg X.base X.A X.stack s H :=
 ⟨I.ok.frames,I.ok.mod,I.bs,Nat.le_trans I.ok.bsz I.sz,I.stack,I.stkFree,I.hok,I.bare⟩
theorem Inv.after {Q:VK} {u:Value} (I:Inv X pins σ H s) (h:CE X.stack X.prog X.w H s Q u s'):EP X pins σ Q u s':=by
 obtain ⟨v,H',os,bare,un,hok,r,q⟩:=h
 obtain ⟨hh,g,d,t,os'⟩:=s'
 obtain rfl:os' = s.os:=os
 exact ⟨v,H',I.call (h':=hh) (g':=g) (d':=d) (t':=t) (ch:=[]) un hok bare (fun b z => absurd z (by simp)),r,q⟩
end
def vN (sp:Sp) (dvs:List V) (E:XK) (t:TA):TE:=fun σ H Q => t σ H fun vs H1 => sp (vs ++ dvs) H1 Q E
def Vx (C:Addr) (m:Str) (sp:Sp) (dvs:List V) (E:XK) (ta:TE) (t:TA):TE:=fun σ H Q => ta σ H fun x H1 => ∃ a dx fs,x = .ref a∧H1 a = some (.ins C dx fs)∧fs.lookup m = none ∧
 t σ H1 fun vs H2 => sp (x :: (vs ++ dvs)) H2 Q E
def tMake (C:Addr) (sp:Sp) (dvs:List V) (E:XK) (t:TA):TE:=fun σ H Q => t σ H fun vs H1 => ∀ x dx,H1 x = none→H1 dx = none→dx≠x →
 sp (.ref x :: (vs ++ dvs)) (upd (upd H1 dx (.own x)) x (.ins C dx [])) (fun v H2 => v = .non∧Q (.ref x) H2) E
def Binds (K:PySem.W.Frag) (fd:FuncData) (ps:List Str) (ds:List Value):Prop :=
 ∀ (s:Shared) (us:List Value),K.In s.heap→(us ++ ds).length = ps.length→BindsTo s fd ⟨us, []⟩ (ps.zip (us ++ ds))
theorem Binds.all {K:PySem.W.Frag} {fd:FuncData} {ps:List Str} (h:∀ us:List Value,us.length = ps.length→bindArgs fd ⟨us, []⟩ = pure (ps.zip us)):Binds K fd ps []:=fun s us _ hl => by
 rw [List.append_nil] at hl ⊢
 exact .of_eq (h us hl)
def j4 (CX:CXT) (X:Cx) (E:XK):Prop:=∀ (pins:List (Addr × Obj)) (σ:St) (H:Hp) (s:Shared) (e:Value) (s':Shared),Inv X pins σ H s→CX X.stack H s E e s'→X.xe e s'
section
variable {X:Cx} {CX:CXT} {k:Nat} {f C:Addr} {fd:FuncData} {ps:List Str} {sp:Sp} {dvs:List V} {ds:List Value} {E:XK} {x m:Str} {p pos apos:Pos} {e o:Expr} {es:List Expr} {ta:TE} {t:TA}
theorem Jl {pins:List (Addr × Obj)} {σ:St} {H:Hp} {s:Shared} {Q:VK} {us:List Value} {vs:List V} (F:FnOk X.prog X.w X.K X.mg X.base CX k f fd ps sp) (hr:Room k X.A) (hb:Binds X.K fd ps ds) (hd:Vals dvs ds) (hx:j4 CX X E)
  (I:Inv X pins σ H s) (r:Vals vs us) (h:sp (vs ++ dvs) H Q E):wpAny (model X.prog X.w) X.A (call (.ref f) us) (EP X pins σ Q) X.xe s:=by
 have r2:Vals (vs ++ dvs) (us ++ ds):=r.append hd
 have hl:(us ++ ds).length = ps.length:=by rw [← r2.length]; exact F.len _ _ _ _ h
 refine wpAny_call (codeAny_mono (F.run X.A X.stack s H ⟨us, []⟩ (us ++ ds) (vs ++ dvs) Q E hr I.env0 (hb s us I.kIn hl) r2 h) fun r s' hq => ?_)
 cases r with
 | error e => exact hx pins σ H s e s' I hq
 | ok fl =>
  cases fl with
  | ret u => exact I.after hq
  | next => exact False.elim hq
  | brk => exact False.elim hq
  | cont => exact False.elim hq
theorem pe_call (F:FnOk X.prog X.w X.K X.mg X.base CX k f fd ps sp) (hr:Room k X.A) (hg:Gl X x) (hm:X.mg x = some (.ref f)) (hk:PySem.W.keepIn X.K (.ref f) = true) (hb:Binds X.K fd ps ds) (hd:Vals dvs ds) (hx:j4 CX X E)
  (ha:PA X (e :: es) t) (hdb:(x == ("__debug__" : Str)) = false:=by decide) (he:starEach (e :: es) X.env = (false,eval e X.env) :: starEach es X.env:=by rfl) (hpl:(backTo pos (starEach es X.env)).any (·.1) = false:=by rfl) :
  PE X (.Call (.Name x p) (e :: es) [] pos) (vN sp dvs E t):=by
 intro pins s σ H Q I h
 refine wpAny_Call_Name_kw (xn I hg hm ?_ hdb)
 refine PySem.W.callWith_K (h₀:=X.base) I.ok.mod.kin hk (thn (ha pos pins s σ H _ I h) fun us s1 ⟨vs,H1,I1,r,q⟩ => ⟨I1.kIn, ?_⟩) he hpl
 exact Jl F hr hb hd hx I1 r q
theorem pe_meth {pl:Sem Bool} (he:PE X o ta) (c:Cls X.K C) (hm:Meth X.K C m f) (F:FnOk X.prog X.w X.K X.mg X.base CX k f fd ps sp) (hr:Room k X.A) (hb:Binds X.K fd ps ds) (hd:Vals dvs ds) (hx:j4 CX X E) (ha:PA X (e :: es) t)
  (hst:starEach (e :: es) X.env = (false,eval e X.env) :: starEach es X.env:=by rfl) (hpl:(backTo pos (starEach es X.env)).any (·.1) = false:=by rfl)
  (ht:eval (.Call (.Attribute o m apos) (e :: es) [] pos) X.env = (do
   let ov ← eval o X.env
   standAt apos.atName
   let (f,first) ← holding [ov] (getMethod ov m pl)
   callWith pos f first (backTo pos (starEach (e :: es) X.env)) (backToKw pos (keywordEach [] X.env))):=by rfl) :
  PE X (.Call (.Attribute o m apos) (e :: es) [] pos) (Vx C m sp dvs E ta t):=by
 intro pins s σ H Q I h
 refine PySem.W.methodCall_KW (pl:=pl) (thn (he pins s σ H _ I h) fun u s1 ⟨x,H1,I1,rx,a,dx,fs,ex,ea,l,q⟩ => ?_) ht
 subst ex
 obtain rfl:u = Value.ref a:=rx
 refine xF I1 ea c hm l ?_
 refine PySem.W.callWith_K (first:=[.ref a]) (h₀:=X.base) I.ok.mod.kin hm.kp (thn (ha pos pins s1 σ H1 _ I1 q) fun us s2 ⟨vs,H2,I2,r,q2⟩ => ⟨I2.kIn, ?_⟩) hst hpl
 exact Jl (us:=.ref a :: us) (vs:=.ref a :: vs) F hr hb hd hx I2 (.cons rfl r) q2
theorem pe_meth0 {pl:Sem Bool} (he:PE X o ta) (c:Cls X.K C) (hm:Meth X.K C m f) (F:FnOk X.prog X.w X.K X.mg X.base CX k f fd ps sp) (hr:Room k X.A) (hb:Binds X.K fd ps ds) (hd:Vals dvs ds) (hx:j4 CX X E)
  (ht:eval (.Call (.Attribute o m apos) [] [] pos) X.env = (do
   let ov ← eval o X.env
   standAt apos.atName
   let (f,first) ← holding [ov] (getMethod ov m pl)
   callWith pos f first (backTo pos (starEach [] X.env)) (backToKw pos (keywordEach [] X.env))):=by rfl) :
  PE X (.Call (.Attribute o m apos) [] [] pos) (Vx C m sp dvs E ta tNil):=by
 intro pins s σ H Q I h
 refine PySem.W.methodCall_KW (pl:=pl) (thn (he pins s σ H _ I h) fun u s1 ⟨x,H1,I1,rx,a,dx,fs,ex,ea,l,q⟩ => ?_) ht
 subst ex
 obtain rfl:u = Value.ref a:=rx
 refine xF I1 ea c hm l ?_
 exact PySem.W.callWith_K0 (first:=[.ref a]) I1.kIn hm.kp (Jl (us:=[.ref a]) (vs:=[.ref a]) F hr hb hd hx I1 (.cons rfl .nil) q)
structure Mk (K:PySem.W.Frag) (C f:Addr):Prop where
 makes:PySem.W.makesIn K C = true
 init:PySem.W.findIn K (.ref C) "__init__" = some (some (.ref f))
 fn:PySem.W.isFn K (.ref f) = true
 kp:PySem.W.keepIn K (.ref C) = true
theorem run_make {pins:List (Addr × Obj)} {σ:St} {H:Hp} {s:Shared} {Q:VK} {us:List Value} {vs:List V} (M:Mk X.K C f) (F:FnOk X.prog X.w X.K X.mg X.base CX k f fd ps sp) (hr:Room (k + 1) X.A) (hb:Binds X.K fd ps ds) (hd:Vals dvs ds)
  (hx:j4 CX X E) (I:Inv X pins σ H s) (r:Vals vs us)
  (h:∀ x dx,H x = none→H dx = none→dx≠x→sp (.ref x :: (vs ++ dvs)) (upd (upd H dx (.own x)) x (.ins C dx [])) (fun v H2 => v = .non∧Q (.ref x) H2) E) :
  wpAny (model X.prog X.w) X.A (call (.ref C) us) (EP X pins σ Q) X.xe s:=by
 have hq:=h (s.heap.objs.size + 1) s.heap.objs.size (I.hok.fresh (Nat.le_succ _)) (I.hok.fresh (Nat.le_refl _)) (Nat.ne_of_lt (Nat.lt_succ_self _))
 have I2:=Inv.made (C:=C) I
 have r2:Vals (V.ref (s.heap.objs.size + 1) :: (vs ++ dvs)) (Value.ref (s.heap.objs.size + 1) :: (us ++ ds)):=.cons rfl (r.append hd)
 have hl:(Value.ref (s.heap.objs.size + 1) :: us ++ ds).length = ps.length:=by
  have e:=r2.length
  rw [F.len _ _ _ _ hq] at e
  exact e.symm
 refine wpAny_call (make_map (f:=f) I.kIn M.makes M.init (beq_iff_eq.mp M.fn) (codeAny_mono (F.run _ X.stack _ _ ⟨Value.ref (s.heap.objs.size + 1) :: us, []⟩ (Value.ref (s.heap.objs.size + 1) :: (us ++ ds)) _ _ E (hr.make C us [])
  (I2.env0.make C us []) (hb _ (Value.ref (s.heap.objs.size + 1) :: us) I2.kIn hl) r2 hq) fun r s' hq' => ?_))
 cases r with
 | error e => exact hx pins σ _ _ e s' I2 hq'
 | ok fl =>
  cases fl with
  | ret u =>
   obtain ⟨v,H',I3,rv,ev,q3⟩:=I2.after hq'
   subst ev
   exact ⟨rv,⟨V.ref (s.heap.objs.size + 1),H',I3,rfl,q3⟩⟩
  | next => exact False.elim hq'
  | brk => exact False.elim hq'
  | cont => exact False.elim hq'
theorem pe_make (M:Mk X.K C f) (F:FnOk X.prog X.w X.K X.mg X.base CX k f fd ps sp) (hr:Room (k + 1) X.A) (hg:Gl X x) (hm:X.mg x = some (.ref C)) (hb:Binds X.K fd ps ds) (hd:Vals dvs ds) (hx:j4 CX X E)
  (ha:PA X (e :: es) t) (hdb:(x == ("__debug__" : Str)) = false:=by decide) (he:starEach (e :: es) X.env = (false,eval e X.env) :: starEach es X.env:=by rfl) (hpl:(backTo pos (starEach es X.env)).any (·.1) = false:=by rfl) :
  PE X (.Call (.Name x p) (e :: es) [] pos) (tMake C sp dvs E t):=by
 intro pins s σ H Q I h
 refine wpAny_Call_Name_kw (xn I hg hm ?_ hdb)
 refine PySem.W.callWith_K (h₀:=X.base) I.ok.mod.kin M.kp (thn (ha pos pins s σ H _ I h) fun us s1 ⟨vs,H1,I1,r,q⟩ => ⟨I1.kIn, ?_⟩) he hpl
 exact run_make M F hr hb hd hx I1 r q
end
structure FnScope (N P:List Str) (sc:Scope):Prop where
 kind:sc.kind = .function
 co:sc.isCoroutine = false
 gen:sc.isGenerator = false
 nd:N.Nodup
 pre:N.take P.length = P
 par:∀ x ∈ P,sc.names.lookup x = some .local∨sc.names.lookup x = some .cell
 nofree:∀ y ∈ sc.names,y.2 ≠ .free
theorem Vn {kindOf:Str→Option NameKind} {x:Str}:∀ {binds:List (Str × Value)} {m:Str→Option Value},(∀ v,(x,v) ∉ binds)→bindL kindOf binds m x = m x
 | [],_,_ => rfl
 | (n,v) :: r,m,h => by
  unfold bindL
  rw [Vn fun w hw => h w (List.mem_cons_of_mem _ hw)]
  split
  ·have:x≠n:=by rintro rfl; exact h v List.mem_cons_self
   simp [this]
  ·rfl
theorem Vp {kindOf:Str→Option NameKind} {x:Str}:∀ {binds:List (Str × Value)} {m:Str→Option Value},(∀ v,(x,v) ∉ binds)→bindC kindOf binds m x = m x
 | [],_,_ => rfl
 | (n,v) :: r,m,h => by
  unfold bindC
  rw [Vp fun w hw => h w (List.mem_cons_of_mem _ hw)]
  split
  ·rfl
  ·have:x≠n:=by rintro rfl; exact h v List.mem_cons_self
   simp [this]
theorem Vo {kindOf:Str→Option NameKind} {x:Str} {v:Value}:∀ {P:List Str} {vs:List Value} {i:Nat} {m:Str→Option Value},P.Nodup→P[i]? = some x→vs[i]? = some v→kindOf x = some .local →
  bindL kindOf (P.zip vs) m x = some v
 | [],_,_,_,_,h,_,_ => by simp at h
 | _ :: _, [],_,_,_,_,h,_ => by simp at h
 | p :: P,w :: vs,0,m,nd,h1,h2,hk => by
  simp at h1 h2; subst h1; subst h2
  show bindL kindOf ((p,w) :: P.zip vs) m p = _
  unfold bindL
  rw [Vn fun v hv => (List.nodup_cons.mp nd).1 (List.of_mem_zip hv).1,if_pos hk]
  simp
 | p :: P,w :: vs,i + 1,m,nd,h1,h2,hk => by
  show bindL kindOf ((p,w) :: P.zip vs) m x = _
  unfold bindL
  exact Vo (i:=i) (List.nodup_cons.mp nd).2 (by simpa using h1) (by simpa using h2) hk
theorem Vq {kindOf:Str→Option NameKind} {x:Str} {v:Value}:∀ {P:List Str} {vs:List Value} {i:Nat} {m:Str→Option Value},P.Nodup→P[i]? = some x→vs[i]? = some v→kindOf x≠some .local →
  bindC kindOf (P.zip vs) m x = some v
 | [],_,_,_,_,h,_,_ => by simp at h
 | _ :: _, [],_,_,_,_,h,_ => by simp at h
 | p :: P,w :: vs,0,m,nd,h1,h2,hk => by
  simp at h1 h2; subst h1; subst h2
  show bindC kindOf ((p,w) :: P.zip vs) m p = _
  unfold bindC
  rw [Vp fun v hv => (List.nodup_cons.mp nd).1 (List.of_mem_zip hv).1,if_neg hk]
  simp
 | p :: P,w :: vs,i + 1,m,nd,h1,h2,hk => by
  show bindC kindOf ((p,w) :: P.zip vs) m x = _
  unfold bindC
  exact Vq (i:=i) (List.nodup_cons.mp nd).2 (by simpa using h1) (by simpa using h2) hk
def start (N:List Str) (vs:List V):St:=vs.map some ++ List.replicate (N.length - vs.length) none
def cxOf (CX:CXT) (P:Program) (w:World) (K:PySem.W.Frag) (mg:Str→Option Value) (base:Heap) (N:List Str) (qual:Str) (scope:Scope) (f:Addr) (cd:Value) (A:Around) (outer:List Env) (s:Shared) (H:Hp) (E:XK):Cx where
 prog:=P
 w:=w
 K:=K
 mg:=mg
 base:=base
 A:=A.deeper (envOfC qual scope s.heap.objs.size f cd)
 N:=N
 s₀:=s
 H₀:=H
 env:=envOfC qual scope s.heap.objs.size f cd
 outer:=outer
 stack:=envOfC qual scope s.heap.objs.size f cd :: outer
 ex:=[]
 calm:=true
 fn:=fun _ => true
 pn:=[]
 xe:=fun e s' => wpAny (model P w) (A.deeper (envOfC qual scope s.heap.objs.size f cd)) (leaving (envOfC qual scope s.heap.objs.size f cd) e) (fun _ s'' => CX outer H s E e s'') (fun e' s'' => CX outer H s E e' s'') s'
theorem Z9 {sc:Scope} {n:Nat} {x:Str} (h:sc.names.lookup x = some .cell):∃ c,(cellsFrom n sc.names []).lookup x = some c:=by
 have q:=PySem.W.cellsFrom_some sc.names n [] (.inl h)
 exact Option.isSome_iff_exists.mp q
theorem KK {CX:CXT} {P:Program} {w:World} {K:PySem.W.Frag} {mg:Str→Option Value} {base:Heap} {N ps:List Str} {qual:Str} {scope:Scope} {f:Addr} {cd:Value} {A:Around} {outer:List Env} {s s1:Shared} {H:Hp} {E:XK} {us:List Value} {vs:List V}
  (S:FnScope N ps scope) (hd:A.handled = none) (e0:Env0 P w K mg base A outer s H) (hl:vs.length = ps.length) (r:Vals vs us)
  (x:InCallC s s.heap.objs.size (bindL (envOfC qual scope s.heap.objs.size f cd).kindOf (ps.zip us) fun _ => none) (cellsFrom (s.heap.objs.size + 1) scope.names []) (bindC (envOfC qual scope s.heap.objs.size f cd).kindOf (ps.zip us) fun _ => none) s1) :
  Inv (cxOf CX P w K mg base N qual scope f cd A outer s H E) [] (start N vs) H s1:=by
 have hpl:ps.length≤N.length:=by have:=congrArg List.length S.pre; rw [List.length_take] at this; omega
 obtain ⟨h1,tk,rfl,hk⟩:=x.done
 have noA:∀ b:Addr,b ∉ (cxOf CX P w K mg base N qual scope f cd A outer s H E).ex:=fun b z => absurd (show b ∈ ([]:List Addr) from z) (by simp)
 refine ⟨⟨e0.mod,S.kind,rfl,rfl,Nat.le_refl _,fun y z c h1 h2 => ?_,fun y hy => ?_,fun y c _ h => ?_,fun _ => hd,Around.frames_deeper e0.frames, .inr ⟨rfl,rfl⟩,fun b z => absurd z (noA b),e0.bs,e0.bsz,fun b _ _ => noA b,fun b z => absurd z (noA b),e0.funs,e0.frf⟩,
  rfl,e0.bare,Un.kept hk,⟨_,x.toInCall.ns,fun i y v h1 h2 h3 => ?_⟩,fun y c h => ⟨_,x.cell y c h⟩,e0.hok.fresh (Nat.le_refl _),fun y c h => ?_,fun p hp => absurd (show p ∈ ([]:List (Addr × Obj)) from hp) (by simp),e0.hok.kept hk, ?_⟩
 ·exact name_of_addr x.apart (PySem.mem_of_lookup h1) (PySem.mem_of_lookup h2)
 ·have hy:scope.names.lookup y = some .cell∨scope.names.lookup y = some .free:=hy
  rcases hy with hy | hy
  ·exact Z9 hy
  ·exact absurd rfl (S.nofree _ (PySem.mem_of_lookup hy))
 ·exact Nat.le_of_lt (x.above y c (PySem.mem_of_lookup h))
 ·have hi:i < vs.length:=by
   unfold start at h2
   by_cases hi:i < vs.length
   ·exact hi
   ·rw [List.getElem?_append_right (by simpa using hi)] at h2
    rw [List.getElem?_replicate] at h2
    split at h2 <;> cases h2
  have ha:vs[i]? = some v:=by
   unfold start at h2
   rw [List.getElem?_append_left (by simpa using hi),List.getElem?_map] at h2
   cases e:vs[i]? with
   | none => rw [e] at h2; cases h2
   | some a => rw [e] at h2; cases h2; rfl
  obtain ⟨u,hu,rv⟩:=r.get ha
  have hp:ps[i]? = some y:=by
   rw [← S.pre,List.getElem?_take_of_lt (by omega)]; exact h1
  have ndP:ps.Nodup:=by rw [← S.pre]; exact S.nd.sublist (List.take_sublist _ _)
  refine ⟨u,rv, ?_⟩
  rcases S.par y (List.mem_of_getElem? hp) with k | k
  ·exact .inl ⟨k,Vo ndP hp hu k⟩
  ·obtain ⟨c,e⟩:=Z9 (n:=s.heap.objs.size + 1) k
   refine .inr ⟨.inl k,c,e, ?_⟩
   have q:=x.cell y c e
   rw [Vq ndP hp hu (by show scope.names.lookup y≠_; rw [k]; decide)] at q
   exact q
 ·exact e0.hok.fresh (Nat.le_of_lt (x.above y c (PySem.mem_of_lookup h)))
 ·unfold start
  show _ = N.length
  rw [List.length_append,List.length_map,List.length_replicate]
  omega
theorem fn_of {CX:CXT} {P:Program} {w:World} {K:PySem.W.Frag} {mg:Str→Option Value} {base:Heap} {k:Nat} {f:Addr} {name qual:Str} {params:Arguments} {body:List Stmt} {scope:Scope} {dV kV doc pm cdv ct oc:Value} {an od:Option Addr}
  {osl:Array (Option Value)} {N ps:List Str} {sp:Sp} (lk:K.lookup f = some ⟨oc,od, .func (PySem.W.fnOf name qual params body scope dV kV doc pm an cdv ct),osl⟩) (hcd:PySem.W.codeIn K cdv qual = true) (S:FnScope N ps scope)
  (len:∀ vs H Q E,sp vs H Q E→vs.length = ps.length)
  (hbody:∀ (A:Around) (outer:List Env) (s:Shared) (H:Hp) (vs:List V) (Q:VK) (E:XK),Room k (A.deeper (envOfC qual scope s.heap.objs.size f cdv))→sp vs H Q E →
   ∃ t,PSs (cxOf CX P w K mg base N qual scope f cdv A outer s H E) body t∧t { nx:=fun _ H' => Q .non H',rt:=Q } (start N vs) H) :
  FnOk P w K mg base CX (k + 1) f (PySem.W.fnOf name qual params body scope dV kV doc pm an cdv ct) ps sp:=by
 refine ⟨len,fun A outer s H args us vs Q E hr e0 hb r hsp => ?_⟩
 have hl:=len _ _ _ _ hsp
 have KX:K.In s.heap:=e0.mod.kin.keeps fun b o e => (e0.bs b o e).1
 have lim:s.heap.NoLimit:=e0.mod.nolimit.keeps fun b o e => (e0.bs b o e).1
 have hkind:∀ y ∈ ps.zip us,scope.names.lookup y.1 = some .local∨(scope.names.lookup y.1 = some .cell∧((cellsFrom (s.heap.objs.size + 1) scope.names []).lookup y.1).isSome = true):=fun ⟨n,v⟩ hy => by
  rcases S.par n (List.of_mem_zip hy).1 with q | q
  ·exact .inl q
  ·exact .inr ⟨q,PySem.W.cellsFrom_some _ _ _ (.inl q)⟩
 refine codeAny_call_function hr.depth (KX _ _ lk) rfl S.co S.gen rfl (PySem.W.codeRec_of KX hcd) (hb _ _ _ _ ?_)
 refine wpAny_newFunctionEnv_cells S.kind hkind fun env he s1 x => ?_
 subst he
 refine ⟨lim.keeps x.toInCall.keep,codeAny_func ?_⟩
 obtain ⟨t,ht,hq⟩:=hbody A outer s H vs Q E (hr.deeper _) hsp
 have I:Inv (cxOf CX P w K mg base N qual scope f cdv A outer s H E) [] (start N vs) H s1:=KK S hr.hd e0 hl r x
 refine wpAny_mono (ht [] s1 (start N vs) H _ I hq) (fun fl s' hs => ?_) fun e s' hs => hs
 have fin:∀ {σ':St} {H':Hp} {v:V} {u:Value},Inv (cxOf CX P w K mg base N qual scope f cdv A outer s H E) [] σ' H' s'→RelV v u→Q v H'→CE outer P w H s Q u s' :=
  fun {σ' H' v u} J rv q => ⟨v,H',J.os,J.bare,J.base,J.hok,rv,q⟩
 cases fl with
 | ret u =>
  obtain ⟨v,σ',H',J,rv,q⟩:=hs
  exact fin J rv q
 | next =>
  obtain ⟨σ',H',J,q⟩:=hs
  exact fin (v:=V.non) (u:=Value.none) J rfl q
 | brk =>
  obtain ⟨_,_,_,q⟩:=hs
  exact False.elim q
 | cont =>
  obtain ⟨_,_,_,q⟩:=hs
  exact False.elim q
section
variable {X:Cx} {x:Str} {p pos:Pos} {e:Expr} {es:List Expr} {t:TA} {id T:String} {r:List V→Hp→VK→Prop}
def tCB (r:List V→Hp→VK→Prop) (t:TA):TE:=fun σ H Q => t σ H fun vs H1 => r vs H1 Q
theorem pe_callB (hc:xV X (.builtin id) r) (hg:Gl X x) (hm:X.mg x = none) (hv:bootBuiltins x = some (.builtin id)) (ha:PA X (e :: es) t) (hn:x ≠ "__name__" := by decide) (hdb:(x == ("__debug__" : Str)) = false:=by decide)
  (he:starEach (e :: es) X.env = (false,eval e X.env) :: starEach es X.env:=by rfl) (hpl:(backTo pos (starEach es X.env)).any (·.1) = false:=by rfl):PE X (.Call (.Name x p) (e :: es) [] pos) (tCB r t):=by
 intro pins s σ H Q I h
 refine wpAny_Call_Name_kw (ZN I hg hm hv ?_ hn hdb)
 exact PyProof.Rows.callWith_builtin1 (thn (ha pos pins s σ H _ I h) fun us s1 ⟨vs,H1,I1,r1,q1⟩ => hc pins s1 σ H1 vs us Q I1 r1 q1) he hpl
theorem J0 (hc:xV X (.type T) r) (hg:Gl X x) (hm:X.mg x = none) (hv:bootBuiltins x = some (.type T)) (ha:PA X (e :: es) t) (hn:x ≠ "__name__" := by decide) (hdb:(x == ("__debug__" : Str)) = false:=by decide)
  (he:starEach (e :: es) X.env = (false,eval e X.env) :: starEach es X.env:=by rfl) (hpl:(backTo pos (starEach es X.env)).any (·.1) = false:=by rfl):PE X (.Call (.Name x p) (e :: es) [] pos) (tCB r t):=by
 intro pins s σ H Q I h
 refine wpAny_Call_Name_kw (ZN I hg hm hv ?_ hn hdb)
 exact PyProof.Rows.callWith_type1 (thn (ha pos pins s σ H _ I h) fun us s1 ⟨vs,H1,I1,r1,q1⟩ => hc pins s1 σ H1 vs us Q I1 r1 q1) he hpl
end
end L2
namespace HT
open PySem PyProof.Rows
section
def sIx (n d:Nat):Option Int→Nat
 | none => d
 | some v => if v < 0 then (v + (n:Int)).toNat else min v.toNat n
theorem sIx_nat (n d k:Nat):sIx n d (some (k:Int)) = min k n:=by
 show (if (k:Int) < 0 then ((k:Int) + (n:Int)).toNat else min (k:Int).toNat n) = min k n
 rw [if_neg (by omega),Int.toNat_natCast]
end
end HT
namespace L2
open PySem PySem.Spec PyProof.Rows
abbrev TO:=St→Hp→(Option Int→Hp→Prop)→Prop
def PO (X:Cx) (e:Option Expr) (t:TO):Prop :=
 ∀ (pins:List (Addr × Obj)) (s:Shared) (σ:St) (H:Hp) (Q:Option Int→Hp→Prop),Inv X pins σ H s→t σ H Q →
  wpAny (model X.prog X.w) X.A (evalPart e X.env) (fun u s' => ∃ o H',Inv X pins σ H' s'∧IsPart u o∧Q o H') X.xe s
def va:TO:=fun _ H Q => Q none H
def zx (t:TE):TO:=fun σ H Q => t σ H fun x H1 => ∃ i,x = .int i∧Q (some i) H1
section
variable {X:Cx} {e:Expr} {te:TE} {lo hi:Option Expr} {tl th:TO} {pos p2:Pos}
theorem po_none:PO X none va:=by
 intro pins s σ H Q I h
 rw [evalPart_none]
 exact wpAny_pure ⟨none,H,I, .none,h⟩
theorem po_some (h:PE X e te):PO X (some e) (zx te):=by
 intro pins s σ H Q I hw
 rw [evalPart_some]
 refine thn (h pins s σ H _ I hw) fun u s1 ⟨x,H1,I1,r1,q1⟩ => ?_
 obtain ⟨i,rfl,q⟩:=q1
 obtain ⟨t,rfl⟩:=r1
 exact ⟨some i,H1,I1, .int i t,q⟩
def SlR (X:Cx) (r:V→Option Int→Option Int→Hp→VK→Prop):Prop :=
 ∀ (pins:List (Addr × Obj)) (s:Shared) (σ:St) (H:Hp) (x:V) (v vl vu:Value) (lo hi:Option Int) (sl:Addr) (Q:VK),Inv X pins σ H s→RelV x v→s.heap.IsSliceOf sl vl vu .none→IsPart vl lo→IsPart vu hi→r x lo hi H Q →
  ∃ T id,typeLookup (.type T) "__getitem__" = pure (some (.builtin id))∧s.TypeIs v T∧wpAny (model X.prog X.w) X.A (getItem v (.ref sl)) (EP X pins σ Q) X.xe s
def tSl (r:V→Option Int→Option Int→Hp→VK→Prop) (te:TE) (tl th:TO):TE:=fun σ H Q => te σ H fun x H1 => tl σ H1 fun l H2 => th σ H2 fun u H3 => r x l u H3 Q
theorem pe_slice {r:V→Option Int→Option Int→Hp→VK→Prop} (hr:SlR X r) (he:PE X e te) (hl:PO X lo tl) (hu:PO X hi th):PE X (.Subscript e (.Slice lo hi none p2) pos) (tSl r te tl th):=by
 intro pins s σ H Q I h
 refine Subscript_ (thn (he pins s σ H _ I h) fun v s1 ⟨x,H1,I1,r1,q1⟩ => ?_)
 refine wpAny_Slice (thn (hl pins s1 σ H1 _ I1 q1) fun vl s2 ⟨l,H2,I2,pl,q2⟩ => thn (hu pins s2 σ H2 _ I2 q2) fun vu s3 ⟨u,H3,I3,pu,q3⟩ => ?_)
 rw [evalPart_none]
 refine wpAny_pure ?_
 have I4:Inv X pins σ H3 { s3 with heap:=s3.heap.push { cls:=.type "slice", data:=.fields #[vl,vu, .none] } }:=I3.kept (t':=s3.toks) fun b ob q => Heap.get?_push_of_some _ q
 obtain ⟨T,id,hT,ht,hg⟩:=hr pins { s3 with heap:=s3.heap.push { cls:=.type "slice", data:=.fields #[vl,vu, .none] } } σ H3 x v vl vu l u s3.heap.objs.size Q I4 r1 (Heap.IsSliceOf.new ..) pl pu q3
 show wpAny (model X.prog X.w) X.A (subscriptTail e (.Slice lo hi none p2) v (.ref s3.heap.objs.size)) (EP X pins σ Q) X.xe { s3 with heap:=s3.heap.push { cls:=.type "slice", data:=.fields #[vl,vu, .none] } }
 exact tail_any (ops:=[.ref s3.heap.objs.size,v]) ht hT hg (by with_unfolding_all rfl)
def cutV (xs:List V) (lo hi:Option Int):List V:=(xs.drop (HT.sIx xs.length 0 lo)).take (HT.sIx xs.length xs.length hi - HT.sIx xs.length 0 lo)
theorem Zc (xs:List V) (lo hi:Option Int):(cutV xs lo hi).length≤xs.length:=by
 unfold cutV
 rw [List.length_take,List.length_drop]
 omega
end
def ixN (n:Nat) (i:Int):Option Nat:=if 0≤i then (if i < n then some i.toNat else none) else if -(n:Int)≤i then some (i + n).toNat else none
def atI {α:Type} (xs:List α) (i:Int):Option α:=(ixN xs.length i).bind fun j => xs[j]?
theorem KG {n:Nat} {i:Int} {j:Nat} (h:ixN n i = some j):seqIndex? i n = some j∧j < n ∧ -(n:Int)≤i∧i < n:=by
 unfold ixN at h
 by_cases h0:0≤i
 ·rw [if_pos h0] at h
  by_cases h1:i < n
  ·rw [if_pos h1] at h
   have e:i.toNat = j:=Option.some.inj h
   exact ⟨by rw [seqIndex_of h0 h1,e],by omega,by omega,h1⟩
  ·rw [if_neg h1] at h; cases h
 ·rw [if_neg h0] at h
  by_cases h1 : -(n:Int)≤i
  ·rw [if_pos h1] at h
   have e:(i + n).toNat = j:=Option.some.inj h
   exact ⟨by rw [seqIndex_neg (by omega) h1,e],by omega,h1,by omega⟩
  ·rw [if_neg h1] at h; cases h
theorem YB {α:Type} {xs:List α} {i:Int} {v:α} (h:atI xs i = some v):∃ j,seqIndex? i xs.length = some j∧xs[j]? = some v∧j < xs.length ∧ -(xs.length:Int)≤i∧i < xs.length:=by
 unfold atI at h
 cases e:ixN xs.length i with
 | none => rw [e] at h; cases h
 | some j =>
  rw [e] at h
  obtain ⟨h1,h2,h3,h4⟩:=KG e
  exact ⟨j,h1,h,h2,h3,h4⟩
theorem xt {α:Type} {xs:List α} {j:Nat} {v:α} (h:xs[j]? = some v):atI xs (j:Int) = some v:=by
 have hj:j < xs.length:=(List.getElem?_eq_some_iff.mp h).1
 have e:ixN xs.length (j:Int) = some j:=by
  unfold ixN
  rw [if_pos (by omega),if_pos (by omega)]; simp
 unfold atI; rw [e]; exact h
def YC (b:Expr):Prop:=∀ o i,subscripted b false o i = operate [o,i] (getItem o i)
def IxR (X:Cx) (r:R2):Prop :=
 ∀ (value slice:Expr) (pins:List (Addr × Obj)) (s:Shared) (σ:St) (H:Hp) (x y:V) (v u:Value) (Q:VK),Inv X pins σ H s→RelV x v→RelV y u→r x y H Q →
  subscripted slice false v u = operate [v,u] (getItem v u)→wpAny (model X.prog X.w) X.A (subscriptTail value slice v u) (EP X pins σ Q) X.xe s
def MtR (X:Cx) (id:String) (r:V→List V→Hp→VK→Prop):Prop :=
 ∀ (pins:List (Addr × Obj)) (s:Shared) (σ:St) (H:Hp) (x:V) (xs:List V) (v:Value) (us:List Value) (Q:VK),Inv X pins σ H s→RelV x v→Vals xs us→r x xs H Q →
  wpAny (model X.prog X.w) X.A (call (.builtin id) (v :: us)) (EP X pins σ Q) X.xe s
section
variable {X:Cx} {a b:Expr} {ta tb:TE} {pos:Pos}
theorem pe_ix {r:R2} (hr:IxR X r) (ha:PE X a ta) (hb:PE X b tb) (hs:YC b):PE X (.Subscript a b pos) (tOp r ta tb):=by
 intro pins s σ H Q I h
 exact Subscript_ (binT ha hb I h fun v u s2 x y H2 I2 rx ry q => hr a b pins s2 σ H2 x y v u Q I2 rx ry q (hs _ _))
def rIxL (K:PySem.W.Frag):R2:=fun x y H Q => ∃ p xs i v,x = .ref p∧y = .int i∧SqL K H p xs∧atI xs i = some v∧Q v H
def rIxT (K:PySem.W.Frag):R2:=fun x y H Q => ∃ p xs i v,x = .ref p∧y = .int i∧SqT K H p xs∧atI xs i = some v∧Q v H
theorem ix_list:IxR X (rIxL X.K):=by
 intro value slice pins s σ H x y v u Q I rx ry h hs
 obtain ⟨p,xs,i,z,rfl,rfl,hq,he,q⟩:=h
 cases rx
 obtain ⟨t,rfl⟩:=ry
 obtain ⟨its,r,pl,hz⟩:=I.list hq
 obtain ⟨j,h1,h2,h3,h4,h5⟩:=YB he
 obtain ⟨w,ew,rw'⟩:=r.get h2
 have hl:=r.length
 have hn:=Q3
 have fin:EP X pins σ Q w s:=⟨z,H,I,rw',q⟩
 by_cases h0:0≤i
 ·have hj:i.toNat = j:=by
   rw [seqIndex_of h0 h5] at h1
   exact Option.some.inj h1
  exact item_listR pl.isList h0 (by omega) (by rw [hj]; simpa using ew) fin hs
 ·have hj:(i + (its.toArray.size:Int)).toNat = j:=by
   rw [seqIndex_neg (by omega) h4] at h1
   rw [List.size_toArray, ← hl]
   exact Option.some.inj h1
  exact subscriptTail_builtinR (x:=w) pl.isList.typeIs slot_list_getitem.lookup
   (wpAny_getItem_list_neg (Q:=fun r s' => r = w∧EP X pins σ Q r s') pl.isList (by omega) (by rw [List.size_toArray] <;> omega) (by omega) (by rw [hj]; simpa using ew) ⟨rfl,fin⟩) hs
theorem ix_tup:IxR X (rIxT X.K):=by
 intro value slice pins s σ H x y v u Q I rx ry h hs
 obtain ⟨p,xs,i,z,rfl,rfl,hq,he,q⟩:=h
 cases rx
 obtain ⟨t,rfl⟩:=ry
 obtain ⟨its,r,pl,hz⟩:=I.tuple hq
 obtain ⟨j,h1,h2,h3,h4,h5⟩:=YB he
 obtain ⟨w,ew,rw'⟩:=r.get h2
 have hl:=r.length
 have hn:=Q3
 have fin:EP X pins σ Q w s:=⟨z,H,I,rw',q⟩
 exact subscriptTail_builtinR (x:=w) pl.typeIs slot_tuple_getitem.lookup
  (getItem_tuple (j:=j) (Q:=fun r s' => r = w∧EP X pins σ Q r s') pl (by omega) (by omega) (by rw [List.size_toArray, ← hl]; exact h1) (by simpa using ew) ⟨rfl,fin⟩) hs
theorem XG (its:List Value) (n j:Nat) (u:Value):Obj.mapSeq (·.setIfInBounds j u) { cls:=.type "list", data:=.seq its.toArray n } = { cls:=.type "list", data:=.seq (its.set j u).toArray n }:=by
 simp [Obj.mapSeq]
theorem Inv.lst {pins:List (Addr × Obj)} {σ:St} {H:Hp} {s:Shared} {p:Addr} {xs:List V} (I:Inv X pins σ H s) (h:H p = some (.lst xs)) :
  ∃ (its:List Value) (n:Nat),Vals xs its∧s.heap.get? p = some { cls:=.type "list", data:=.seq its.toArray n }∧xs.length≤sizeLine:=by
 obtain ⟨z,its,n,r,e⟩:=I.hok p _ h
 exact ⟨its,n,r,e,z⟩
theorem Inv.lstUpd {pins:List (Addr × Obj)} {σ:St} {H:Hp} {s:Shared} {p:Addr} {xs ys:List V} {its its':List Value} {n n':Nat} {f:Obj→Obj} (I:Inv X pins σ H s) (h:H p = some (.lst xs))
  (ho:s.heap.get? p = some { cls:=.type "list", data:=.seq its.toArray n }) (hf:f { cls:=.type "list", data:=.seq its.toArray n } = { cls:=.type "list", data:=.seq its'.toArray n' }) (r:Vals ys its') (hz:ys.length≤sizeLine) (t:Nat) :
  Inv X pins σ (upd H p (.lst ys)) { s with heap:=s.heap.update p f,toks:=t }:=by
 have e:(s.heap.update p f).get? p = some { cls:=.type "list", data:=.seq its'.toArray n' }:=by
  rw [Heap.get?_update_self f ho (by rw [hf] <;> rfl),hf]
 refine I.write (x:=p) (e:=p) (by rw [h]; trivial) (.inl rfl) (fun b u hb q => (Heap.get?_update_other _ _ (Ne.symm hb)).trans q) ⟨_,e⟩ ?_
 exact ⟨hz,its',n',r,e⟩
def rSetL:V→V→V→Hp→(Hp→Prop)→Prop:=fun o i v H Q => ∃ p xs k j,o = .ref p∧i = .int k∧H p = some (.lst xs)∧ixN xs.length k = some j∧Q (upd H p (.lst (xs.set j v)))
theorem vO:PSet X rSetL:=by
 intro pins s σ H o i v ov iv u Q I ro ri rv h
 obtain ⟨p,xs,k,j,rfl,rfl,hp,hj,q⟩:=h
 cases ro
 obtain ⟨t,rfl⟩:=ri
 obtain ⟨its,n,r,ho,hz⟩:=I.lst hp
 obtain ⟨h1,h2,h3,h4⟩:=KG hj
 have hl:=r.length
 have hn:=Q3
 have I':Inv X pins σ (upd H p (.lst (xs.set j v))) { s with heap:=s.heap.update p (Obj.mapSeq (·.setIfInBounds j u)) } :=
  I.lstUpd hp ho (XG its n j u) (r.set rv j) (by rw [List.length_set]; exact hz) s.toks
 by_cases h0:0≤k
 ·have hk:k.toNat = j:=by
   rw [seqIndex_of h0 h4] at h1
   exact Option.some.inj h1
  exact PySem.W.ki_setAt ho h0 (by omega) (by rw [List.size_toArray, ← hl]; exact h4) (by rw [hk]; exact ⟨_,I',q⟩)
 ·have hk:(k + (its.toArray.size:Int)).toNat = j:=by
   rw [seqIndex_neg (by omega) h3] at h1
   rw [List.size_toArray, ← hl]
   exact Option.some.inj h1
  exact PySem.W.ki_setBack ho (by omega) (by rw [List.size_toArray, ← hl]; exact h3) (by omega) (by rw [hk]; exact ⟨_,I',q⟩)
theorem Qx (lo hi:Option Int) (n:Nat):(sliceBounds lo hi none n).1 = ((HT.sIx n 0 lo:Nat):Int)∧(sliceBounds lo hi none n).2.1 = ((HT.sIx n n hi:Nat):Int)∧(sliceBounds lo hi none n).2.2 = 1:=by
 refine ⟨?_, ?_,rfl⟩
 ·cases lo with
  | none => simp [sliceBounds,HT.sIx]
  | some i =>
   simp only [sliceBounds,HT.sIx,Option.getD_none,show (1:Int) > 0 by decide,if_true]
   by_cases h:i < 0
   ·simp only [h,if_true] <;> omega
   ·simp only [h,if_false] <;> omega
 ·cases hi with
  | none => simp [sliceBounds,HT.sIx]
  | some i =>
   simp only [sliceBounds,HT.sIx,Option.getD_none,show (1:Int) > 0 by decide,if_true]
   by_cases h:i < 0
   ·simp only [h,if_true] <;> omega
   ·simp only [h,if_false] <;> omega
theorem kG (its:List Value) (lo hi:Option Int):slicePick its.toArray lo hi none = ((its.drop (HT.sIx its.length 0 lo)).take (HT.sIx its.length its.length hi - HT.sIx its.length 0 lo)).toArray:=by
 obtain ⟨h1,h2,h3⟩:=Qx lo hi its.toArray.size
 unfold slicePick
 rw [h1,h2,h3]
 simp only [sliceRange_one,pick_run,List.size_toArray] <;> rfl
def rSlL (K:PySem.W.Frag):V→Option Int→Option Int→Hp→VK→Prop:=fun x lo hi H Q => ∃ a xs,x = .ref a∧SqL K H a xs∧∀ p,H p = none→Q (.ref p) (upd H p (.lst (cutV xs lo hi)))
theorem sl_list:SlR X (rSlL X.K):=by
 intro pins s σ H x v vl vu lo hi sl Q I rx hs pl pu h
 obtain ⟨a,xs,rfl,hx,q⟩:=h
 cases rx
 obtain ⟨its,r,ht,hz⟩:=I.list hx
 have hlen:=r.length
 refine ⟨"list", _,slot_list_getitem.lookup,ht.isList.typeIs, ?_⟩
 refine wpAny_getItem_list_slice ht.isList hs pl pu .none (by simp) ?_ (by rw [List.size_toArray] <;> omega)
 rw [kG, ← hlen]
 refine ⟨.ref s.heap.objs.size,_,I.laid (t':=s.toks) (o:=.lst (cutV xs lo hi)) (fun b ob q => Heap.get?_push_of_some _ q) (Nat.le_refl _) ?_,rfl,q _ (I.hok.fresh (Nat.le_refl _))⟩
 exact ⟨Nat.le_trans (Zc xs lo hi) hz,_,0,(r.drop (HT.sIx xs.length 0 lo)).take (HT.sIx xs.length xs.length hi - HT.sIx xs.length 0 lo),Heap.get?_push_size _ rfl⟩
def flatV:V→Bool
 | .non => true
 | .bl _ => true
 | .int _ => true
 | .str _ => true
 | _ => false
def eqV:V→V→Bool
 | .non, .non => true
 | .bl a, .bl b => a == b
 | .bl a, .int b => (if a then 1 else 0) == b
 | .int a, .bl b => a == (if b then 1 else 0)
 | .int a, .int b => a == b
 | .str a, .str b => a == b
 | _,_ => false
theorem Z1 {A:Around} {s:Shared} {y x:V} {u v:Value} (ry:RelV y u) (rx:RelV x v) (fy:flatV y = true) (fx:flatV x = true):SeqAt.EqAt A s u v (eqV y x):=by
 cases y with
 | non =>
  cases ry
  cases x with
  | non => cases rx; exact SeqAt.EqAt.same _
  | bl b => cases rx; exact SeqAt.EqAt.none_bool b
  | int b => obtain ⟨t,rfl⟩:=rx; exact SeqAt.EqAt.none_int b t
  | str b => obtain ⟨t,rfl⟩:=rx; exact SeqAt.EqAt.none_str b t
  | _ => exact absurd (show false = true from fx) Bool.false_ne_true
 | bl a =>
  cases ry
  cases x with
  | non => cases rx; exact SeqAt.EqAt.bool_none a
  | bl b => cases rx; exact SeqAt.EqAt.bool_bool a b
  | int b => obtain ⟨t,rfl⟩:=rx; exact SeqAt.EqAt.bool_int a b t
  | str b => obtain ⟨t,rfl⟩:=rx; exact SeqAt.EqAt.bool_str a b t
  | _ => exact absurd (show false = true from fx) Bool.false_ne_true
 | int a =>
  obtain ⟨t',rfl⟩:=ry
  cases x with
  | non => cases rx; exact SeqAt.EqAt.int_none a t'
  | bl b => cases rx; exact SeqAt.EqAt.int_bool a t' b
  | int b => obtain ⟨t,rfl⟩:=rx; exact SeqAt.EqAt.int_int a t' b t
  | str b => obtain ⟨t,rfl⟩:=rx; exact SeqAt.EqAt.int_str a t' b t
  | _ => exact absurd (show false = true from fx) Bool.false_ne_true
 | str a =>
  obtain ⟨t',rfl⟩:=ry
  cases x with
  | non => cases rx; exact SeqAt.EqAt.str_none a t'
  | bl b => cases rx; exact SeqAt.EqAt.str_bool a t' b
  | int b => obtain ⟨t,rfl⟩:=rx; exact SeqAt.EqAt.str_int a t' b t
  | str b => obtain ⟨t,rfl⟩:=rx; exact SeqAt.EqAt.str_str a t' b t
  | _ => exact absurd (show false = true from fx) Bool.false_ne_true
 | _ => exact absurd (show false = true from fy) Bool.false_ne_true
def inV (x:V) (xs:List V):Bool:=xs.any fun y => eqV y x
theorem jC:xV X (.builtin "len") (fun xs H Q => ∃ p ys,xs = [.ref p]∧(SqL X.K H p ys∨SqT X.K H p ys)∧Q (.int ys.length) H):=by
 intro pins s σ H xs us Q I r h
 obtain ⟨p,ys,rfl,hq,q⟩:=h
 obtain ⟨u,rfl,rx⟩:=Xe r
 cases rx
 have hn:=Q3
 rcases hq with hq | hq
 ·obtain ⟨its,r',pl,hz⟩:=I.list hq
  have hlen:=r'.length
  exact Calls.call_len_list pl.isList (by simp only [List.size_toArray] <;> omega) ⟨.int ys.length,H,I.tok _,⟨s.toks + 1,by rw [List.size_toArray,hlen]⟩,q⟩
 ·obtain ⟨its,r',pl,hz⟩:=I.tuple hq
  have hlen:=r'.length
  exact len_tuple pl (by simp only [List.size_toArray] <;> omega) ⟨.int ys.length,H,I.tok _,⟨s.toks + 1,by rw [List.size_toArray,hlen]⟩,q⟩
theorem xr:xV X (.type "list") (fun xs H Q => ∃ p ys,xs = [.ref p]∧(SqL X.K H p ys∨SqT X.K H p ys)∧∀ l,H l = none→Q (.ref l) (upd H l (.lst ys))):=by
 intro pins s σ H xs us Q I r h
 obtain ⟨p,ys,rfl,hq,q⟩:=h
 obtain ⟨u,rfl,rx⟩:=Xe r
 cases rx
 have fin:∀ (its:List Value),Vals ys its→ys.length≤sizeLine→∀ (h':Heap) (c':Nat),(∀ b o',s.heap.get? b = some o'→h'.get? b = some o') →
   h'.get? s.heap.objs.size = some { cls:=.type "list", dict:=none,data:=.seq its.toArray c',slots:=#[] }→EP X pins σ Q (.ref s.heap.objs.size) { s with heap:=h' }:=fun its r' hz h' c' kp e =>
  ⟨.ref s.heap.objs.size,_,I.laid (t':=s.toks) kp (Nat.le_refl _) (show ObjOk X.prog X.w _ h' _ (.lst ys) from ⟨hz,its,c',r',e⟩),rfl,q _ (I.hok.fresh (Nat.le_refl _))⟩
 rcases hq with hq | hq
 ·obtain ⟨its,r',pl,hz⟩:=I.list hq
  have hlen:=r'.length
  obtain ⟨o,ho,hc,n,hd⟩:=pl.isList
  exact call_list_seq p (.inl rfl) ho hc hd (fun h' c' kp e => fin its r' hz h' c' kp e) (by simp only [List.size_toArray] <;> omega)
 ·obtain ⟨its,r',pl,hz⟩:=I.tuple hq
  have hlen:=r'.length
  obtain ⟨o,ho,hc,n,hd⟩:=pl
  exact call_list_seq p (.inr rfl) ho hc hd (fun h' c' kp e => fin its r' hz h' c' kp e) (by simp only [List.size_toArray] <;> omega)
def tyV (K:PySem.W.Frag) (T:String) (x:V) (H:Hp):Prop:=match x with
 | .str _ => T = "str"
 | .int _ => T = "int"
 | .ref p => (T = "list" ∧ ∃ xs,SqL K H p xs)∨(T = "tuple" ∧ ∃ o,K.lookup p = some o∧o.cls = .type "tuple" ∧ o.dict = none) ∨
   (T = "dict" ∧ ((∃ kvs,H p = some (.dK kvs))∨∃ kvs,H p = some (.dT kvs)))∨(T = "set" ∧ ∃ S n,H p = some (.set S n))
 | _ => False
theorem tyV_is {pins:List (Addr × Obj)} {σ:St} {H:Hp} {s:Shared} {T:String} {x:V} {v:Value} (I:Inv X pins σ H s) (r:RelV x v) (ty:tyV X.K T x H) :
  s.TypeIs v T∧∀ a,v = .ref a→∃ ob,s.heap.get? a = some ob∧ob.dict = none:=by
 cases x with
 | str z =>
  obtain ⟨t,rfl⟩:=r
  cases (show T = "str" from ty)
  exact ⟨typeIs_str s z t,fun _ e => nomatch e⟩
 | int i =>
  obtain ⟨t,rfl⟩:=r
  cases (show T = "int" from ty)
  exact ⟨typeIs_int s i t,fun _ e => nomatch e⟩
 | ref p =>
  cases r
  rcases ty with ⟨rfl,xs,hq⟩ | ⟨rfl,o,hk,hc,hd⟩ | ⟨rfl,hk⟩ | ⟨rfl,S,n,hk⟩
  ·obtain ⟨its,_,pl,_⟩:=I.list hq
   refine ⟨pl.isList.typeIs,fun a e => ?_⟩
   cases e
   obtain ⟨o,n,e,c,hd,_⟩:=pl
   exact ⟨o,e,hd⟩
  ·refine ⟨⟨o,I.kIn p o hk,hc⟩,fun a e => ?_⟩
   cases e
   exact ⟨o,I.kIn _ o hk,hd⟩
  ·have z:∃ o,s.heap.get? p = some o∧o.ExactDict:=by
    rcases hk with ⟨kvs,hk⟩ | ⟨kvs,hk⟩
    ·obtain ⟨_,_,_,_,o,_,_,e,ex,_⟩:=I.hok p _ hk
     exact ⟨o,e,ex⟩
    ·obtain ⟨_,_,_,_,o,_,_,e,ex,_⟩:=I.hok p _ hk
     exact ⟨o,e,ex⟩
   obtain ⟨o,e,ex⟩:=z
   refine ⟨⟨o,e,ex.1⟩,fun a e2 => ?_⟩
   cases e2
   exact ⟨o,e,ex.2.1⟩
  ·obtain ⟨o,_,_,_,e,ex,_⟩:=I.hok p _ hk
   refine ⟨⟨o,e,ex.1⟩,fun a e2 => ?_⟩
   cases e2
   exact ⟨o,e,ex.2.1⟩
 | _ => exact False.elim ty
def tBM0 (K:PySem.W.Frag) (T:String) (r:V→List V→Hp→VK→Prop) (to:TE):TE:=fun σ H Q => to σ H fun x H1 => tyV K T x H1∧r x [] H1 Q
def tBM (K:PySem.W.Frag) (T:String) (r:V→List V→Hp→VK→Prop) (to:TE) (t:TA):TE:=fun σ H Q => to σ H fun x H1 => tyV K T x H1∧t σ H1 fun xs H2 => r x xs H2 Q
variable {o e:Expr} {es:List Expr} {to:TE} {t:TA} {name:Str} {apos cpos:Pos} {T id:String} {r:V→List V→Hp→VK→Prop}
theorem pe_bm (pa:PlainAttrs T) (slot:Slot T name id) (hty:typeOf (.builtin id) = pure (.type "method_descriptor")) (hm:MtR X id r) (ho:PE X o to) (ha:PA X (e :: es) t)
  (hbase:attributeBase o name X.env (eval o X.env) = eval o X.env:=by rfl)
  (hfew:((backTo cpos (starEach (e :: es) X.env)).all (fun x => !x.1) && (backToKw cpos (keywordEach [] X.env)).all (fun x => x.1.isSome)
   && decide ((e :: es).length + ([]:List Keyword).length + (if ([]:List Keyword).isEmpty then 0 else 1) < 30)) = true:=by rfl)
  (hline:(apos.endLine == cpos.line) = true:=by rfl) (hs:starEach (e :: es) X.env = (false,eval e X.env) :: starEach es X.env:=by rfl) (hplain:(backTo cpos (starEach es X.env)).any (·.1) = false:=by rfl) :
  PE X (.Call (.Attribute o name apos) (e :: es) [] cpos) (tBM X.K T r to t):=by
 intro pins s σ H Q I h
 refine wpAny_Call_method_late hbase hfew hline rfl (thn (ho pins s σ H _ I h) fun v s1 ⟨x,H1,I1,r1,ty,q1⟩ => ?_)
 obtain ⟨h1,h2⟩:=tyV_is I1 r1 ty
 refine ⟨T,id,pa,slot,hty,h1,h2, ?_⟩
 have hA:=ha cpos pins s1 σ H1 _ I1 q1
 rw [hs] at hA ⊢
 refine Calls.callWith_builtin (by show (false || (backTo cpos (starEach es X.env)).any (·.1)) = false; rw [hplain] <;> rfl) (Calls.evalArgs_plain ?_)
 exact thn hA fun us s2 ⟨vs,H2,I2,r2,q2⟩ => hm pins s2 σ H2 x vs v us Q I2 r1 r2 q2
end
def MtM (X:Cx) (id:String) (r:V→List V→Hp→VK→Prop):Prop :=
 ∀ (pins:List (Addr × Obj)) (s:Shared) (σ:St) (H:Hp) (x:V) (xs:List V) (v:Value) (us:List Value) (Q:VK),Inv X pins σ H s→RelV x v→Vals xs us→r x xs H Q →
  wpAny (model X.prog X.w) X.A (call (.builtin id) (v :: us)) (EP X pins σ Q) X.xe s
theorem Vals.one:∀ {x:V} {us:List Value},Vals [x] us→∃ u,us = [u]∧RelV x u
 | _,_, .cons r .nil => ⟨_,rfl,r⟩
theorem Vals.eraseIdx:∀ {xs:List V} {us:List Value} (i:Nat),Vals xs us→Vals (xs.eraseIdx i) (us.eraseIdx i)
 | _,_,_, .nil => .nil
 | _,_,0, .cons _ t => t
 | _,_,i + 1, .cons r t => .cons r (Vals.eraseIdx i t)
theorem Vals.rep {xs:List V} {us:List Value} (h:Vals xs us):∀ k:Nat,Vals (List.replicate k xs).flatten (List.replicate k us).flatten
 | 0 => .nil
 | k + 1 => by
  rw [List.replicate_succ,List.replicate_succ,List.flatten_cons,List.flatten_cons]
  exact Vals.append h (Vals.rep h k)
theorem Q4 {α:Type}:∀ (l:List α) (i:Nat),(l.eraseIdx i).length≤l.length
 | [],_ => Nat.le_refl _
 | _ :: _,0 => Nat.le_succ _
 | _ :: r,i + 1 => Nat.succ_le_succ (Q4 r i)
theorem Vc (its:List Value):∀ (k:Nat) (acc:List Value),
  List.foldl (fun x1 x2 => x1 ++ x2) acc.toArray (List.replicate k its.toArray) = (acc ++ (List.replicate k its).flatten).toArray
 | 0,acc => by simp
 | k + 1,acc => by
  have e:acc.toArray ++ its.toArray = (acc ++ its).toArray:=by simp
  have e2:(acc ++ its) ++ (List.replicate k its).flatten = acc ++ (List.replicate (k + 1) its).flatten:=by
   rw [List.replicate_succ,List.flatten_cons,List.append_assoc]
  rw [← e2, ← Vc its k (acc ++ its), ← e,List.replicate_succ,List.foldl_cons]
section
variable {X:Cx} {pins:List (Addr × Obj)} {σ:St} {H:Hp} {s:Shared} {l:Addr} {xs ys:List V}
theorem Inv.lset {its its':List Value} {n:Nat} {f:Array Value→Array Value} {t':Nat} (I:Inv X pins σ H s) (hH:H l = some (.lst xs))
  (e:s.heap.get? l = some { cls:=.type "list", data:=.seq its.toArray n }) (hf:f its.toArray = its'.toArray) (hv:Vals ys its') (hz:ys.length≤sizeLine) :
  Inv X pins σ (upd H l (.lst ys)) { s with heap:=s.heap.update l (Obj.mapSeq f),toks:=t' }:=by
 have q:=PySem.IsL.update e f
 rw [hf] at q
 refine I.write (x:=l) (e:=l) (by rw [hH]; exact trivial) (.inl rfl) (fun b' u hb hu => (Heap.get?_update_other s.heap (Obj.mapSeq f) (Ne.symm hb)).trans hu) ⟨_,q⟩ ?_
 exact ⟨hz,its',_,hv,q⟩
theorem Inv.lnew {its:List Value} {t':Nat} (I:Inv X pins σ H s) (hv:Vals ys its) (hz:ys.length≤sizeLine) :
  Inv X pins σ (upd H s.heap.objs.size (.lst ys)) { s with heap:=s.heap.push { cls:=.type "list", data:=.seq its.toArray },toks:=t' } :=
 I.laid (fun _ _ q => Heap.get?_push_of_some _ q) (Nat.le_refl _) ⟨hz,its,0,hv,Heap.get?_push_size _ rfl⟩
theorem Inv.fresh (I:Inv X pins σ H s):H s.heap.objs.size = none:=I.hok.fresh (Nat.le_refl _)
theorem Inv.lstM (I:Inv X pins σ H s) (hH:H l = some (.lst xs)):xs.length≤sizeLine∧∃ (its:List Value) (n:Nat),Vals xs its∧xs.length = its.length∧s.heap.get? l = some { cls:=.type "list", data:=.seq its.toArray n }:=by
 obtain ⟨z,its,n,r,e⟩:=I.hok l _ hH
 exact ⟨z,its,n,r,r.length,e⟩
theorem ZL {n:Nat} (h:n≤sizeLine):Builtin.List.listTooLong n = false:=by
 unfold Builtin.List.listTooLong
 exact decide_eq_false (by omega)
end
section
variable {X:Cx}
def JN:V→List V→Hp→VK→Prop:=fun x vs H Q => ∃ l xs y,x = .ref l∧vs = [y]∧H l = some (.lst xs)∧xs.length < sizeLine∧Q .non (upd H l (.lst (xs ++ [y])))
theorem jc:MtM X "list.append" JN:=by
 intro pins s σ H x vs v us Q I rx rv h
 obtain ⟨l,xs,y,rfl,rfl,hH,hz,q⟩:=h
 cases rx
 obtain ⟨u,rfl,ru⟩:=rv.one
 obtain ⟨z,its,n,r,hl,e⟩:=I.lstM hH
 refine call_meets F.slot_list_append ⟨_,e,rfl⟩ F.entry_list_append (F.args_list_append_2 _ _) (PySem.list_append l its.toArray n u (by rw [List.size_toArray]; omega)) ⟨e, ?_⟩
 refine ⟨.non,_,I.lset (its':=its ++ [u]) hH e (by simp) (r.append (.cons ru .nil)) ?_,rfl,q⟩
 rw [List.length_append,List.length_singleton]
 omega
def rExtend:V→List V→Hp→VK→Prop:=fun x vs H Q => ∃ l b xs zs,x = .ref l∧vs = [.ref b]∧H l = some (.lst xs)∧H b = some (.lst zs)∧xs.length + zs.length≤sizeLine∧Q .non (upd H l (.lst (xs ++ zs)))
theorem mt_extend:MtM X "list.extend" rExtend:=by
 intro pins s σ H x vs v us Q I rx rv h
 obtain ⟨l,b,xs,zs,rfl,rfl,hH,hB,hz,q⟩:=h
 cases rx
 obtain ⟨u,rfl,ru⟩:=rv.one
 cases ru
 obtain ⟨z,its,n,r,hl,e⟩:=I.lstM hH
 obtain ⟨z2,its2,n2,r2,hl2,e2⟩:=I.lstM hB
 have hsz:its.toArray.size + its2.toArray.size≤sizeLine:=by rw [List.size_toArray,List.size_toArray]; omega
 have hlong:¬ (!its.toArray.isEmpty && Builtin.List.listTooLong (its.toArray.size + its2.toArray.size)) = true:=by
  rw [ZL hsz,Bool.and_false]
  exact Bool.false_ne_true
 refine call_meets F.slot_list_extend ⟨_,e,rfl⟩ F.entry_list_extend (F.args_list_extend_2 _ _)
  (AutoSeq1.list_extend_list_list_0 l its.toArray n b its2.toArray n2 hlong (by rw [List.size_toArray]; omega) (by omega)) ⟨e,e2, ?_⟩
 refine ⟨.non,_,I.lset (its':=its ++ its2) hH e (by simp) (r.append r2) ?_,rfl,q⟩
 rw [List.length_append]
 omega
def rCat:R2:=fun x y H Q => ∃ l b xs zs,x = .ref l∧y = .ref b∧H l = some (.lst xs)∧H b = some (.lst zs)∧xs.length + zs.length≤sizeLine∧∀ p,H p = none→Q (.ref p) (upd H p (.lst (xs ++ zs)))
theorem ZK:OpR X (binaryOp .Add) rCat:=by
 intro pins s σ H x y v u Q I rx ry h
 obtain ⟨l,b,xs,zs,rfl,rfl,hH,hB,hz,q⟩:=h
 cases rx
 cases ry
 obtain ⟨z,its,n,r,hl,e⟩:=I.lstM hH
 obtain ⟨z2,its2,n2,r2,hl2,e2⟩:=I.lstM hB
 refine PySem.P.add_list e e2 ?_ (by rw [List.size_toArray,List.size_toArray]; omega)
 have ea:its.toArray ++ its2.toArray = (its ++ its2).toArray:=by simp
 rw [ea]
 exact ⟨.ref _,_,I.lnew (t':=s.toks) (r.append r2) (by rw [List.length_append]; omega),rfl,q _ I.fresh⟩
def rRep:R2:=fun x y H Q => ∃ l k xs,x = .ref l∧y = .int k∧H l = some (.lst xs) ∧ -(2 ^ 63)≤k∧k < 2 ^ 63∧xs.length * k.toNat≤sizeLine ∧
 ∀ p,H p = none→Q (.ref p) (upd H p (.lst (List.replicate k.toNat xs).flatten))
theorem len_rep {α:Type} (xs:List α) (k:Nat):(List.replicate k xs).flatten.length = k * xs.length:=by
 induction k with
 | zero => simp
 | succ k ih => rw [List.replicate_succ,List.flatten_cons,List.length_append,ih,Nat.succ_mul,Nat.add_comm]
theorem J4:OpR X (binaryOp .Mult) rRep:=by
 intro pins s σ H x y v u Q I rx ry h
 obtain ⟨l,k,xs,rfl,rfl,hH,h1,h2,hz,q⟩:=h
 cases rx
 obtain ⟨t,rfl⟩:=ry
 obtain ⟨z,its,n,r,hl,e⟩:=I.lstM hH
 have hlen:its.toArray.size * k.toNat≤sizeLine:=by rw [List.size_toArray, ← hl]; exact hz
 have hcap:¬ its.toArray.size * k.toNat > (2 ^ 63 - 1) / 8:=by
  have:(sizeLine:Nat)≤(2 ^ 63 - 1) / 8:=by decide
  omega
 have hfit:¬ (!Builtin.List.listFitsIndex k) = true:=by
  rw [fitsIndex_both h1 h2]
  exact Bool.false_ne_true
 have hlong:¬ Builtin.List.listTooLong (its.toArray.size * k.toNat) = true:=by
  rw [ZL hlen]
  exact Bool.false_ne_true
 have hnew:List.foldl (fun x1 x2 => x1 ++ x2) #[] (List.replicate (if its.toArray.isEmpty = true then 0 else k.toNat) its.toArray) = (List.replicate k.toNat its).flatten.toArray:=by
  have f0:∀ m:Nat,List.foldl (fun x1 x2 => x1 ++ x2) #[] (List.replicate m its.toArray) = (List.replicate m its).flatten.toArray:=fun m => by
   have:=Vc its m []
   rw [List.nil_append] at this
   exact this
  rw [f0]
  cases its with
  | nil => simp
  | cons a r' => rw [if_neg (by simp)]
 refine wpAny_binaryOp_repeat_ref (T := "list") (U := "int") (by decide) ⟨_,e,rfl⟩ (fun s' => typeIs_int s' k t) noFill_list_mul F.fills_int_mul F.slot_int_rmul repeat_list F.slot_int_index.lookup
  (call_meets F.slot_int_rmul (typeIs_int s k t) F.entry_int_rmul (F.args_int_rmul_2 _ _) (int___rmul___int_list k t l its.toArray n)
   ⟨e,rfl,⟨_,e,rfl⟩,call_meets F.slot_list_mul ⟨_,e,rfl⟩ F.entry_list_mul (F.args_list_mul_2 _ _) (AutoListH.list___mul___list_int_3 l its.toArray n k t hfit hcap hlong) ⟨e, ?_⟩⟩)
 rw [hnew]
 exact ⟨.ref _,_,I.lnew (t':=s.toks) (r.rep k.toNat) (by rw [len_rep,Nat.mul_comm]; exact hz),rfl,q _ I.fresh⟩
end
end L2
namespace Att
open PySem PySem.W PySem.Calls PyProof.Rows
theorem jY {P:Params} {h:Heap}:∀ (ns:List Int) (vs:List Value),WellAll P h vs (ns.map WData.int)→IntsAre vs ns:=by
 intro ns
 induction ns with
 | nil =>
  intro vs w
  rw [List.map_nil] at w
  cases w
  exact .nil
 | cons n ns ih =>
  intro vs w
  rw [List.map_cons] at w
  cases w with
  | cons a b =>
   cases a
   exact .cons _ _ (ih _ b)
theorem Jf {l:OpenLaw} {n:Nat} (hn:l.most = some n) {P:Params} {h:Heap} {args:List WData} {vals:List Value}
  (hpre:l.row.toRowW.claim.pre args = true) (hwl:WellAll P h vals args) :
  ∃ a vs ns,vals = [Value.ref a]∧args = [WData.list (ns.map WData.int)]∧h.get? a = some { cls:=.type "list", data:=.seq vs.toArray }∧IntsAre vs ns∧ns.length≤n:=by
 have hsh:WShape.hasAll [] args [.list .int] = true:=(pre_splitW hpre).1
 have hc:l.pre.holds [] { args:=args } = true:=(pre_splitW hpre).2
 obtain ⟨d,r,rfl,h1,h2⟩:=hasAllW_cons hsh
 obtain rfl:=hasAllW_nil h2
 obtain ⟨xs,rfl,h3⟩:=hasW_list h1
 obtain ⟨ns,rfl⟩:=items_int h3
 have hlen:ns.length≤n:=by
  unfold OpenLaw.pre at hc
  have h4:(WTm.not (.lt (.lit (.int (n:Int))) (.len (.arg 0)))).holds [] { args:=[.list (ns.map .int)] } = true:=by
   have h4:=(holds_andW hc).1
   rw [hn] at h4
   exact h4
  have h5:=condW_of h4 (w_not (w_lt w_lit (w_len_list (w_arg rfl))))
  rw [List.length_map] at h5
  refine Nat.le_of_not_lt fun q => ?_
  have q':(n:Int) < ((ns.length:Nat):Int):=by omega
  first
   | (rw [decide_eq_true q'] at h5; exact absurd h5 (by decide))
   | (simp at h5; omega)
 cases hwl with
 | cons w1 w2 =>
  cases w2
  cases w1 with
  | list ho hall => exact ⟨_,_,ns,rfl,rfl,ho,jY ns _ hall,hlen⟩
theorem JW (l:OpenLaw) (args:List WData):l.row.toRowW.claim.post args (.bool true) args = true :=
 postW_of (r:=l.row.toRowW) (X:=(true == true))
  (show WShape.has [] (.bool true) .bool = true by first | rfl | decide | simp [WShape.has,WShape.arms,WShape.armsAll])
  (show (WTm.eq .res (.lit (.bool true))).value [] { args:=args,res:=some (.bool true),after:=args } = some (.bool (true == true)) from w_eq_bool (w_res rfl) w_lit) rfl
theorem attach_call {l:OpenLaw} {n:Nat} {q:Program} {loose:List Str} {XP:(Str→Option Value)→Heap→Prop} {YP:World→Heap→Prop} {d:DefRec}
  (hn:l.most = some n) (hdf:d.params.defaults = [])
  (call:∀ (w:World) (s₀ s₁:Shared) (mg mb:Str→Option Value) (fa:Addr) (o:Obj) (pm cd doc:Value) (a:Addr) (vs:List Value) (ns:List Int),
   Ground q loose [] XP w s₀ mg mb s₁.heap→YP w s₁.heap →
   s₁.heap.get? fa = some o→o.data = .func (docDef d.name d.params d.body d.scope pm cd doc)→s₁.heap.CodeRec cd d.name→mg d.name = some (.ref fa) →
   s₁.heap.get? a = some { cls:=.type "list", data:=.seq vs.toArray }→IntsAre vs ns→ns.length≤n→s₁.gens = #[] →
   codeAny (model l.prog w) callerA (.call (.ref fa) ⟨[.ref a], []⟩) (fun r s' => r = .ok (.ret (.bool true))∧OldK s₁.heap s'.heap∧s'.os = s₁.os∧AllBare s'.gens) s₁) :
  WalkO q loose XP YP l.row.toRowW d [] (fun f vs => PySem.call f vs):=by
 intro w s₀ s₁ mg mb G Y fa o pm cd doc dV kV ho hd hcd hD hmg hg args vals as hpre hlay hrd hwl hlo
 obtain rfl:dV = .none:=Dflts.none hD hdf
 obtain rfl:kV = .none:=Dflts.noKw hD
 obtain ⟨a,vs,ns,rfl,rfl,hobj,hints,hlen⟩:=Jf hn hpre hwl
 refine enter_call (codeAny_mono (call w s₀ s₁ mg mb fa o pm cd doc a vs ns G Y ho (fd_plain hd) hcd hmg hobj hints hlen hg) fun r s' hq => ?_)
 obtain ⟨rfl,h2,h3,h4⟩:=hq
 exact ⟨.inl ⟨.bool true, .bool true, [],rfl,fun _ => rfl, .bool true,JW l _,fun _ => ⟨List.Pairwise.nil,fun _ hm => (nomatch hm)⟩⟩,h2,h3,h4⟩
end Att
namespace L2
open PySem PySem.Spec PyProof.Rows
theorem Qp:∀ {vs:List Value} {ns:List Int},IntsAre vs ns→Vals (ns.map V.int) vs
 | _,_, .nil => .nil
 | _,_, .cons n t h => .cons ⟨t,rfl⟩ (Qp h)
def Only (H:Hp):Prop:=∀ b,H b = none∨∃ o xs,H b = some (.frz o (.lst xs))
theorem law_call {P:Program} {w:World} {K:PySem.W.Frag} {mg mb:Str→Option Value} {CX:CXT} {k:Nat} {fa a:Addr} {fd:FuncData} {x:Str} {sp:Sp} {s₁:Shared} {vs:List Value} {ns:List Int}
  (KX:K.In s₁.heap) (hns:s₁.heap.Ns mainGlobals mg) (hb:s₁.heap.Ns builtinsNs mb) (hbb:∀ x:Str,x ≠ "__name__" → mb x = bootBuiltins x) (hlim:s₁.heap.NoLimit) (hg:s₁.gens = #[])
  (ha:s₁.heap.get? a = some { cls:=.type "list", data:=.seq vs.toArray }) (hi:IntsAre vs ns) (hl:ns.length≤sizeLine) (hr:Room k callerA)
  (F:∀ base:Heap,K.In base→base.Ns mainGlobals mg→FnOk P w K mg base CX k fa fd [x] sp) (hbind:∀ (s:Shared) (u:Value),BindsTo s fd ⟨[u], []⟩ [(x,u)])
  (hsp:∀ H:Hp,Only H→SqL K H a (ns.map V.int)→sp [.ref a] H (fun v _ => v = .bl true) fun _ _ _ => False)
  (hCX:∀ H e s',CX [] H s₁ (fun _ _ _ => False) e s'→False) :
  codeAny (model P w) callerA (.call (.ref fa) ⟨[.ref a], []⟩) (fun r s' => r = .ok (.ret (.bool true))∧OldK s₁.heap s'.heap∧s'.os = s₁.os∧AllBare s'.gens) s₁:=by
 have rv:=Qp hi
 have lenV:=hi.length
 -- from an abstract heap in which nothing but the script may be tracked
 have core:∀ H:Hp,Only H→SqL K H a (ns.map V.int)→HOk P w H s₁.heap→(∀ b,H b≠none→b = a)→(H a≠none→K.lookup a = none) →
   codeAny (model P w) callerA (.call (.ref fa) ⟨[.ref a], []⟩) (fun r s' => r = .ok (.ret (.bool true))∧OldK s₁.heap s'.heap∧s'.os = s₁.os∧AllBare s'.gens) s₁:=by
  intro H hO hS hok hA hK
  have base_of:∀ {b:Addr} {o:Obj},s₁.heap.get? b = some o→H b = none→(hidT s₁.heap H).get? b = some o:=fun e n => hidT_get e n
  have noA:∀ {b:Addr} {o:Obj} {es:Array DictEntry} {ep:Nat},s₁.heap.get? b = some o→o.data = .dict es ep→H b = none:=fun {b o es ep} e d => by
   cases q:H b with
   | none => rfl
   | some u =>
    have e':b = a:=hA b (by rw [q]; simp)
    subst e'
    rw [ha] at e; cases e
    have d':Data.seq vs.toArray _ = Data.dict es ep:=d
    cases d'
  have nsK:∀ {b:Addr} {m:Str→Option Value},s₁.heap.Ns b m→(hidT s₁.heap H).Ns b m:=fun {b m} ⟨o,es,ep,e,d,r⟩ => ⟨o,es,ep,base_of e (noA e d),d,r⟩
  have hKb:K.In (hidT s₁.heap H):=fun b o e => base_of (KX b o e) (by
   cases q:H b with
   | none => rfl
   | some u =>
    have e':b = a:=hA b (by rw [q]; simp)
    subst e'
    rw [hK (by rw [q]; simp)] at e; cases e)
  have hM:Mod K mg (hidT s₁.heap H):=⟨hKb,nsK hns,⟨mb,nsK hb,hbb⟩,let ⟨mc,h1,h2⟩:=hlim; ⟨mc,nsK h1,h2⟩⟩
  have e0:Env0 P w K mg (hidT s₁.heap H) callerA [] s₁ H:=⟨rfl,hM,fun b o e => of_hidT e,Nat.le_of_eq (KN _ _),trivial,fun b hb => absurd (show b ∈ ([]:List Addr) from hb) (by simp),hok, .of_eq hg⟩
  refine codeAny_mono ((F _ hKb (nsK hns)).run callerA [] s₁ H ⟨[.ref a], []⟩ [.ref a] [.ref a] _ _ hr e0 (hbind s₁ (.ref a)) (.cons rfl .nil) (hsp H hO hS)) fun r s' h => ?_
  cases r with
  | error e => exact (hCX H e s' h).elim
  | ok fl =>
   cases fl with
   | next => exact False.elim h
   | brk => exact False.elim h
   | cont => exact False.elim h
   | ret u =>
    obtain ⟨v,H',os,bare,un,hok',r',q⟩:=h
    have q':v = .bl true:=q
    subst q'
    obtain rfl:u = Value.bool true:=r'
    refine ⟨rfl,OldK.of_keep fun b o e => ?_,os,bare⟩
    cases q:H b with
    | none => exact un.keep b o e q (by intro z; exact absurd (show b ∈ ([]:List Addr) from z) (by simp)) (by simp)
    | some u =>
     rcases hO b with z | ⟨ob,xs,z⟩
     ·rw [q] at z; cases z
     ·have z2:=un.frzs b ob _ z
      obtain ⟨e1,_⟩:=hok b _ z
      obtain ⟨e2,_⟩:=hok' b _ z2
      rw [e] at e1; cases e1
      exact e2
 cases hk:K.lookup a with
 | some o =>
  -- the script is one of the module's own objects
  have e:=KX a o hk
  rw [ha] at e
  cases e
  refine core (fun _ => none) (fun _ => .inl rfl) (.inr ⟨_,vs.toArray,_,hk,rfl,rfl,rfl,by rw [List.size_toArray,lenV]; exact hl,by simpa using rv⟩) (fun b u z => by have z':(none:Option HO) = some u:=z; cases z') (fun b z => absurd rfl z) fun z => absurd rfl z
 | none =>
  refine core (fun b => if b = a then some (.frz { cls:=.type "list", data:=.seq vs.toArray } (.lst (ns.map V.int))) else none) (fun b => ?_) (.inl (.inr ⟨{ cls:=.type "list", data:=.seq vs.toArray },if_pos rfl⟩)) (fun b u z => ?_) (fun b z => ?_) fun _ => hk
  ·by_cases hb:b = a
   ·exact .inr ⟨_,_,if_pos hb⟩
   ·exact .inl (if_neg hb)
  ·by_cases hb:b = a
   ·have z':=(if_pos hb).symm.trans z
    cases z'
    subst hb
    exact ⟨ha,by rw [List.length_map]; exact hl,vs,_,rv,ha⟩
   ·have z':=(if_neg hb).symm.trans z
    cases z'
  ·by_cases hb:b = a
   ·exact hb
   ·exact absurd (if_neg hb) z
theorem walk_of {l:PySem.W.OpenLaw} {n k:Nat} {q:Program} {loose:List Str} {XP:(Str→Option Value)→Heap→Prop} {YP:World→Heap→Prop} {d:DefRec} {K:Params→PySem.W.Frag} {CX:World→CXT} {sp:World→Sp} {x:Str}
  (hn:l.most = some n) (hn2:n≤sizeLine) (hdf:d.params.defaults = []) (hr:Room k callerA)
  (hY:∀ (w:World) (h:Heap),YP w h→(K w.params).In h)
  (F:∀ (w:World) (mg:Str→Option Value) (fa:Addr) (h:Heap),(K w.params).In h→h.Ns mainGlobals mg→mg d.name = some (.ref fa) →
   ∃ fd:FuncData,(∀ (s:Shared) (u:Value),BindsTo s fd ⟨[u], []⟩ [(x,u)]) ∧
    ∀ base:Heap,(K w.params).In base→base.Ns mainGlobals mg→FnOk l.prog w (K w.params) mg base (CX w) k fa fd [x] (sp w))
  (hsp:∀ (w:World) (H:Hp) (a:Addr) (ns:List Int),ns.length≤n→Only H→SqL (K w.params) H a (ns.map V.int)→sp w [.ref a] H (fun v _ => v = .bl true) fun _ _ _ => False)
  (hCX:∀ (w:World) (H:Hp) (s:Shared) (e:Value) (s':Shared),CX w [] H s (fun _ _ _ => False) e s'→False) :
  PySem.W.WalkO q loose XP YP l.row.toRowW d [] (fun f vs => PySem.call f vs):=by
 refine Att.attach_call hn hdf fun w s₀ s₁ mg mb fa o pm cd doc a vs ns G Y ho hd hcd hmg hobj hints hlen hg => ?_
 have KX:=hY w _ Y
 obtain ⟨fd,hb,hF⟩:=F w mg fa _ KX G.T.g hmg
 exact law_call KX G.T.g G.T.b G.T.builtins G.T.nolimit hg hobj hints (Nat.le_trans hlen hn2) hr hF hb (fun H hO hS => hsp w H a ns hlen hO hS) fun H e s' => hCX w H s₁ e s'
def qj (s:Stmt) (j:Nat):Stmt:=match s with
 | .ClassDef _ _ _ body _ _ _ _ _ _ _ => body.getD j (.Pass ⟨0,0,0,0⟩)
 | _ => .Pass ⟨0,0,0,0⟩
def qh (s:Stmt):Arguments:=match s with
 | .FunctionDef _ a _ _ _ _ _ _ _ _ => a
 | _ => { posonlyargs:=[],args:=[],vararg:=none,kwonlyargs:=[],kw_defaults:=[],kwarg:=none,defaults:=[] }
def qg (s:Stmt):List Stmt:=match s with
 | .FunctionDef _ _ b _ _ _ _ _ _ _ => b
 | _ => []
def qc (s:Stmt):Scope:=match s with
 | .FunctionDef _ _ _ _ _ _ sc _ _ _ => sc
 | _ => { kind:=.function,names:=[],isGenerator:=false,isCoroutine:=false }
abbrev CX0:CXT:=fun _ _ _ _ _ _ => False
abbrev E0:XK:=fun _ _ _ => False
theorem pass0 {X:Cx}:j4 CX0 X E0:=fun _ _ _ _ _ _ _ h => h.elim
structure Fun (K:PySem.W.Frag) (x qual:Str) (st:Stmt) (f:Addr) (fd:FuncData):Prop where
 ex:∃ (oc:Value) (od:Option Addr) (kV doc pm:Value) (an:Option Addr) (cdv ct:Value) (osl:Array (Option Value)),
  fd = PySem.W.fnOf x qual (qh st) (qg st) (qc st) .none kV doc pm an cdv ct∧K.lookup f = some ⟨oc,od, .func fd,osl⟩∧PySem.W.codeIn K cdv qual = true
 kp:PySem.W.keepIn K (.ref f) = true
section
variable {P:Program} {w:World} {K:PySem.W.Frag} {mg:Str→Option Value} {base:Heap}
theorem Fun.ok {x qual:Str} {st:Stmt} {f:Addr} {fd:FuncData} {N ps:List Str} {k:Nat} {sp:Sp} (F:Fun K x qual st f fd) (S:FnScope N ps (qc st)) (len:∀ vs H Q E,sp vs H Q E→vs.length = ps.length)
  (hbody:∀ (cdv:Value) (A:Around) (outer:List Env) (s:Shared) (H:Hp) (vs:List V) (Q:VK) (E:XK),Room k (A.deeper (envOfC qual (qc st) s.heap.objs.size f cdv))→sp vs H Q E →
   ∃ t,PSs (cxOf CX0 P w K mg base N qual (qc st) f cdv A outer s H E).nox (qg st) t∧t { nx:=fun _ H' => Q .non H',rt:=Q } (start N vs) H):FnOk P w K mg base CX0 (k + 1) f fd ps sp:=by
 obtain ⟨oc,od,kV,doc,pm,an,cdv,ct,osl,rfl,lk,hcd⟩:=F.ex
 refine fn_of lk hcd S len fun A outer s H vs Q E hr hsp => ?_
 obtain ⟨t,h,q⟩:=hbody cdv A outer s H vs Q E hr hsp
 exact ⟨t,h.nox,q⟩
theorem Fun.binds {x qual:Str} {st:Stmt} {f:Addr} {fd:FuncData} {ps:List Str} (F:Fun K x qual st f fd)
  (h:∀ (kV doc pm:Value) (an:Option Addr) (cdv ct:Value) (us:List Value),us.length = ps.length→bindArgs (PySem.W.fnOf x qual (qh st) (qg st) (qc st) .none kV doc pm an cdv ct) ⟨us, []⟩ = pure (ps.zip us)):Binds K fd ps []:=by
 obtain ⟨oc,od,kV,doc,pm,an,cdv,ct,osl,rfl,lk,hcd⟩:=F.ex
 exact .all (h kV doc pm an cdv ct)
theorem qI {x qual:Str} {st:Stmt} {f:Addr} {oc:Value} {od an:Option Addr} {osl:Array (Option Value)} {kV doc pm cdv ct:Value} (l:K.lookup f = some ⟨oc,od, .func (PySem.W.fnOf x qual (qh st) (qg st) (qc st) .none kV doc pm an cdv ct),osl⟩)
  (c:PySem.W.codeIn K cdv qual = true) (k:PySem.W.keepIn K (.ref f) = true):Fun K x qual st f (PySem.W.fnOf x qual (qh st) (qg st) (qc st) .none kV doc pm an cdv ct):=⟨⟨oc,od,kV,doc,pm,an,cdv,ct,osl,rfl,l,c⟩,k⟩
end
theorem hu_of {A:Around} {k:Nat} (hr:Room k A):A.units + 1 < cLine:=Nat.lt_of_le_of_lt (Nat.add_le_add_left (by decide:1≤64) _) hr.units
theorem vb {n:Nat} (h:n≤1000):n < sizeLine:=Nat.lt_of_le_of_lt h (by decide)
section
variable {X:Cx}
theorem pv (i:Nat) {x:Str} {pos:Pos} (hN:X.N[i]? = some x:=by rfl) (hv:Vis X.env.scope x:=by first | exact Or.inl rfl | exact Or.inr (Or.inl rfl) | exact Or.inr (Or.inr rfl)) (hd:(x == ("__debug__" : Str)) = false:=by decide)
  (hcd:(x == ("__classdict__" : Str)) = false:=by decide):PE X (.Name x pos) (tVar i):=pe_var hN hv hd hcd
end
theorem ite2 {c A B:Prop} [Decidable c] (h1:c→A) (h2:¬ c→B):if c then A else B:=by
 by_cases h:c
 ·rw [if_pos h]
  exact h1 h
 ·rw [if_neg h]
  exact h2 h
def Same (H H':Hp):Prop:=∀ b o,H b = some o→H' b = some o
theorem Same.refl (H:Hp):Same H H:=fun _ _ h => h
theorem Same.trans {H H1 H2:Hp} (a:Same H H1) (b:Same H1 H2):Same H H2:=fun c o h => b c o (a c o h)
theorem Same.free {H H':Hp} (e:Same H H') {l:Addr} (h:H' l = Option.none):H l = Option.none:=by
 cases q:H l with
 | none => rfl
 | some o =>
  rw [e l o q] at h
  cases h
theorem Same.seq {K:PySem.W.Frag} {H H':Hp} {a:Addr} {xs:List V} (e:Same H H') (h:SqL K H a xs):SqL K H' a xs:=by
 rcases h with (h | ⟨o,h⟩) | h
 ·exact .inl (.inl (e _ _ h))
 ·exact .inl (.inr ⟨o,e _ _ h⟩)
 ·exact .inr h
section
variable {κ:Type} [DecidableEq κ]
def valV (kvs:List (κ × V)) (k:κ):Option V:=(kvs.find? fun kv => decide (kv.1 = k)).map (·.2)
def putK (kvs:List (κ × V)) (k:κ) (v:V):List (κ × V) :=
 if (kvs.any fun kv => decide (kv.1 = k)) = true then kvs.map (fun kv => if kv.1 = k then (kv.1,v) else kv) else kvs ++ [(k,v)]
def dropK (kvs:List (κ × V)) (k:κ):List (κ × V):=kvs.filter fun kv => decide (kv.1≠k)
theorem Zh {p:κ × V} {r:List (κ × V)} {k:κ} (e:p.1 = k):valV (p :: r) k = some p.2:=by simp [valV,List.find?_cons,e]
theorem Zi {p:κ × V} {r:List (κ × V)} {k:κ} (e:¬ p.1 = k):valV (p :: r) k = valV r k:=by simp [valV,List.find?_cons,e]
theorem VX (kvs:List (κ × V)) (k:κ) (v:V):(putK kvs k v).length≤kvs.length + 1:=by
 unfold putK
 split
 ·rw [List.length_map]; omega
 ·rw [List.length_append,List.length_cons,List.length_nil]; omega
theorem KV.val {kvs:List (κ × V)} {vs:List (κ × Value)} (r:KV kvs vs) (k:κ):RelO (valV kvs k) (valueAt vs k):=by
 unfold KV at r
 induction r with
 | nil => exact True.intro
 | @cons p q ps qs h t ih =>
  obtain ⟨h1,h2⟩:=h
  by_cases e:p.1 = k
  ·have e':q.1 = k:=h1.symm.trans e
   have b:valueAt (q :: qs) k = some q.2:=by simp [valueAt,List.find?_cons,e']
   rw [Zh e,b]; exact h2
  ·have e':¬ q.1 = k:=fun z => e (h1.trans z)
   have b:valueAt (q :: qs) k = valueAt qs k:=by simp [valueAt,List.find?_cons,e']
   rw [Zi e,b]; exact ih
theorem KV.any {kvs:List (κ × V)} {vs:List (κ × Value)} (r:KV kvs vs) (k:κ):(kvs.any fun kv => decide (kv.1 = k)) = vs.any fun kv => decide (kv.1 = k):=by
 unfold KV at r
 induction r with
 | nil => rfl
 | cons h t ih => rw [List.any_cons,List.any_cons,ih,h.1]
theorem KV.repl {kvs:List (κ × V)} {vs:List (κ × Value)} (r:KV kvs vs) (k:κ) {y:V} {u:Value} (ry:RelV y u) :
  KV (kvs.map fun kv => if kv.1 = k then (kv.1,y) else kv) (vs.map fun kv => if kv.1 = k then (kv.1,u) else kv):=by
 unfold KV at r ⊢
 induction r with
 | nil => exact .nil
 | @cons p q ps qs h t ih =>
  rw [List.map_cons,List.map_cons]
  refine .cons ?_ ih
  obtain ⟨h1,h2⟩:=h
  by_cases e:p.1 = k
  ·rw [if_pos e,if_pos (h1.symm.trans e)]; exact ⟨h1,ry⟩
  ·rw [if_neg e,if_neg (fun z => e (h1.trans z))]; exact ⟨h1,h2⟩
theorem KV.put {kvs:List (κ × V)} {vs:List (κ × Value)} (r:KV kvs vs) (k:κ) {y:V} {u:Value} (ry:RelV y u):KV (putK kvs k y) (stored vs k u):=by
 unfold putK stored
 rw [r.any k]
 by_cases e:(vs.any fun kv => decide (kv.1 = k)) = true
 ·rw [if_pos e,if_pos e]; exact r.repl k ry
 ·rw [if_neg e,if_neg e]; exact Paired.snoc r ⟨rfl,ry⟩
theorem KV.drop {kvs:List (κ × V)} {vs:List (κ × Value)} (r:KV kvs vs) (k:κ):KV (dropK kvs k) (without vs k):=by
 unfold KV at r ⊢
 unfold dropK without
 induction r with
 | nil => exact .nil
 | @cons p q ps qs h t ih =>
  obtain ⟨h1,h2⟩:=h
  rw [List.filter_cons,List.filter_cons]
  by_cases e:p.1 = k
  ·have a:¬ decide (p.1≠k) = true:=by simp [e]
   have b:¬ decide (q.1≠k) = true:=by simp [h1.symm.trans e]
   rw [if_neg a,if_neg b]; exact ih
  ·have e':¬ q.1 = k:=fun z => e (h1.trans z)
   have a:decide (p.1≠k) = true:=by simp [e]
   have b:decide (q.1≠k) = true:=by simp [e']
   rw [if_pos a,if_pos b]; exact .cons ⟨h1,h2⟩ ih
theorem KV.length {kvs:List (κ × V)} {vs:List (κ × Value)} (r:KV kvs vs):kvs.length = vs.length:=Paired.length r
end
theorem kV_is {P:Program} {w:World} {k:Key} {u:Value} (r:RelV (kV k) u):(vp P w).is k u = true:=by
 cases k with
 | inl i => obtain ⟨t,e⟩:=(show ∃ t,u = Value.int i t from r); subst e; exact VT P w i t
 | inr x => obtain ⟨t,e⟩:=(show ∃ t,u = Value.str x t from r); subst e; exact xO P w x t
theorem Q5 {P:Program} {w:World}:∀ {ks:List Key} {us:List Value},Vals (ks.map kV) us→ItemsAre (vp P w) ks us
 | [],_,r => by rw [List.map_nil] at r; cases r; exact .nil
 | k :: ks,_,r => by
  rw [List.map_cons] at r
  cases r with
  | cons h t => exact .cons (kV_is h) (Q5 t)
abbrev KT (H:Hp):List (List Key × V)→List (List Key × Addr × Value)→Prop:=Paired fun p q => p.1 = q.1∧H q.2.1 = some (.tup (p.1.map kV))∧RelV p.2 q.2.2
theorem KT.val {H:Hp} {kvs:List (List Key × V)} {xs:List (List Key × Addr × Value)} (r:KT H kvs xs) (k:List Key):RelO (valV kvs k) ((atKey xs k).map (·.2)):=by
 induction r with
 | nil => exact True.intro
 | @cons p q ps qs h t ih =>
  obtain ⟨h1,_,h2⟩:=h
  by_cases e:p.1 = k
  ·have e':q.1 = k:=h1.symm.trans e
   have b:atKey (q :: qs) k = some q.2:=by simp [atKey,List.find?_cons,e']
   rw [Zh e,b]; exact h2
  ·have e':¬ q.1 = k:=fun z => e (h1.trans z)
   have b:atKey (q :: qs) k = atKey qs k:=by simp [atKey,List.find?_cons,e']
   rw [Zi e,b]; exact ih
section
variable {P:Program} {w:World} {H:Hp} {h:Heap} {a:Addr}
theorem rd_of {u:HO} (ok:HOk P w H h) (e:Rd H a u):ObjOk P w H h a u:=e.ok ok
theorem dk_rd {kvs:List (Key × V)} (ok:HOk P w H h) (e:Rd H a (.dK kvs)):kvs.length≤sizeLine∧(a == sysModules) = false∧∃ vs,KV kvs vs∧h.DictOf (vp P w) a vs :=
 show ObjOk P w H h a (.dK kvs) from rd_of ok e
theorem dk_of {kvs:List (Key × V)} (ok:HOk P w H h) (e:H a = some (.dK kvs)):kvs.length≤sizeLine∧(a == sysModules) = false∧∃ vs,KV kvs vs∧h.DictOf (vp P w) a vs:=dk_rd ok (.inl e)
theorem key_of {ks:List Key} (ok:HOk P w H h) (e:H a = some (.tup (ks.map kV))):(tupleKind (vp P w)).is h ks a:=by
 obtain ⟨_,its,r,o,h1,h2,n,h3⟩:=(show ObjOk P w H h a (.tup (ks.map kV)) from ok a _ e)
 exact ⟨o,its.toArray,n,h1,h2,h3,by simpa using Q5 r⟩
theorem dt_rd {kvs:List (List Key × V)} (ok:HOk P w H h) (e:Rd H a (.dT kvs)):kvs.length≤sizeLine∧(a == sysModules) = false ∧
  ∃ xs,KT H kvs xs∧h.DictOfH (tupleKind (vp P w)) a xs:=by
 obtain ⟨z,y,xs,r,o,es,ep,h1,h2,h3,h4,h5⟩:=(show ObjOk P w H h a (.dT kvs) from rd_of ok e)
 refine ⟨z,y,xs,r,o,es,ep,h1,h2,h3,h4,fun x hx => ?_,h5⟩
 have all:∀ {l:List (List Key × V)} {m:List (List Key × Addr × Value)},KT H l m→∀ x ∈ m,(tupleKind (vp P w)).is h x.1 x.2.1:=by
  intro l m q
  induction q with
  | nil => intro x hx; exact nomatch hx
  | @cons p q ps qs hq t ih =>
   intro x hx
   rcases List.mem_cons.mp hx with e | hx
   ·subst e
    exact key_of ok (by rw [← hq.1]; exact hq.2.1)
   ·exact ih x hx
 exact all r x hx
end
def DGet (H:Hp) (a:Addr) (y:V) (r:Option V):Prop :=
 (∃ kvs k,Rd H a (.dK kvs)∧y = kV k∧r = valV kvs k)∨∃ kvs k b,Rd H a (.dT kvs)∧y = .ref b∧H b = some (.tup (k.map kV))∧r = valV kvs k
def DPut (H:Hp) (a:Addr) (y v:V) (H':Hp):Prop :=
 (∃ kvs k,H a = some (.dK kvs)∧y = kV k∧kvs.length < sizeLine∧H' = upd H a (.dK (putK kvs k v))) ∨
 ∃ kvs k b,H a = some (.dT kvs)∧y = .ref b∧H b = some (.tup (k.map kV))∧kvs.length < sizeLine∧H' = upd H a (.dT (putK kvs k v))
theorem DGet.k {H:Hp} {a:Addr} {kvs:List (Key × V)} {k:Key} (e:H a = some (.dK kvs)):DGet H a (kV k) (valV kvs k):=.inl ⟨kvs,k, .inl e,rfl,rfl⟩
theorem DGet.t {H:Hp} {a b:Addr} {kvs:List (List Key × V)} {k:List Key} (e:H a = some (.dT kvs)) (eb:H b = some (.tup (k.map kV))):DGet H a (.ref b) (valV kvs k):=.inr ⟨kvs,k,b, .inl e,rfl,eb,rfl⟩
theorem DPut.k {H:Hp} {a:Addr} {kvs:List (Key × V)} {k:Key} {v:V} (e:H a = some (.dK kvs)) (hl:kvs.length < sizeLine):DPut H a (kV k) v (upd H a (.dK (putK kvs k v))):=.inl ⟨kvs,k,e,rfl,hl,rfl⟩
theorem DPut.t {H:Hp} {a b:Addr} {kvs:List (List Key × V)} {k:List Key} {v:V} (e:H a = some (.dT kvs)) (eb:H b = some (.tup (k.map kV))) (hl:kvs.length < sizeLine) :
  DPut H a (.ref b) v (upd H a (.dT (putK kvs k v))):=.inr ⟨kvs,k,b,e,rfl,eb,hl,rfl⟩
section
variable {X:Cx} {pins:List (Addr × Obj)} {σ:St} {H:Hp} {s:Shared} {a:Addr} {y v:V} {u:Value} {o:Option V} {A:Around} {E:Value→Shared→Prop}
theorem Inv.big (I:Inv X pins σ H s):sysModules < s.heap.objs.size:=by
 have h:mainGlobals < s.heap.objs.size:=(I.mod.glob.keeps I.bk).lt
 exact Nat.lt_trans (by decide) h
theorem Yd {Q:Value→Shared→Prop} (hu:A.units + 1 < cLine) (I:Inv X pins σ H s) (g:DGet H a y (some v)) (ry:RelV y u) (h:∀ w' s',Inv X pins σ H s'→RelV v w'→Q w' s') :
  wpAny (model X.prog X.w) A (getItem (.ref a) u) Q E s:=by
 rcases g with ⟨kvs,k,e,ey,l⟩ | ⟨kvs,k,b,e,ey,eb,l⟩
 ·subst ey
  obtain ⟨z,hd,vs,rel,dd⟩:=dk_rd I.hok e
  obtain ⟨w',hw,rw'⟩:=RelO.some_of (v:=v) (o:=valueAt vs k) (by rw [l]; exact rel.val k)
  exact wpAny_getItem_of (kV_is ry) dd.mapOf hw (h w' _ (I.tok _) rw')
 ·subst ey
  cases (show u = Value.ref b from ry)
  obtain ⟨z,hd,xs,rel,dd⟩:=dt_rd I.hok e
  obtain ⟨w',hw,rw'⟩:=RelO.some_of (v:=v) (o:=(atKey xs k).map (·.2)) (by rw [l]; exact rel.val k)
  obtain ⟨p,hp,hp2⟩:=Option.map_eq_some_iff.mp hw
  refine wpAny_getItem_heap (tupleKind_room_in1 hu) (key_of I.hok eb) dd hp ?_
  rw [hp2]
  exact h w' _ (I.tok _) rw'
theorem d_write {h':Heap} {t':Nat} {ob:HO} (I:Inv X pins σ H s) (mu:Mut (H a)) (hs:Heap.SameBut a s.heap h') (he:∃ q,h'.get? a = some q) (new:ObjOk X.prog X.w (upd H a ob) h' a ob) :
  Inv X pins σ (upd H a ob) { s with heap:=h',toks:=t' } :=
 I.write (x:=a) (e:=a) mu (.inl rfl) (fun b q hb z => (hs.2 b hb).trans z) he new
theorem dk_new {P:Program} {w:World} {H':Hp} {h':Heap} {kvs:List (Key × V)} {vs:List (Key × Value)} (z:kvs.length≤sizeLine) (hd:(a == sysModules) = false) (rel:KV kvs vs) (dd:h'.DictOf (vp P w) a vs) :
  ObjOk P w H' h' a (.dK kvs):=⟨z,hd,vs,rel,dd⟩
end
def NoSl (i:Expr):Prop:=∀ ov iv,subscripted i false ov iv = operate [ov,iv] (getItem ov iv)
theorem X9 {prog:Program} {w:World} {A:Around} {E:Value→Shared→Prop} {s:Shared} {env:Env} {value slice:Expr} {pos:Pos} {T id:String} {Q:Value→Shared→Prop}
  (hl:typeLookup (.type T) "__getitem__" = pure (some (.builtin id))) (hs:NoSl slice)
  (h:wpAny (model prog w) A (eval value env) (fun o s₁ => wpAny (model prog w) A (eval slice env) (fun i s₂ => s₂.TypeIs o T∧wpAny (model prog w) A (getItem o i) Q E s₂) E s₁) E s) :
  wpAny (model prog w) A (eval (.Subscript value slice pos) env) Q E s:=by
 refine Subscript_ (wpAny_mono h (fun o s₁ h₁ => wpAny_mono h₁ (fun i s₂ h₂ => ?_) fun _ _ x => x) fun _ _ x => x)
 obtain ⟨hT,h₂⟩:=h₂
 unfold subscriptTail
 refine wpAny_bind ?_
 rw [getitemInPython_of_ne hT.not_modules]
 refine wpAny_bind (wpAny_specialOf hT hl ?_)
 have fin:wpAny (model prog w) A (subscripted slice false o i) (fun r s₃ => wpAny (model prog w) A (letTemporaryGo value o r >>= fun _ => pure r) Q E s₃) E s₂:=by
  rw [hs o i]
  exact wpAny_operating (wpAny_mono h₂ (fun r s₃ h₃ => wpAny_bind (wpAny_letTemporaryGo (wpAny_pure h₃))) fun _ _ x => x)
 first
  | exact wpAny_pure (wpAny_bind fin)
  | exact wpAny_bind (wpAny_pure (wpAny_bind fin))
  | exact wpAny_bind fin
theorem Zb {X:Cx} {pins:List (Addr × Obj)} {σ:St} {H:Hp} {s:Shared} {a:Addr} {y:V} {o:Option V} (I:Inv X pins σ H s) (g:DGet H a y o):s.TypeIs (.ref a) "dict" := by
 rcases g with ⟨kvs,k,e,_,_⟩ | ⟨kvs,k,b,e,_,_,_⟩
 ·obtain ⟨_,_,vs,_,dd⟩:=dk_rd I.hok e
  exact dd.typeIs
 ·obtain ⟨_,_,xs,_,dd⟩:=dt_rd I.hok e
  exact dd.typeIs
def tDGet (td ty:TE):TE:=fun σ H Q => td σ H fun x H1 => ty σ H1 fun y H2 => ∃ a v,x = .ref a∧DGet H2 a y (some v)∧Q v H2
section
variable {X:Cx} {o i:Expr} {pos:Pos} {td ty:TE}
theorem pe_dget (hu:X.A.units + 1 < cLine) (ho:PE X o td) (hi:PE X i ty) (hs:NoSl i):PE X (.Subscript o i pos) (tDGet td ty):=by
 intro pins s σ H Q I h
 refine X9 PySem.F.slot_dict_getitem.lookup hs (thn (ho pins s σ H _ I h) fun u s1 ⟨x,H1,I1,rx,q1⟩ => thn (hi pins s1 σ H1 _ I1 q1) fun iv s2 ⟨y,H2,I2,ry,a,v,ex,g,q2⟩ => ?_)
 subst ex
 obtain rfl:u = Value.ref a:=rx
 exact ⟨Zb I2 g,Yd hu I2 g ry fun w' s3 I3 rw' => ⟨v,H2,I3,rw',q2⟩⟩
end
theorem dk_empty {P:Program} {w:World} {H:Hp} (h:Heap) (hb:sysModules < h.objs.size):ObjOk P w H (h.push { cls:=.type "dict", data:=.dict #[] }) h.objs.size (.dK []) :=
 ⟨Nat.zero_le _,beq_eq_false_iff_ne.mpr (Ne.symm (Nat.ne_of_lt hb)), [], .nil,Heap.DictOf.new h⟩
def Zm:List (TE × TE)→St→Hp→(List (V × V)→Hp→Prop)→Prop
 | [],_,H,Q => Q [] H
 | (tk,tv) :: r,σ,H,Q => tk σ H fun x H1 => tv σ H1 fun y H2 => Zm r σ H2 fun ps H3 => Q ((x,y) :: ps) H3
abbrev VV:List (V × V)→List (Value × Value)→Prop:=Paired fun p q => RelV p.1 q.1∧RelV p.2 q.2
def PPs (X:Cx) (pos:Pos) (keys:List (Option Expr)) (values:List Expr) (trs:List (TE × TE)):Prop :=
 ∀ (pins:List (Addr × Obj)) (s:Shared) (σ:St) (H:Hp) (Q:List (V × V)→Hp→Prop),Inv X pins σ H s→Zm trs σ H Q →
  wpAny (model X.prog X.w) X.A (evalPairs (pairTrees keys values X.env pos)) (fun vs s' => ∃ ps H',Inv X pins σ H' s'∧VV ps vs∧Q ps H') X.xe s
theorem pps_nil {X:Cx} {pos:Pos}:PPs X pos [] [] []:=fun pins s σ H Q I h => pairTrees_nil_walk ⟨[],H,I, .nil,h⟩
theorem pps_cons {X:Cx} {pos:Pos} {k v:Expr} {ks:List (Option Expr)} {vs:List Expr} {tk tv:TE} {trs:List (TE × TE)} (hk:PE X k tk) (hv:PE X v tv) (hr:PPs X pos ks vs trs) :
  PPs X pos (some k :: ks) (v :: vs) ((tk,tv) :: trs):=fun pins s σ H Q I h =>
 pairTrees_cons_walk (thn (hk pins s σ H _ I h) fun u s1 ⟨x,H1,I1,rx,q1⟩ => thn (hv pins s1 σ H1 _ I1 q1) fun w2 s2 ⟨y,H2,I2,ry,q2⟩ =>
  thn (hr pins s2 σ H2 _ I2 q2) fun ws s3 ⟨ps,H3,I3,rel,q3⟩ => ⟨(x,y) :: ps,H3,I3, .cons ⟨rx,ry⟩ rel,q3⟩)
def jT (kvs more:List (Key × V)):List (Key × V):=more.foldl (fun acc kv => putK acc kv.1 kv.2) kvs
theorem KV.merge:∀ {more:List (Key × V)} {rs:List (Key × Value)} {kvs:List (Key × V)} {vs:List (Key × Value)},KV more rs→KV kvs vs→KV (jT kvs more) (merged vs rs):=by
 intro more rs kvs vs r
 unfold KV at r
 induction r generalizing kvs vs with
 | nil => intro q; exact q
 | @cons p q ps qs h t ih =>
  intro r0
  have e:KV (putK kvs p.1 p.2) (stored vs q.1 q.2):=by
   have:=r0.put p.1 h.2
   rw [← h.1]; exact this
  exact ih e
theorem je:∀ (more kvs:List (Key × V)),(jT kvs more).length≤kvs.length + more.length
 | [],kvs => by show kvs.length≤kvs.length + 0; omega
 | p :: r,kvs => by
  have h1:=je r (putK kvs p.1 p.2)
  have h2:=VX kvs p.1 p.2
  show (jT (putK kvs p.1 p.2) r).length≤_
  rw [List.length_cons]; omega
theorem kB {P:Program} {w:World}:∀ {kvs:List (Key × V)} {ws:List (Value × Value)},VV (kvs.map fun kv => (kV kv.1,kv.2)) ws→∃ rs,Carries (vp P w) ws rs∧KV kvs rs
 | [],_,r => by rw [List.map_nil] at r; cases r; exact ⟨[],True.intro, .nil⟩
 | p :: kvs,_,r => by
  rw [List.map_cons] at r
  cases r with
  | @cons a b as bs h t =>
   obtain ⟨rs,c,q⟩:=kB (P:=P) (w:=w) t
   obtain ⟨b1,b2⟩:=b
   exact ⟨(p.1,b2) :: rs,⟨kV_is h.1,rfl,c⟩, .cons ⟨rfl,h.2⟩ q⟩
def tDisp (trs:List (TE × TE)):TE:=fun σ H Q => ∀ p,H p = none→Zm trs σ (upd H p (.dK [])) fun ps H2 => H2 p = some (.dK [])∧∃ kvs:List (Key × V),ps = kvs.map (fun kv => (kV kv.1,kv.2))∧kvs.length≤15∧Q (.ref p) (upd H2 p (.dK (jT [] kvs)))
theorem pe_disp {X:Cx} {pos:Pos} {keys:List (Option Expr)} {values:List Expr} {trs:List (TE × TE)} (h:PPs X pos keys values trs) (hall:keys.all (·.isSome) = true) (hl:keys.length = values.length) (h0:keys≠[])
  (h15:keys.length≤15):PE X (.Dict keys values pos) (tDisp trs):=by
 intro pins s σ H Q I q
 have hn:=I.hok.fresh (Nat.le_refl s.heap.objs.size)
 have I1:=I.laid (a:=s.heap.objs.size) (o:=.dK []) (h':=s.heap.push { cls:=.type "dict", data:=.dict #[] }) (t':=s.toks) (fun _ _ q => Heap.get?_push_of_some _ q) (Nat.le_refl _) (dk_empty s.heap I.big)
 refine wpAny_Dict_walk (knd:=vp X.prog X.w) hall hl h0 h15 (thn (h pins _ σ _ _ I1 (q _ hn)) fun ws s2 ⟨ps,H2,I2,rel,e,kvs,ep,lk,q2⟩ => ?_)
 subst ep
 obtain ⟨rs,c,rk⟩:=kB (P:=X.prog) (w:=X.w) rel
 obtain ⟨z,hd,vs0,r0,dd⟩:=dk_of I2.hok e
 cases r0
 refine ⟨rs,c,dd,fun h' dd' hs => ⟨.ref s.heap.objs.size,_, ?_,rfl,q2⟩⟩
 have hz:(jT [] kvs).length≤sizeLine:=by
  have h1:=je kvs []
  rw [List.length_nil] at h1
  rw [sizeLine_eq]; omega
 have he:∃ q,h'.get? s.heap.objs.size = some q:=let ⟨q,_,_,hq,_⟩:=dd'; ⟨q,hq⟩
 exact d_write I2 (by rw [e]; exact True.intro) hs he (dk_new hz hd (rk.merge .nil) dd')
structure M2 (X:Cx) (o:Expr) (m:Str) (apos:Pos) (e f:Expr) (cpos:Pos):Prop where
 base:attributeBase o m X.env (eval o X.env) = eval o X.env
 few:((backTo cpos (starEach [e,f] X.env)).all (fun x => !x.1) && (backToKw cpos (keywordEach [] X.env)).all (fun x => x.1.isSome)
  && decide (([e,f]:List Expr).length + ([]:List Keyword).length + (if ([]:List Keyword).isEmpty then 0 else 1) < 30)) = true
 line:(apos.endLine == cpos.line) = true
 trees:backTo cpos (starEach [e,f] X.env) = [(false,eval e X.env),(false,eval f X.env)]
def cxC (X:Cx) (scope:Scope) (cl:List (Str × Addr)) (M:List Str) (fp:List Addr) (s:Shared) (H:Hp):Cx :=
 { X with N:=M,s₀:=s,H₀:=H,env:=compEnvC scope cl s.heap.objs.size X.env,outer:=X.stack,stack:=X.stack,ex:=fp,fn:=fun _ => false,pn:=[],xe:=fun _ _ => False }
def vE (bs:List Bool) (n:Nat) (σ:St):St:=(bs.zip σ).map (fun p => if p.1 then p.2 else none) ++ List.replicate n none
def ExtS (σ τ:St):Prop:=∀ (i:Nat) v,σ[i]? = some (some v)→τ[i]? = some (some v)
theorem ExtS.refl (σ:St):ExtS σ σ:=fun _ _ h => h
theorem ExtS.trans {a b c:St} (h:ExtS a b) (k:ExtS b c):ExtS a c:=fun i v e => k i v (h i v e)
theorem ExtS.put {σ τ:St} {i:Nat} {v:V} (h:ExtS σ τ) (e:σ[i]? = some none):ExtS σ (τ.set i (some v)):=fun j w q => by
 by_cases hj:i = j
 ·subst hj; rw [e] at q; cases q
 ·rw [List.getElem?_set_ne hj]; exact h j w q
def CompW (J:It) (acc:Addr) (g:TG) (tt:TT) (te:TE) (σ0:St) (H1:Hp) (Q:VK):Prop:=∃ W:Nat→Nat→Hp→Prop,(∃ m,W 0 m (upd H1 acc (.lst []))) ∧
 ∀ i m H2,W i m H2→(J.stop i H2∧Q (.ref acc) H2)∨(J.go i H2∧∃ N:Hp→Prop,(∀ H',N H'→∃ m',m' < m∧W (i + 1) m' H')∧∀ x H3,J.yld i H2 x H3→g x σ0 H3 fun σ4 H4 => (ExtS σ0 σ4∧σ4.length = σ0.length)∧tt σ4 H4 fun b H5 =>
  if b = true then te σ4 H5 fun v H6 => ∃ ys,H6 acc = some (.lst ys)∧ys.length < sizeLine∧N (upd H6 acc (.lst (ys ++ [v]))) else N H5)
def vV (wi:TI) (bs:List Bool) (n:Nat) (g:TG) (tt:TT) (te:TE):TE:=fun σ H Q => wi σ H fun J H1 => ∀ acc,H1 acc = none→CompW J acc g tt te (vE bs n σ) H1 Q
def PTs (X:Cx) (ifs:List Expr) (t:TT):Prop :=
 ∀ (pins:List (Addr × Obj)) (s:Shared) (σ:St) (H:Hp) (Q:Bool→Hp→Prop),Inv X pins σ H s→t σ H Q →
  wpAny (model X.prog X.w) X.A (forIn ifs true fun c r => if r = true then do let ok ← isTrue c X.env (eval c X.env); pure (ForInStep.yield ok) else pure (ForInStep.yield r)) (TP X pins σ Q) X.xe s
def tYes:TT:=fun _ H Q => Q true H
theorem pts_nil {X:Cx}:PTs X [] tYes:=fun _ _ _ H _ I h => wpAny_tests_nil ⟨H,I,h⟩
theorem pts_one {X:Cx} {c:Expr} {t:TT} (h:PT X c t):PTs X [c] t:=fun pins s σ H Q I q => wpAny_tests_one (h pins s σ H Q I q)
structure CompS (X:Cx) (scope:Scope) (cl:List (Str × Addr)) (bs:List Bool) (ext:List Str):Prop where
 clos:closureFor scope X.env = pure cl
 cell:∀ y ∈ scope.names,y.2 ≠ .cell
 kind:scope.kind = .function
 names:∀ y ∈ scope.names,y.2 = .local→scope.names.lookup y.1 = some .local
 sub:∀ x c,cl.lookup x = some c→X.env.cells.lookup x = some c
 has:∀ x,((relabel scope X.env).names.lookup x = some .cell∨(relabel scope X.env).names.lookup x = some .free)→∃ c,cl.lookup x = some c
 len:bs.length = X.N.length
 vis:∀ (i:Nat) x,X.N[i]? = some x→bs[i]? = some true→Vis (relabel scope X.env) x→(relabel scope X.env).names.lookup x≠some .local∧(X.env.kindOf x = some .cell∨X.env.kindOf x = some .free)∧Vis X.env.scope x
theorem Kr {bs:List Bool} {n:Nat} {σ:St} (h:bs.length = σ.length):(vE bs n σ).length = σ.length + n:=by
 unfold vE; simp [h]
theorem Ks {bs:List Bool} {n:Nat} {σ:St} (h:bs.length = σ.length) {i:Nat} {v:V} (e:(vE bs n σ)[i]? = some (some v)):i < σ.length∧bs[i]? = some true∧σ[i]? = some (some v):=by
 unfold vE at e
 by_cases hi:i < σ.length
 ·rw [List.getElem?_append_left (by simp [h]; exact hi),List.getElem?_map] at e
  have hb:i < bs.length:=by omega
  rw [List.getElem?_eq_getElem (by simp [h]; exact hi)] at e
  simp only [List.getElem_zip,Option.map_some] at e
  split at e
  ·rename_i hb2
   refine ⟨hi, ?_, ?_⟩
   ·rw [List.getElem?_eq_getElem hb]; rw [hb2]
   ·rw [List.getElem?_eq_getElem hi]; exact e
  ·cases e
 ·rw [List.getElem?_append_right (by simp [h]; omega),List.getElem?_replicate] at e
  split at e <;> cases e
section
variable {X:Cx} {pins:List (Addr × Obj)} {σ:St} {H:Hp} {s:Shared}
theorem cxC_ok {scope:Scope} {cl:List (Str × Addr)} {bs:List Bool} {ext:List Str} {fp:List Addr} (S:CompS X scope cl bs ext) (I:Inv X pins σ H s) (hf:∀ b ∈ fp,FpOk X pins H b) (hfs:∀ b ∈ fp,b < s.heap.objs.size) :
  (cxC X scope cl (X.N ++ ext) fp s H).Ok where
 mod:=I.ok.mod
 kind:=S.kind
 glob:=I.ok.glob
 blt:=I.ok.blt
 above:=Nat.le_refl _
 inj:=fun x y c a b => I.ok.inj x y c (S.sub x c a) (S.sub y c b)
 has:=S.has
 cab:=fun x c h => nomatch h
 hd:=I.ok.hd
 frames:=I.ok.frames
 stk:=.inl rfl
 exf:=fun b hb => ⟨Nat.ne_of_lt (hfs b hb),fun x c e => (hf b hb).2.2.2.2.1 x c (S.sub x c e)⟩
 bs:=I.bs
 bsz:=Nat.le_trans I.ok.bsz I.sz
 noex:=fun b o e hb => by
  rcases (hf b hb).2.2.2.1 with z | z
  ·exact I.ok.noex b o e z
  ·exact absurd (Nat.lt_of_lt_of_le (Nat.lt_of_lt_of_le (Heap.lt_size e) I.ok.bsz) z) (Nat.lt_irrefl _)
 exfs:=fun b hb z => by
  rcases List.mem_cons.mp (I.stkSub b z) with q | q
  ·exact (hf b hb).2.1 q
  ·exact (hf b hb).2.2.1 q
 funs:=I.stack
 frf:=I.stkFree
theorem Ye {scope:Scope} {cl:List (Str × Addr)} {bs:List Bool} {ext:List Str} {fp:List Addr} {h1:Heap} {t':Nat} (S:CompS X scope cl bs ext) (I:Inv X pins σ H s) (hf:∀ b ∈ fp,FpOk X pins H b) (hfs:∀ b ∈ fp,b < s.heap.objs.size)
  (hn:h1.Ns s.heap.objs.size (fun _ => none)) (k:∀ b o,s.heap.get? b = some o→h1.get? b = some o) :
  Inv (cxC X scope cl (X.N ++ ext) fp s H) [] (vE bs ext.length σ) H { s with heap:=h1,toks:=t' }:=by
 have hl:bs.length = σ.length:=S.len.trans I.len.symm
 have cellk:∀ c v,s.heap.IsCell c v→h1.IsCell c v:=fun c v ⟨o,ho,hd⟩ => ⟨o,k c o ho,hd⟩
 refine ⟨cxC_ok S I hf hfs,rfl,I.bare,Un.kept k,⟨_,hn,fun i x v e1 e2 e3 => ?_⟩,fun x c e => ?_,I.hok.fresh (Nat.le_refl _),fun x c e => I.freeC x c (S.sub x c e),fun p hp => absurd hp (by simp [cxC]),I.hok.kept k, ?_⟩
 ·obtain ⟨hi,hb,hs⟩:=Ks hl e2
  have e1':X.N[i]? = some x:=by
   have e1'':(X.N ++ ext)[i]? = some x:=e1
   rwa [List.getElem?_append_left (by have:=I.len; omega)] at e1''
  obtain ⟨nl,kk,vv⟩:=S.vis i x e1' hb e3
  obtain ⟨m,_,hloc⟩:=I.loc
  obtain ⟨u,r,l⟩:=hloc i x v e1' hs vv
  refine ⟨u,r, .inr ⟨?_, ?_⟩⟩
  ·rcases e3 with z | z | z
   ·exact absurd z nl
   ·exact .inl z
   ·exact .inr z
  ·have hc:=S.has x (by
    rcases e3 with z | z | z
    ·exact absurd z nl
    ·exact .inl z
    ·exact .inr z)
   obtain ⟨c,hc⟩:=hc
   rcases l with ⟨kl,_⟩ | ⟨_,c',hc',hcell⟩
   ·rcases kk with z | z <;> (rw [kl] at z; cases z)
   ·rw [S.sub x c hc] at hc'
    cases hc'
    exact ⟨c,hc,cellk c _ hcell⟩
 ·obtain ⟨v,z⟩:=I.cell x c (S.sub x c e)
  exact ⟨v,cellk c v z⟩
 ·rw [Kr hl,I.len]; show _ = (X.N ++ ext).length; simp
theorem Yg {scope:Scope} {cl:List (Str × Addr)} {ext:List Str} {fp:List Addr} {σ':St} {H':Hp} {s':Shared} {h':Heap} {pins':List (Addr × Obj)} (I:Inv X pins σ H s) (hf:∀ b ∈ fp,FpOk X pins H b)
  (J:Inv (cxC X scope cl (X.N ++ ext) fp s H) pins' σ' H' s') (sb:Heap.SameBut s.heap.objs.size s'.heap h'):Inv X pins σ H' { s' with heap:=h' }:=by
 have B:Un (frs X.stack) fp H H' s.heap s'.heap:=J.base
 have nC:∀ b o,s.heap.get? b = some o→b≠s.heap.objs.size:=fun b o e => Nat.ne_of_lt (Heap.lt_size e)
 refine I.call' (ch:=fp) (s':={ s' with heap:=h' }) J.os ⟨fun b o e n hb hx => ?_,fun b o e n hb hx => ?_,fun b o e n hx => B.free b o e n hx,fun b o e hx => ?_,B.tups,B.frzs,B.tbls⟩ ?_ J.bare fun b hb => ⟨(hf b hb).2.2.2.1,(hf b hb).2.1,(hf b hb).2.2.2.2.1,(hf b hb).2.2.2.2.2⟩
 ·exact sb.extBut b o (nC b o e) (B.keep b o e n hb hx)
 ·obtain ⟨sl,q⟩:=B.slot b o e n hb hx
  exact ⟨sl,sb.extBut b _ (nC b o e) q⟩
 ·obtain ⟨o',q⟩:=B.there b o e hx
  exact ⟨o',sb.extBut b o' (nC b o e) q⟩
 ·intro a o e
  have fr:H' s.heap.objs.size = none:=J.free
  refine (J.hok a o e).stay (fun b u hb q => sb.extBut b u ?_ q) (fun _ q => q) fun _ _ q => q
  rcases hb with z | z
  ·subst z; intro z; rw [z,fr] at e; cases e
  ·intro z2; rw [z2,fr] at z; cases z
end
section
variable {X:Cx} {elt tg iter:Expr} {ifs:List Expr} {scope:Scope} {cl:List (Str × Addr)} {bs:List Bool} {ext:List Str} {pos:Pos} {wi:TI} {g:TG} {tt:TT} {te:TE}
theorem Z4 {use:Option (Value→Sem Unit)} {pins:List (Addr × Obj)} {s:Shared} {σ:St} {H:Hp} {Q:VK} {RR:Value→Shared→Prop} (S:CompS X scope cl bs ext) (hc:X.calm = true) (hi:PI X tg iter wi)
  (hg:∀ fp s H,PG (cxC X scope cl (X.N ++ ext) fp s H) tg g) (ht:∀ fp s H,PTs (cxC X scope cl (X.N ++ ext) fp s H) ifs tt) (he:∀ fp s H,PE (cxC X scope cl (X.N ++ ext) fp s H) elt te)
  (hs:∀ x,foldedSetIterable iter X.env x = pure x) (I:Inv X pins σ H s) (h:vV wi bs ext.length g tt te σ H Q) (ep:Pos)
  (hend:∀ (acc:Addr) (s2:Shared) (H2:Hp) (fp:List Addr) (σ':St) (H':Hp) (s':Shared),Inv X pins σ H2 s2→(∀ b ∈ fp,FpOk X pins H2 b)→Inv (cxC X scope cl (X.N ++ ext) fp s2 H2) [] σ' H' s'→Q (.ref acc) H' →
   compPost (model X.prog X.w) X.A X.xe use RR (.ref acc) s2.heap.objs.size (.ok .next) s') :
  wpAny (model X.prog X.w) X.A (comprehension (.ListComp elt [⟨tg,iter,ifs,0⟩] scope pos) scope X.env ep (newList []) false (eval iter X.env) use) RR X.xe s:=by
 refine wpAny_comprehension_free (use:=use) rfl hs S.clos S.kind S.names (thn (hi pins s σ H _ I h) fun v s1 h1 => thn h1 fun itv s2 h2 => ?_)
 obtain ⟨it,fp,tn,J,H2,e,I2,T,st2,f2,hW⟩:=h2
 subst e
 refine wpAny_newList ?_ (by decide)
 have hn2:H2 s2.heap.objs.size = none:=I2.hok.fresh (Nat.le_refl _)
 obtain ⟨W,⟨m0,w0⟩,turn⟩:=hW s2.heap.objs.size hn2
 have I3:=I2.lnew (its:=[]) (ys:=[]) (t':=s2.toks) .nil (Nat.zero_le _)
 generalize hs3:({ s2 with heap:=s2.heap.push { cls:=.type "list", data:=.seq ([]:List Value).toArray },toks:=s2.toks }:Shared) = s3 at I3
 have hsz3:s3.heap.objs.size = s2.heap.objs.size + 1:=by rw [← hs3]; exact Heap.size_push ..
 have k3:∀ b o,s2.heap.get? b = some o→s3.heap.get? b = some o:=fun b o e => by rw [← hs3]; exact Heap.get?_push_of_some _ e
 have fpo:∀ b ∈ fp,b < s2.heap.objs.size:=fun b hb => by obtain ⟨o,e,_⟩:=T.obj _ _ st2 b hb; exact Heap.lt_size e
 have f3:∀ b ∈ fp,FpOk X pins (upd H2 s2.heap.objs.size (.lst [])) b:=fun b hb => ⟨by rw [upd_ne (Nat.ne_of_lt (fpo b hb))]; exact (f2 b hb).1,(f2 b hb).2⟩
 have fps:∀ b ∈ fp,b < s3.heap.objs.size:=fun b hb => by rw [hsz3]; exact Nat.lt_succ_of_lt (fpo b hb)
 have st3:tn 0 s3.heap:=T.keep _ _ _ st2 fun b hb o e => k3 b o e
 refine wpAny_newFunctionEnv S.cell (by intro y hy; simp at hy) (fun h4 hns4 hsb4 => ?_) S.kind
 have k4:∀ b o,s3.heap.get? b = some o→h4.get? b = some o:=fun b o e => hsb4.extBut b o (Nat.ne_of_lt (Heap.lt_size e)) (Heap.get?_push_of_some _ e)
 have I4:=Ye (ext:=ext) (t':=s3.toks + ([]:List (Str × Value)).length) S I3 f3 fps (h1:=h4) hns4 k4
 have st4:tn 0 h4:=T.keep _ _ _ st3 fun b hb o e => k4 b o e
 generalize hs4:({ s3 with heap:=h4,toks:=s3.toks + ([]:List (Str × Value)).length }:Shared) = s4 at I4 ⊢
 have st4':tn 0 s4.heap:=by rw [← hs4]; exact st4
 -- the block
 generalize hY:cxC X scope cl (X.N ++ ext) fp s3 (upd H2 s2.heap.objs.size (.lst [])) = Y at I4
 have hYs:∀ {H':Hp},(∀ b ∈ fp,H' b = none)→∀ b ∈ fp,FpOk Y [] H' b:=fun hn b hb => by
  subst hY
  refine ⟨hn b hb,Nat.ne_of_lt (fps b hb),fun z => ?_, .inl hb,fun x c e => (f3 b hb).2.2.2.2.1 x c (S.sub x c e),fun p hp => absurd hp (by simp [cxC])⟩
  rcases List.mem_cons.mp (I3.stkSub b z) with q | q
  ·exact (f3 b hb).2.1 q
  ·exact (f3 b hb).2.2.1 q
 have hgY:PG Y tg g:=by subst hY; exact hg _ _ _
 have htY:PTs Y ifs tt:=by subst hY; exact ht _ _ _
 have heY:PE Y elt te:=by subst hY; exact he _ _ _
 have hYc:Y.calm = true:=by subst hY; exact hc
 have hYm:Y.prog = X.prog∧Y.w = X.w∧Y.K = X.K∧Y.A = X.A∧Y.env = compEnvC scope cl s3.heap.objs.size X.env∧Y.xe = fun _ _ => False:=by subst hY; exact ⟨rfl,rfl,rfl,rfl,rfl,rfl⟩
 obtain ⟨e1,e2,e3,e4,e5,e6⟩:=hYm
 have never:∀ {α:Type} {t:Sem α} {Q:α→Shared→Prop} {s:Shared} {E:Value→Shared→Prop},wpAny (model Y.prog Y.w) Y.A t Q Y.xe s→wpAny (model X.prog X.w) X.A t Q E s:=fun {α t Q s E} q => by
  rw [e1,e2,e4,e6] at q
  exact wpAny_mono q (fun _ _ z => z) fun _ _ z => z.elim
 have loop:codeAny (model X.prog X.w) X.A (.compLoop (.ListComp elt [⟨tg,iter,ifs,0⟩] scope pos) 0 (.ref it) (.ref s2.heap.objs.size) (compEnvC scope cl s3.heap.objs.size X.env))
   (compPost (model X.prog X.w) X.A X.xe use RR (.ref s2.heap.objs.size) s3.heap.objs.size) s4:=by
  refine codeAny_loop rfl (fun n s' => ∃ i H',Inv Y [] (vE bs ext.length σ) H' s'∧tn i s'.heap∧(∀ b ∈ fp,H' b = none)∧W i n H') (fun n s5 hI => ?_) m0 ⟨0,_,I4,st4',fun b hb => (f3 b hb).1,w0⟩
  obtain ⟨i,H5,I5,st5,fr5,w5⟩:=hI
  show wpAny _ X.A ((compTurn (.ListComp elt [⟨tg,iter,ifs,0⟩] scope pos) 0 (.ref it) (.ref s2.heap.objs.size) (compEnvC scope cl s3.heap.objs.size X.env)).onRaise (fun x => do noteFrame x (compEnvC scope cl s3.heap.objs.size X.env); theTreesLotGoes x)) _ _ s5
  refine wpAny_noted ?_
  rw [compTurn_list]
  rcases turn i n H5 w5 with ⟨stop,qn⟩ | ⟨go,N,hN,step⟩
  ·refine wpAny_bind (wpAny_standAt (wpAny_bind ?_))
   have hd:=T.done Y e1 e2 e3 hYc i [] s5 _ H5 (fun _ _ => False) I5 (hYs fr5) st5 stop
   rw [e4] at hd
   refine wpAny_mono hd (fun r s6 ⟨hr,I6⟩ => ?_) fun _ _ z => z.elim
   subst hr
   subst hY
   exact wpAny_pure (hend s2.heap.objs.size s3 _ fp _ H5 s6 I3 f3 I6 qn)
  ·refine wpAny_bind (wpAny_standAt (wpAny_bind ?_))
   have hd:=T.item Y e1 e2 e3 hYc i [] s5 _ H5 (fun _ _ => False) I5 (hYs fr5) st5 go
   rw [e4] at hd
   refine wpAny_mono hd (fun r s6 ⟨u,hr,h6⟩ => ?_) fun _ _ z => z.elim
   subst hr
   refine wpAny_bind (wpAny_mono h6 (fun _ s7 ⟨x,H7,I7,r7,y7,st7,fr7⟩ => ?_) fun _ _ z => z.elim)
   have I7':=I7.pinned (hYs fr7) (T.obj _ _ st7)
   rw [← e5]
   refine wpAny_bind (never (thn (hgY _ s7 _ H7 x u _ I7' r7 (step x H7 y7)) fun _ s8 ⟨σ8,H8,I8,⟨hx8,hl8⟩,q8⟩ => ?_))
   refine wpAny_bind (never (thn (htY _ s8 σ8 H8 _ I8 q8) fun b s9 ⟨H9,I9,q9⟩ => ?_))
   have again:∀ {H10:Hp} {s10:Shared} {m':Nat},Inv Y ([] ++ QK fp s7.heap) σ8 H10 s10→m' < n→W (i + 1) m' H10→∃ m,m < n∧∃ i H',Inv Y [] (vE bs ext.length σ) H' s10∧tn i s10.heap∧(∀ b ∈ fp,H' b = none)∧W i m H':=fun {H10 s10 m'} I10 hm w10 => by
    refine ⟨m',hm,i + 1,H10,(I10.unpinned).weak hl8.symm hx8,T.keep _ _ _ st7 fun b hb o e => (I10.pin (b,o) (List.mem_append_right _ (List.mem_append_right _ (xC hb e)))).1,fun b hb => ?_,w10⟩
    obtain ⟨o,e,d⟩:=T.obj _ _ st7 b hb
    exact (I10.pin (b,o) (List.mem_append_right _ (List.mem_append_right _ (xC hb e)))).2.1
   cases b with
   | false =>
    rw [if_neg Bool.false_ne_true] at q9
    obtain ⟨m',hm,w9⟩:=hN _ q9
    exact wpAny_pure ⟨by rw [e5],again I9 hm w9⟩
   | true =>
    rw [if_pos rfl] at q9
    refine wpAny_bind (wpAny_bind (never (thn (heY _ s9 σ8 H9 _ I9 q9) fun xv s10 ⟨y,H10,I10,r10,ys,hys,hz,n10⟩ => ?_)))
    obtain ⟨m',hm,w10⟩:=hN _ n10
    refine wpAny_bind (never (thn (jc (X:=Y) _ s10 σ8 H10 (.ref s2.heap.objs.size) [y] (.ref s2.heap.objs.size) [xv] (fun _ H => ∃ m',m' < n∧W (i + 1) m' H) I10 rfl (.cons r10 .nil) ⟨_,ys,y,rfl,rfl,hys,hz,m',hm,w10⟩) fun _ s11 ⟨_,H11,I11,_,m2,hm2,w11⟩ => ?_))
    exact wpAny_pure (wpAny_pure ⟨by rw [e5],again I11 hm2 w11⟩)
 exact codeAny_compStart_list loop (T.self X.A 0 s4 _ _ st4' loop)
theorem pe_comp (S:CompS X scope cl bs ext) (hc:X.calm = true) (hi:PI X tg iter wi)
  (hg:∀ fp s H,PG (cxC X scope cl (X.N ++ ext) fp s H) tg g) (ht:∀ fp s H,PTs (cxC X scope cl (X.N ++ ext) fp s H) ifs tt) (he:∀ fp s H,PE (cxC X scope cl (X.N ++ ext) fp s H) elt te)
  (hs:∀ x,foldedSetIterable iter X.env x = pure x:=by intro _; rfl):PE X (.ListComp elt [⟨tg,iter,ifs,0⟩] scope pos) (vV wi bs ext.length g tt te):=by
 intro pins s σ H Q I h
 rw [eval_ListComp]
 refine Z4 (use:=none) S hc hi hg ht he hs I h _ fun acc s2 H2 fp σ' H' s' I2 f2 J q => ?_
 obtain ⟨m,hn,_⟩:=J.loc
 exact ⟨m,hn,fun h' sb => ⟨.ref acc,H',Yg I2 f2 J sb,rfl,q⟩⟩
theorem ps_comp {i:Nat} {x:Str} {pos' spos:Pos} (S:CompS X scope cl bs ext) (hc:X.calm = true) (hN:X.N.Nodup) (hix:X.N[i]? = some x) (hx:X.env.scope.names.lookup x = some .local) (hi:PI X tg iter wi)
  (hg:∀ fp s H,PG (cxC X scope cl (X.N ++ ext) fp s H) tg g) (ht:∀ fp s H,PTs (cxC X scope cl (X.N ++ ext) fp s H) ifs tt) (he:∀ fp s H,PE (cxC X scope cl (X.N ++ ext) fp s H) elt te)
  (hsw:swapsWith (.ListComp elt [⟨tg,iter,ifs,0⟩] scope pos) (some (.Name x pos')) spos.line X.env = pure true)
  (hs:∀ x,foldedSetIterable iter X.env x = pure x:=by intro _; rfl):PS X (.Assign [.Name x pos'] (.ListComp elt [⟨tg,iter,ifs,0⟩] scope pos) spos) (tAsg (vV wi bs ext.length g tt te) (qE i)):=by
 intro pins s σ H D I h
 rw [exec_Assign_Name_used _ _ _ _ hsw]
 refine wpAny_bind (wpAny_standAt (wpAny_bind ?_))
 show wpAny _ X.A (do let _ ← comprehension (.ListComp elt [⟨tg,iter,ifs,0⟩] scope pos) scope X.env _ (newList []) false (eval iter X.env) (some (assign (.Name x pos') X.env))) _ _ s
 refine wpAny_bind (wpAny_mono (Z4 (use:=some (assign (.Name x pos') X.env)) (RR:=fun _ s' => SP X pins D .next s') S hc hi hg ht he hs I h _ fun acc s2 H2 fp σ' H' s' I2 f2 J q => ?_) (fun _ s' hq => wpAny_pure (wpAny_pure hq)) fun _ _ e => e)
 have I5:Inv X pins σ H' s':=by
  have:=Yg (h':=s'.heap) I2 f2 J (.refl ..)
  exact this
 show wpAny _ X.A (assign (.Name x pos') X.env (.ref acc)) _ _ s'
 obtain ⟨m,hn,_⟩:=J.loc
 have hCL:s2.heap.objs.size≠X.env.locals:=Nat.ne_of_gt I2.lt
 have nC:∀ b o,s2.heap.get? b = some o→b≠s2.heap.objs.size:=fun b o e => Nat.ne_of_lt (Heap.lt_size e)
 have cC:∀ y c,X.env.cells.lookup y = some c→c≠s2.heap.objs.size:=fun y c e => by
  obtain ⟨v,o,ho,_⟩:=I2.cell y c e
  exact nC c o ho
 refine wpAny_assign_Name (Qw I5 hN hix (.inl hx) (v:=.ref acc) rfl (fun s6 I6 k6 => ?_) (.inr hx))
 obtain ⟨a,sb6,ha⟩:=k6
 have haC:a≠s2.heap.objs.size:=by
  rcases ha with z | z
  ·rw [z]; exact hCL.symm
  ·exact cC x a z
 refine ⟨m,hn.sameBut sb6 haC.symm,fun h' sb => ?_⟩
 refine ⟨_,H',I6.turned (t':=s6.toks) (it:=s2.heap.objs.size) (fun b o hb e => sb.extBut b o hb e) ?_ hCL (.inr (Nat.le_trans I2.ok.above (Nat.le_of_lt I2.lt))) cC fun p hp => ?_,q⟩
 ·have fr:H' s2.heap.objs.size = none:=J.free
  exact fr
 ·exact nC p.1 p.2 (I2.pin p hp).1
end
theorem Yi {K:PySem.W.Frag} {a acc:Addr} {xs:List V} {g:TG} {tt:TT} {te:TE} {σ0:St} {H1:Hp} {Q:VK} (Pv:Nat→Hp→Prop) (h0:Pv 0 (upd H1 acc (.lst []))) (hl:∀ i H,i≤xs.length→Pv i H→SqL K H a xs)
  (hs:∀ i x H,xs[i]? = some x→Pv i H→g x σ0 H fun σ4 H4 => (ExtS σ0 σ4∧σ4.length = σ0.length)∧tt σ4 H4 fun b H5 =>
   if b = true then te σ4 H5 fun v H6 => ∃ ys,H6 acc = some (.lst ys)∧ys.length < sizeLine∧Pv (i + 1) (upd H6 acc (.lst (ys ++ [v]))) else Pv (i + 1) H5)
  (hd:∀ H,Pv xs.length H→Q (.ref acc) H):CompW (Itl K a) acc g tt te σ0 H1 Q:=by
 refine ⟨fun i m H => m = xs.length - i∧i≤xs.length∧Pv i H,⟨xs.length,by simp,Nat.zero_le _,h0⟩, ?_⟩
 rintro i m H ⟨rfl,hi,p⟩
 have q:=hl i H hi p
 by_cases hlt:i < xs.length
 ·refine .inr ⟨⟨xs,xs[i],q,by simp [hlt]⟩,Pv (i + 1),fun H' p' => ⟨xs.length - (i + 1),by omega,rfl,hlt,p'⟩,fun x H' y => ?_⟩
  obtain ⟨e,y⟩:=y
  subst e
  exact hs i x _ (y xs q) p
 ·have e:i = xs.length:=by omega
  subst e
  exact .inl ⟨⟨xs,q,Nat.le_refl _⟩,hd H p⟩
def clOf (env:Env):List (Str × NameKind)→List (Str × Addr)→List (Str × Addr)
 | [],cs => cs
 | (n,k) :: r,cs => clOf env r (if (k == NameKind.free) = true then (n,(env.cells.lookup n).getD 0) :: cs else cs)
theorem clos_eq {env:Env} (scope:Scope) (h:∀ p ∈ scope.names,p.2 = .free→∃ c,env.cells.lookup p.1 = some c):closureFor scope env = pure (clOf env scope.names []):=by
 unfold closureFor
 generalize ([]:List (Str × Addr)) = cs0
 generalize scope.names = ns at h
 have key:∀ (ns:List (Str × NameKind)) (cs:List (Str × Addr)),(∀ p ∈ ns,p.2 = .free→∃ c,env.cells.lookup p.1 = some c) →
   (forIn ns cs fun (x:Str × NameKind) (r:List (Str × Addr)) => (match x with | (name,kind) => if (kind == NameKind.free) = true then do let c ← cellOf env name; pure (ForInStep.yield ((name,c) :: r)) else pure (ForInStep.yield r):Sem (ForInStep (List (Str × Addr))))) = pure (clOf env ns cs):=by
  intro ns
  induction ns with
  | nil => intro cs _; rfl
  | cons p r ih =>
   intro cs hp
   obtain ⟨n,k⟩:=p
   rw [List.forIn_cons]
   by_cases hk:(k == NameKind.free) = true
   ·obtain ⟨c,hc⟩:=hp (n,k) List.mem_cons_self (by simpa using hk)
    have hcell:cellOf env n = pure c:=by unfold cellOf; rw [hc]
    simp only [hk,if_true,hcell,pure_bind]
    rw [ih _ fun q hq => hp q (List.mem_cons_of_mem _ hq)]
    have hc':List.lookup n env.cells = some c:=hc
    simp [clOf,hk,hc']
   ·simp only [hk,Bool.false_eq_true,if_false,pure_bind]
    rw [ih _ fun q hq => hp q (List.mem_cons_of_mem _ hq)]
    simp [clOf,hk]
 have:=key ns cs0 h
 rw [show (do
   let mut cs:=cs0
   for (name,kind) in ns do
    if kind == .free then cs:=(name, ← cellOf env name) :: cs
   return cs:Sem (List (Str × Addr))) = (forIn ns cs0 fun (x:Str × NameKind) (r:List (Str × Addr)) => (match x with | (name,kind) => if (kind == NameKind.free) = true then do let c ← cellOf env name; pure (ForInStep.yield ((name,c) :: r)) else pure (ForInStep.yield r):Sem (ForInStep (List (Str × Addr))))) >>= pure from rfl]
 rw [this,pure_bind]
theorem Z5 {env:Env}:∀ (ns:List (Str × NameKind)) (cs:List (Str × Addr)),(∀ p ∈ ns,p.2 = .free→∃ c,env.cells.lookup p.1 = some c)→(∀ x c,cs.lookup x = some c→env.cells.lookup x = some c)→∀ x c,(clOf env ns cs).lookup x = some c→env.cells.lookup x = some c
 | [],cs,_,h,x,c,e => h x c e
 | (n,k) :: r,cs,hp,h,x,c,e => by
  refine Z5 r _ (fun q hq => hp q (List.mem_cons_of_mem _ hq)) (fun y d e' => ?_) x c e
  split at e'
  ·rename_i hk
   obtain ⟨c',hc⟩:=hp (n,k) List.mem_cons_self (by simpa using hk)
   rw [List.lookup_cons] at e'
   have hc':List.lookup n env.cells = some c':=hc
   rw [hc'] at e'
   split at e'
   ·rename_i hy
    have hy':y = n:=by simpa using hy
    subst hy'
    rw [← e']; exact hc'
   ·exact h y d e'
  ·exact h y d e'
theorem Z6 {env:Env}:∀ (ns:List (Str × NameKind)) (cs:List (Str × Addr)) (x:Str),((x,NameKind.free) ∈ ns∨∃ c,cs.lookup x = some c)→∃ c,(clOf env ns cs).lookup x = some c
 | [],cs,x,h => by
  rcases h with h | h
  ·cases h
  ·exact h
 | (n,k) :: r,cs,x,h => by
  refine Z6 r _ x ?_
  rcases h with h | ⟨c,h⟩
  ·rcases List.mem_cons.mp h with h | h
   ·injection h with h1 h2
    subst h1 h2
    right
    exact ⟨_,by simp [List.lookup_cons]; rfl⟩
   ·exact .inl h
  ·right
   split
   ·rw [List.lookup_cons]
    split
    ·exact ⟨_,rfl⟩
    ·exact ⟨c,h⟩
   ·exact ⟨c,h⟩
def jB (scope:Scope) (env:Env) (N:List Str) (bs:List Bool):Bool :=
 scope.names.all (fun p => p.2 != .cell) && (scope.kind == .function) && scope.names.all (fun p => p.2 != .local || scope.names.lookup p.1 == some .local) && (bs.length == N.length)
  && scope.names.all (fun p => p.2 != .free || (env.kindOf p.1 == some .cell || env.kindOf p.1 == some .free)) && (N.zip bs).all (fun p => !p.2 || scope.names.lookup p.1 == some .free)
theorem mem_of_lookup {β:Type} {x:Str} {b:β}:∀ {l:List (Str × β)},l.lookup x = some b→(x,b) ∈ l
 | [],h => by simp at h
 | (y,c) :: r,h => by
  rw [List.lookup_cons] at h
  split at h
  ·rename_i hy
   have:x = y:=by simpa using hy
   subst this; cases h; exact List.mem_cons_self
  ·exact List.mem_cons_of_mem _ (mem_of_lookup h)
theorem vR {env:Env}:∀ {names:List (Str × NameKind)} {x:Str} {k:NameKind},
  (names.map fun (n,k) => if (k == NameKind.free && env.scope.kind == .function && env.kindOf n == some .cell) then (n,NameKind.cell) else (n,k)).lookup x = some k→names.lookup x = some k∨(k = .cell∧names.lookup x = some .free)
 | [],_,_,h => by simp at h
 | (n,k') :: r,x,k,h => by
  have ih:=@vR env r x k
  have h':List.lookup x ((if (k' == NameKind.free && env.scope.kind == .function && env.kindOf n == some .cell) = true then (n,NameKind.cell) else (n,k')) :: (r.map fun (n,k) => if (k == NameKind.free && env.scope.kind == .function && env.kindOf n == some .cell) then (n,NameKind.cell) else (n,k))) = some k:=h
  by_cases hc:(k' == NameKind.free && env.scope.kind == .function && env.kindOf n == some .cell) = true
  ·rw [if_pos hc,List.lookup_cons] at h'
   rw [List.lookup_cons]
   have hf:k' = .free:=by
    cases k' <;> first | rfl | (exfalso; revert hc; simp)
   split at h'
   ·right
    injection h' with h'
    rw [hf]
    exact ⟨h'.symm,rfl⟩
   ·exact ih h'
  ·rw [if_neg hc,List.lookup_cons] at h'
   rw [List.lookup_cons]
   split at h'
   ·exact .inl h'
   ·exact ih h'
theorem CompS.of {X:Cx} {scope:Scope} {bs:List Bool} {ext:List Str} {pins:List (Addr × Obj)} {σ:St} {H:Hp} {s:Shared} (I:Inv X pins σ H s) (h:jB scope X.env X.N bs = true):CompS X scope (clOf X.env scope.names []) bs ext:=by
 unfold jB at h
 simp only [Bool.and_eq_true,List.all_eq_true] at h
 obtain ⟨⟨⟨⟨⟨h1,h2⟩,h3⟩,h4⟩,h5⟩,h6⟩:=h
 have hc:∀ p ∈ scope.names,p.2 = .free→∃ c,X.env.cells.lookup p.1 = some c:=fun p hp hf => by
  have:=h5 p hp
  rw [hf] at this
  refine I.ok.has p.1 ?_
  simpa using this
 have nocell:∀ {x:Str},scope.names.lookup x≠some .cell:=fun {x} e => by
  have:=h1 _ (mem_of_lookup e)
  simp at this
 refine ⟨clos_eq scope hc,fun y hy => by simpa using h1 y hy,by simpa using h2,fun y hy hl => ?_,fun x c e => Z5 scope.names [] hc (fun _ _ z => by simp at z) x c e,fun x hx => ?_,by simpa using h4,fun i x hN hb hv => ?_⟩
 ·have:=h3 y hy
  rw [hl] at this
  simpa using this
 ·refine Z6 scope.names [] x (.inl ?_)
  rcases hx with hx | hx
  ·rcases vR hx with z | ⟨_,z⟩
   ·exact absurd z nocell
   ·exact mem_of_lookup z
  ·rcases vR hx with z | ⟨z,_⟩
   ·exact mem_of_lookup z
   ·cases z
 ·have hz:(x,true) ∈ X.N.zip bs:=by
   have:(X.N.zip bs)[i]? = some (x,true):=by
    rw [List.getElem?_zip_eq_some]; exact ⟨hN,hb⟩
   exact List.mem_of_getElem? this
  have hf:=h6 _ hz
  have hf:scope.names.lookup x = some .free:=by simpa using hf
  have hk:=h5 _ (mem_of_lookup hf)
  have hk:X.env.kindOf x = some .cell∨X.env.kindOf x = some .free:=by simpa using hk
  refine ⟨fun z => ?_,hk, ?_⟩
  ·rcases vR z with q | ⟨q,_⟩
   ·rw [hf] at q; cases q
   ·cases q
  ·rcases hk with q | q
   ·exact .inr (.inl q)
   ·exact .inr (.inr q)
section
variable {X:Cx} {elt tg iter:Expr} {ifs:List Expr} {scope:Scope} {bs:List Bool} {ext:List Str} {pos:Pos} {wi:TI} {g:TG} {tt:TT} {te:TE}
abbrev cxB (X:Cx) (scope:Scope) (ext:List Str) (fp:List Addr) (s:Shared) (H:Hp):Cx:=cxC X scope (clOf X.env scope.names []) (X.N ++ ext) fp s H
theorem pe_lc (bs:List Bool) (ext:List Str) (hi:PI X tg iter wi) (hg:∀ fp s H,PG (cxB X scope ext fp s H) tg g) (ht:∀ fp s H,PTs (cxB X scope ext fp s H) ifs tt) (he:∀ fp s H,PE (cxB X scope ext fp s H) elt te)
  (hk:jB scope X.env X.N bs = true:=by rfl) (hc:X.calm = true:=by rfl) (hs:∀ x,foldedSetIterable iter X.env x = pure x:=by intro _; rfl) :
  PE X (.ListComp elt [⟨tg,iter,ifs,0⟩] scope pos) (vV wi bs ext.length g tt te):=fun pins s σ H Q I h => pe_comp (CompS.of I hk) hc hi hg ht he hs pins s σ H Q I h
theorem ps_lc {i:Nat} {x:Str} {pos' spos:Pos} (bs:List Bool) (ext:List Str) (hN:X.N.Nodup) (hix:X.N[i]? = some x) (hx:X.env.scope.names.lookup x = some .local) (hi:PI X tg iter wi) (hg:∀ fp s H,PG (cxB X scope ext fp s H) tg g) (ht:∀ fp s H,PTs (cxB X scope ext fp s H) ifs tt) (he:∀ fp s H,PE (cxB X scope ext fp s H) elt te)
  (hk:jB scope X.env X.N bs = true:=by rfl) (hc:X.calm = true:=by rfl)
  (hsw:swapsWith (.ListComp elt [⟨tg,iter,ifs,0⟩] scope pos) (some (.Name x pos')) spos.line X.env = pure true:=by rfl) (hs:∀ x,foldedSetIterable iter X.env x = pure x:=by intro _; rfl) :
  PS X (.Assign [.Name x pos'] (.ListComp elt [⟨tg,iter,ifs,0⟩] scope pos) spos) (tAsg (vV wi bs ext.length g tt te) (qE i)):=fun pins s σ H D I h => ps_comp (CompS.of I hk) hc hN hix hx hi hg ht he hsw hs pins s σ H D I h
end
def CDivB (i j:Int):Prop:=0 < j∧j.natAbs.log2 < 9000
theorem noPyl {i j:Int} (h:CDivB i j):Builtin.divisionGoesByPylong i j = false:=PyProof.noPylong_of_log2 h.2
theorem ZJ {X:Cx}:OpR X (binaryOp .FloorDiv) (rI CDivB fun i j => .int (i / j)):=opI fun i j _ _ _ _ _ hc q => by
 refine floordiv_int (by have:=hc.1; omega) ?_ (.inl (noPyl hc))
 rw [Int.fdiv_eq_ediv_of_nonneg _ (by have:=hc.1; omega)]
 exact q
section
variable {σ:St} {H:Hp} {Q:VK}
theorem rd_I {C:Int→Int→Prop} {g:Int→Int→V} {i j:Int}:rI C g (.int i) (.int j) H Q = (C i j∧Q (g i j) H) :=
 propext ⟨fun ⟨_,_,e1,e2,h⟩ => by cases e1; cases e2; exact h,fun h => ⟨i,j,rfl,rfl,h⟩⟩
theorem xh {g:Int→Int→V} {i j:Int}:rI0 g (.int i) (.int j) H Q = Q (g i j) H :=
 propext ⟨fun ⟨_,_,e1,e2,h⟩ => by cases e1; cases e2; exact h,fun h => ⟨i,j,rfl,rfl,h⟩⟩
theorem rd_U {g:Int→V} {i:Int}:rU g (.int i) H Q = Q (g i) H :=
 propext ⟨fun ⟨_,e1,h⟩ => by cases e1; exact h,fun h => ⟨i,rfl,h⟩⟩
theorem vm {t:TE} {R:Bool→Hp→Prop}:zm t σ H R = t σ H fun x H' => ∃ k,x = .bl k∧R k H':=rfl
theorem xg {k:Bool} {R:Bool→Prop}:(∃ k',V.bl k = .bl k'∧R k') = R k:=propext ⟨fun ⟨_,e,h⟩ => by cases e; exact h,fun h => ⟨k,rfl,h⟩⟩
theorem xf {i:Int} {R:Int→Prop}:(∃ j,([V.int i]:List V) = [V.int j]∧R j) = R i:=propext ⟨fun ⟨_,e,h⟩ => by cases e; exact h,fun h => ⟨i,rfl,h⟩⟩
theorem xc {a b:Int} {R:Int→Int→Prop}:(∃ i j,([V.int a,V.int b]:List V) = [V.int i,V.int j]∧R i j) = R a b:=propext ⟨fun ⟨_,_,e,h⟩ => by cases e; exact h,fun h => ⟨a,b,rfl,h⟩⟩
theorem xb {a:Addr} {R:Addr→List V→Prop}:(∃ p ys,([V.ref a]:List V) = [V.ref p]∧R p ys) = ∃ ys,R a ys:=propext ⟨fun ⟨_,ys,e,h⟩ => by cases e; exact ⟨ys,h⟩,fun ⟨ys,h⟩ => ⟨a,ys,rfl,h⟩⟩
theorem xL {p x:Addr} {o o':HO} (hp:H p = none) (h:H x = some o):upd H p o' x = some o:=by rw [upd_ne (qO h hp)]; exact h
theorem jD {p x:Addr} {o o':HO} (hn:x≠p) (h:H x = some o):upd H p o' x = some o:=by rw [upd_ne hn]; exact h
theorem Qd {p x:Addr} {o':HO} (h:upd H p o' x = none):H x = none∧x≠p:=by
 have hx:x≠p:=fun e => by subst e; rw [upd_same] at h; cases h
 rw [upd_ne hx] at h
 exact ⟨h,hx⟩
theorem Same.upd {H1:Hp} {p:Addr} {o:HO} (s:Same H H1) (h:H p = none):Same H (upd H1 p o):=fun b o' e => by
 rw [upd_ne (qO e h)]; exact s b o' e
theorem ExtS.nl:ExtS [] []:=fun _ _ h => h
theorem ExtS.no {a b:St} {x:Option V} (h:ExtS a b):ExtS (none :: a) (x :: b):=fun i v e => by
 cases i with
 | zero => simp at e
 | succ i => simpa using h i v (by simpa using e)
theorem ExtS.sm {a b:St} {x:Option V} (h:ExtS a b):ExtS (x :: a) (x :: b):=fun i v e => by
 cases i with
 | zero => simpa using e
 | succ i => simpa using h i v (by simpa using e)
end
structure Def (P:Program) (w:World) (K:PySem.W.Frag) (mg:Str→Option Value) (base:Heap) (x:Str) (k:Nat) (ps:List Str) (sp:Sp):Prop where
 ex:∃ (f:Addr) (fd:FuncData),mg x = some (.ref f)∧PySem.W.keepIn K (.ref f) = true∧Binds K fd ps []∧FnOk P w K mg base CX0 k f fd ps sp
section
variable {X:Cx} {x:Str} {k:Nat} {ps:List Str} {sp:Sp} {p pos:Pos} {e:Expr} {es:List Expr} {t:TA}
theorem pe_def (D:Def X.prog X.w X.K X.mg X.base x k ps sp) (hr:Room k X.A) (ha:PA X (e :: es) t) (hg:Gl X x:=by rfl) (hdb:(x == ("__debug__" : Str)) = false:=by decide) (he:starEach (e :: es) X.env = (false,eval e X.env) :: starEach es X.env:=by rfl) (hpl:(backTo pos (starEach es X.env)).any (·.1) = false:=by rfl) :
  PE X (.Call (.Name x p) (e :: es) [] pos) (vN sp [] E0 t):=by
 obtain ⟨f,fd,h1,h2,h3,h4⟩:=D.ex
 exact pe_call h4 hr hg h1 h2 h3 .nil pass0 ha hdb he hpl
end
def rIsi (K:PySem.W.Frag):List V→Hp→VK→Prop:=fun xs H Q => ∃ x n t b,xs = [x, .ty n]∧TyOf K H x (.type t)∧PySem.W.kitOne K (.type t) (.type n) = some b∧Q (.bl b) H
theorem call_isi {X:Cx}:xV X (.builtin "isinstance") (rIsi X.K):=by
 intro pins s σ H xs us Q I r h
 obtain ⟨x,n,t,b,rfl,ty,e,q⟩:=h
 obtain ⟨u,v,rfl,ru,rv⟩:=vals2 r
 obtain rfl:v = Value.type n:=rv
 exact KH I ru ty e fun tk => ⟨.bl b,H,I.tok tk,rfl,q⟩
inductive DE (K:PySem.W.Frag) (H:Hp):Nat→V→V→Bool→Prop
 | flat {n:Nat} {x y:V}:flatV x = true→flatV y = true→DE K H n x y (eqV x y)
 | same {n:Nat} {a:Addr}:DE K H n (.ref a) (.ref a) true
 | tup {n:Nat} {a b:Addr} {xs ys:List V} {e:Nat→Bool}:a≠b→SqT K H a xs→SqT K H b ys→(∀ (j:Nat) x y,xs[j]? = some x→ys[j]? = some y→DE K H n x y (e j))→DE K H (n + 1) (.ref a) (.ref b) ((List.range (min xs.length ys.length)).all e && xs.length == ys.length)
 | lst {n:Nat} {a b:Addr} {xs ys:List V} {e:Nat→Bool}:a≠b→SqL K H a xs→SqL K H b ys→xs.length = ys.length→(∀ (j:Nat) x y,xs[j]? = some x→ys[j]? = some y→DE K H n x y (e j))→DE K H (n + 1) (.ref a) (.ref b) ((List.range xs.length).all e)
 | lstN {n:Nat} {a b:Addr} {xs ys:List V}:a≠b→SqL K H a xs→SqL K H b ys→xs.length≠ys.length→DE K H (n + 1) (.ref a) (.ref b) false
theorem jf {A:Around}:A.in1.units = A.units + 1:=rfl
theorem DE.eqAt {X:Cx} {pins:List (Addr × Obj)} {σ:St} {H:Hp} {s:Shared} (I:Inv X pins σ H s) {n:Nat} {x y:V} {b:Bool} (d:DE X.K H n x y b):∀ {A:Around} {u v:Value},A.units + n < cLine→RelV x u→RelV y v→SeqAt.EqAt A s u v b:=by
 induction d with
 | flat f g => intro A u v _ rx ry; exact Z1 rx ry f g
 | same =>
  intro A u v _ rx ry
  obtain rfl:u = _:=rx
  obtain rfl:v = _:=ry
  exact SeqAt.EqAt.same _
 | @tup n a b xs ys e ne ha hb _ ih =>
  intro A u v hu rx ry
  obtain rfl:u = Value.ref a:=rx
  obtain rfl:v = Value.ref b:=ry
  obtain ⟨its,r1,p1,_⟩:=I.tuple ha
  obtain ⟨its2,r2,p2,_⟩:=I.tuple hb
  have:=SeqAt.RcAt.tuples (A:=A) (e:=e) p1 p2 (by omega) fun j h1 h2 => by
   have l1:j < xs.length:=by rw [r1.length]; simpa using h1
   have l2:j < ys.length:=by rw [r2.length]; simpa using h2
   obtain ⟨u1,q1,s1⟩:=r1.get (List.getElem?_eq_getElem l1)
   obtain ⟨u2,q2,s2⟩:=r2.get (List.getElem?_eq_getElem l2)
   have e1:its.toArray[j] = u1:=by
    have:=List.getElem?_eq_some_iff.mp q1
    obtain ⟨_,z⟩:=this
    simpa using z
   have e2:its2.toArray[j] = u2:=by
    have:=List.getElem?_eq_some_iff.mp q2
    obtain ⟨_,z⟩:=this
    simpa using z
   rw [e1,e2]
   exact ih j _ _ (List.getElem?_eq_getElem l1) (List.getElem?_eq_getElem l2) (by rw [jf]; omega) s1 s2
  rw [List.size_toArray,List.size_toArray, ← r1.length, ← r2.length] at this
  exact .of_refs ne this
 | @lst n a b xs ys e ne ha hb hl _ ih =>
  intro A u v hu rx ry
  obtain rfl:u = Value.ref a:=rx
  obtain rfl:v = Value.ref b:=ry
  obtain ⟨its,r1,p1,_⟩:=I.list ha
  obtain ⟨its2,r2,p2,_⟩:=I.list hb
  have:=SeqAt.RcAt.lists (A:=A) (e:=e) p1.isList p2.isList (by simp [← r1.length, ← r2.length,hl]) (by omega) fun j h1 h2 => by
   have l1:j < xs.length:=by rw [r1.length]; simpa using h1
   have l2:j < ys.length:=by rw [r2.length]; simpa using h2
   obtain ⟨u1,q1,s1⟩:=r1.get (List.getElem?_eq_getElem l1)
   obtain ⟨u2,q2,s2⟩:=r2.get (List.getElem?_eq_getElem l2)
   have e1:its.toArray[j] = u1:=by
    have:=List.getElem?_eq_some_iff.mp q1
    obtain ⟨_,z⟩:=this
    simpa using z
   have e2:its2.toArray[j] = u2:=by
    have:=List.getElem?_eq_some_iff.mp q2
    obtain ⟨_,z⟩:=this
    simpa using z
   rw [e1,e2]
   exact ih j _ _ (List.getElem?_eq_getElem l1) (List.getElem?_eq_getElem l2) (by rw [jf]; omega) s1 s2
  rw [List.size_toArray, ← r1.length] at this
  exact .of_refs ne this
 | @lstN n a b xs ys ne ha hb hl =>
  intro A u v hu rx ry
  obtain rfl:u = Value.ref a:=rx
  obtain rfl:v = Value.ref b:=ry
  obtain ⟨its,r1,p1,_⟩:=I.list ha
  obtain ⟨its2,r2,p2,_⟩:=I.list hb
  exact .of_refs ne (SeqAt.RcAt.lists_lengths p1.isList p2.isList (by simp [← r1.length, ← r2.length,hl]) (by omega))
end L2
namespace PySem.SeqAt
open AutoSeq1 (wpAny_loadPart')
open MeetsSeq MeetsSeq2 MeetsSeq3 SeqRoads2
theorem kI (l:Addr) (items:Array Value) (n:Nat) (x:Value) (e:Nat→Bool) (j:Nat) (hj:j < items.size) (hit:e j = true) (k:Nat) (hs1:items.size≤sizeLine) :
  ∀ i:Nat,j - i = k→i≤j→(∀ m (hm:m < items.size),i≤m→m < j→e m = false)→Meets (Builtin.«list.remove.loop» ⟨[.ref l,x,rawInt i], []⟩)
   (fun A R s => s.heap.get? l = some { cls:=.type "list", dict:=none,data:=.seq items n,slots:=#[] }∧(∀ m (hm:m < items.size),m≤j→EqAt A.in1 s items[m] x (e m))∧R (.ok (.ret .none)) { s with heap:=s.heap.update l (Obj.mapSeq fun xs => xs.eraseIdxIfInBounds j) }):=by
 induction k with
 | zero =>
  intro i hk hij hno prog w A R s h
  obtain ⟨hp,g,d,tk,os⟩:=s; obtain ⟨hl,he,h⟩:=h
  have hij':i = j:=by omega
  subst hij'
  wp_walk using wpAny_loadPart' hl
  have hi:items[((i:Nat):Int).toNat]? = some items[i]:=by simp [hj]
  rw [hi]
  refine wpAny_bind (he _ hj (Nat.le_refl _) prog w _ _ ?_)
  rw [hit]
  have hz':(items.eraseIdxIfInBounds i).size≤sizeLine + 1:=Nat.le_trans (size_erased items _) (Nat.le_succ_of_le hs1)
  wp_walk using (wpAny_updateSeq hl rfl (hz:=hs1) (_hz':=hz')),wpAny_loadPart' hl
  simpa using h
 | succ k ih =>
  intro i hk hij hno prog w A R s h
  obtain ⟨hp,g,d,tk,os⟩:=s; obtain ⟨hl,he,h⟩:=h
  have hlt:i < items.size:=by omega
  wp_walk using wpAny_loadPart' hl
  have hi:items[((i:Nat):Int).toNat]? = some items[i]:=by simp [hlt]
  have hc:((i:Int) + 1) = ((i + 1:Nat):Int):=by push_cast; rfl
  rw [hi]
  refine wpAny_bind (he _ hlt (by omega) prog w _ _ ?_)
  rw [hno i hlt (Nat.le_refl _) (by omega)]
  wp_walk
  rw [hc]
  exact ⟨plainId_quiet plain_remove_loop _,codeAny_builtin entry_remove_loop (by
   rw [Around.under_plainId plain_remove_loop _]
   exact ih (i + 1) (by omega) (by omega) (fun m hm h1 h2 => hno m hm (by omega) h2) prog w A R _ ⟨hl,he,h⟩)⟩
theorem list_removeAt (l:Addr) (items:Array Value) (n:Nat) (x:Value) (e:Nat→Bool) (j:Nat) (hj:j < items.size)
  (hit:e j = true) (hno:∀ m (hm:m < items.size),m < j→e m = false) (hs1:items.size≤sizeLine:=by size_fits) :
  Meets (Builtin.«list.remove» ⟨[.ref l,x], []⟩)
   (fun A R s => s.heap.get? l = some { cls:=.type "list", dict:=none,data:=.seq items n,slots:=#[] }∧(∀ m (hm:m < items.size),m≤j→EqAt A.in1 s items[m] x (e m))∧R (.ok (.ret .none)) { s with heap:=s.heap.update l (Obj.mapSeq fun xs => xs.eraseIdxIfInBounds j) }):=by
 intro prog w A R s h
 obtain ⟨hp,g,d,tk,os⟩:=s; obtain ⟨hl,he,h⟩:=h
 wp_walk using wpAny_loadPart' hl
 exact ⟨plainId_quiet plain_remove_loop _,codeAny_builtin entry_remove_loop (by
  rw [Around.under_plainId plain_remove_loop _]
  exact kI l items n x e j hj hit _ hs1 0 rfl (Nat.zero_le _) (fun m hm _ h2 => hno m hm h2) prog w A R _ ⟨hl,he,h⟩)⟩
end PySem.SeqAt
namespace L2
open PySem PySem.Spec PyProof.Rows
def VJ (K:PySem.W.Frag):V→List V→Hp→VK→Prop:=fun x vs H Q => ∃ l xs y j,∃ e:Nat→Bool,x = .ref l∧vs = [y]∧H l = some (.lst xs)∧j < xs.length∧e j = true∧(∀ m,m < j→e m = false)∧(∀ (m:Nat) z,m≤j→xs[m]? = some z→DE K H 20 z y (e m))∧Q .non (upd H l (.lst (xs.eraseIdx j)))
theorem Km {X:Cx} (hu:X.A.units + 64 < cLine):MtM X "list.remove" (VJ X.K):=by
 intro pins s σ H x vs v us Q I rx rv h
 obtain ⟨l,xs,y,j,e,rfl,rfl,hH,hj,hit,hno,he,q⟩:=h
 cases rx
 obtain ⟨u,rfl,ru⟩:=rv.one
 obtain ⟨z,its,n,r,hl,eo⟩:=I.lstM hH
 refine call_meets F.slot_list_remove ⟨_,eo,rfl⟩ F.entry_list_remove (F.args_list_remove_2 _ _) (SeqAt.list_removeAt l its.toArray n u e j (by simp; omega) hit (fun m _ hm => hno m hm) (by rw [List.size_toArray]; omega)) ⟨eo,fun m hm hmj => ?_, ?_⟩
 ·have l1:m < xs.length:=by rw [hl]; simpa using hm
  obtain ⟨u1,q1,s1⟩:=r.get (List.getElem?_eq_getElem l1)
  have e1:its.toArray[m] = u1:=by
   have:=List.getElem?_eq_some_iff.mp q1
   obtain ⟨_,z⟩:=this
   simpa using z
  rw [e1]
  exact (he m _ hmj (List.getElem?_eq_getElem l1)).eqAt I (by rw [jf]; omega) s1 ru
 ·refine ⟨.non,_,I.lset (its':=its.eraseIdx j) hH eo (by simp) (r.eraseIdx j) (Nat.le_trans (Q4 _ _) z),rfl,q⟩
structure Nms (mg:Str→Option Value):Prop where
 abs:mg "abs" = none
 len:mg "len" = none
 min:mg "min" = none
 max:mg "max" = none
 sum:mg "sum" = none
 sorted:mg "sorted" = none
 all:mg "all" = none
 any:mg "any" = none
 isinstance:mg "isinstance" = none
 range:mg "range" = none
 int:mg "int" = none
 list:mg "list" = none
 str:mg "str" = none
 bool:mg "bool" = none
 tuple:mg "tuple" = none
 zip:mg "zip" = none
 enumerate:mg "enumerate" = none
 dict:mg "dict" = none
theorem b_abs:bootBuiltins "abs" = some (.builtin "abs"):=by decide +kernel
theorem Yx:bootBuiltins "len" = some (.builtin "len"):=by decide +kernel
theorem b_min:bootBuiltins "min" = some (.builtin "min"):=by decide +kernel
theorem b_max:bootBuiltins "max" = some (.builtin "max"):=by decide +kernel
theorem vd:bootBuiltins "isinstance" = some (.builtin "isinstance"):=by decide +kernel
theorem XY:bootBuiltins "int" = some (.type "int"):=by decide +kernel
theorem Yw:bootBuiltins "list" = some (.type "list"):=by decide +kernel
theorem b_str:bootBuiltins "str" = some (.type "str"):=by decide +kernel
theorem Zf:bootBuiltins "tuple" = some (.type "tuple"):=by decide +kernel
def SameB (b:Addr) (H H':Hp):Prop:=∀ x o,H x = some o→x≠b→H' x = some o
theorem SameB.trans {b:Addr} {H H1 H2:Hp} (h:SameB b H H1) (k:SameB b H1 H2):SameB b H H2:=fun x o e n => k x o (h x o e n) n
theorem SameB.upd {b p:Addr} {H H1:Hp} {o:HO} (s:SameB b H H1) (h:H p = none∨p = b):SameB b H (upd H1 p o):=fun x o' e n => by
 have:x≠p:=by
  rcases h with h | h
  ·exact qO e h
  ·rw [h]; exact n
 rw [upd_ne this]; exact s x o' e n
def rLenL:List V→Hp→VK→Prop:=fun vs H Q => ∃ p ys,vs = [.ref p]∧H p = some (.lst ys)∧Q (.int ys.length) H
theorem jk {X:Cx}:xV X (.builtin "len") rLenL:=by
 intro pins s σ H xs us Q I r h
 obtain ⟨p,ys,e,h,q⟩:=h
 exact jC pins s σ H xs us Q I r ⟨p,ys,e, .inl (SqL.of h),q⟩
section
variable {K:PySem.W.Frag} {H:Hp} {Q:VK} {p:Addr} {xs:List V} {v:V} {i:Int}
theorem qS (h:H p = some (.lst xs)) (e:atI xs i = some v) (q:Q v H):rIxL K (.ref p) (.int i) H Q:=⟨p,xs,i,v,rfl,rfl,SqL.of h,e,q⟩
theorem zr (h:H p = some (.tup xs)) (e:atI xs i = some v) (q:Q v H):rIxT K (.ref p) (.int i) H Q:=⟨p,xs,i,v,rfl,rfl,SqT.of h,e,q⟩
theorem at0 {α:Type} {x:α} {l:List α}:atI (x :: l) 0 = some x:=xt (j:=0) rfl
theorem at1 {α:Type} {x y:α} {l:List α}:atI (x :: y :: l) 1 = some y:=xt (j:=1) rfl
theorem vI {j:Nat} {R:Hp→Prop} (h:H p = some (.lst xs)) (e:ixN xs.length i = some j) (q:R (upd H p (.lst (xs.set j v)))):rSetL (.ref p) (.int i) v H R:=⟨p,xs,i,j,rfl,rfl,h,e,q⟩
theorem xT {x y:V} (h:scal x y = true) (q:Q (.bl (decide (x = y))) H):rEq x y H Q:=⟨h,q⟩
theorem xN {x y:V} (h:scal x y = true) (q:Q (.bl (!decide (x = y))) H):rNe x y H Q:=⟨h,q⟩
theorem zq (h:H p = some (.lst xs)) (q:Q (.int xs.length) H):rLenL [.ref p] H Q:=⟨p,xs,rfl,h,q⟩
theorem vf {σ:St} {x y:V} {i j:Nat} {R:St→Hp→Prop} (h:H p = some (.tup [x,y])) (q:R ((σ.set i (some x)).set j (some y)) H):gTup K 2 (vq (qE i) (vq (qE j) gNil)) (.ref p) σ H R :=
 ⟨p,_,rfl,SqT.of h,rfl,_,_,rfl,_,_,rfl,rfl,q⟩
theorem vc {σ:St} {x y z:V} {i j k:Nat} {R:St→Hp→Prop} (h:H p = some (.tup [x,y,z])) (q:R (((σ.set i (some x)).set j (some y)).set k (some z)) H):gTup K 3 (vq (qE i) (vq (qE j) (vq (qE k) gNil))) (.ref p) σ H R :=
 ⟨p,_,rfl,SqT.of h,rfl,_,_,rfl,_,_,rfl,_,_,rfl,rfl,q⟩
theorem qG {i j:Int}:(V.int i = V.int j) = (i = j):=propext ⟨fun h => by cases h; rfl,fun h => by rw [h]⟩
theorem qF {i j:Str}:(V.str i = V.str j) = (i = j):=propext ⟨fun h => by cases h; rfl,fun h => by rw [h]⟩
end
section
variable {X:Cx} {i j k:Nat} {x y z:Str} {px py pz pos:Pos} {kk:Nat}
theorem pg_t2 (hN:X.N.Nodup) (hc:X.calm = true) (hi:X.N[i]? = some x) (hj:X.N[j]? = some y) (lx:Loc X.env.scope x) (ly:Loc X.env.scope y)
  (fx:X.fn x = true∨X.env.scope.names.lookup x = some .local) (fy:X.fn y = true∨X.env.scope.names.lookup y = some .local) :
  PG X (.Tuple [.Name x px, .Name y py] kk pos) (gTup X.K 2 (vq (qE i) (vq (qE j) gNil))):=pg_tup hc (jb (jt hN hi lx fx) (jb (jt hN hj ly fy) JY))
theorem pg_t3 (hN:X.N.Nodup) (hc:X.calm = true) (hi:X.N[i]? = some x) (hj:X.N[j]? = some y) (hk:X.N[k]? = some z) (lx:Loc X.env.scope x) (ly:Loc X.env.scope y) (lz:Loc X.env.scope z)
  (fx:X.fn x = true∨X.env.scope.names.lookup x = some .local) (fy:X.fn y = true∨X.env.scope.names.lookup y = some .local) (fz:X.fn z = true∨X.env.scope.names.lookup z = some .local) :
  PG X (.Tuple [.Name x px, .Name y py, .Name z pz] kk pos) (gTup X.K 3 (vq (qE i) (vq (qE j) (vq (qE k) gNil)))):=pg_tup hc (jb (jt hN hi lx fx) (jb (jt hN hj ly fy) (jb (jt hN hk lz fz) JY)))
end
section
variable {X:Cx} {K:PySem.W.Frag}
theorem qm (h:X.K = K):IxR X (rIxL K):=h ▸ ix_list
theorem qL (h:X.K = K):IxR X (rIxT K):=h ▸ ix_tup
theorem pi_listK {tg l:Expr} {tl:TE} (h:X.K = K) (hl:PE X l tl):PI X tg l (XQ K tl):=h ▸ pi_list hl
theorem zA (h:X.K = K):SlR X (rSlL K):=h ▸ sl_list
theorem vS (h:X.K = K):xV X (.builtin "isinstance") (rIsi K):=h ▸ call_isi
theorem XE (h:X.K = K) (hu:X.A.units + 64 < cLine):MtM X "list.remove" (VJ K):=h ▸ Km hu
def tTru (K:PySem.W.Frag) (ta:TE):TT:=fun σ H Q => ta σ H fun x H' => ∃ k,TruV K x H' k∧Q k H'
theorem JU {a:Expr} {ta:TE} (h:X.K = K) (ha:PE X a ta) (he:∀ whole,isTrue a X.env whole = (do let v ← whole; standAt a.pos; holding [v] (truthy v))):PT X a (tTru K ta):=h ▸ pt_truth ha he
theorem pg_t2K {i j:Nat} {x y:Str} {px py pos:Pos} {kk:Nat} (h:X.K = K) (hN:X.N.Nodup) (hc:X.calm = true) (hi:X.N[i]? = some x) (hj:X.N[j]? = some y) (lx:Loc X.env.scope x) (ly:Loc X.env.scope y)
  (fx:X.fn x = true∨X.env.scope.names.lookup x = some .local) (fy:X.fn y = true∨X.env.scope.names.lookup y = some .local) :
  PG X (.Tuple [.Name x px, .Name y py] kk pos) (gTup K 2 (vq (qE i) (vq (qE j) gNil))):=h ▸ pg_t2 hN hc hi hj lx ly fx fy
theorem pg_t3K {i j k:Nat} {x y z:Str} {px py pz pos:Pos} {kk:Nat} (h:X.K = K) (hN:X.N.Nodup) (hc:X.calm = true) (hi:X.N[i]? = some x) (hj:X.N[j]? = some y) (hk:X.N[k]? = some z) (lx:Loc X.env.scope x) (ly:Loc X.env.scope y) (lz:Loc X.env.scope z)
  (fx:X.fn x = true∨X.env.scope.names.lookup x = some .local) (fy:X.fn y = true∨X.env.scope.names.lookup y = some .local) (fz:X.fn z = true∨X.env.scope.names.lookup z = some .local) :
  PG X (.Tuple [.Name x px, .Name y py, .Name z pz] kk pos) (gTup K 3 (vq (qE i) (vq (qE j) (vq (qE k) gNil)))):=h ▸ pg_t3 hN hc hi hj hk lx ly lz fx fy fz
def LmStep (x:V) (H:Hp) (k:Prop):Prop:=∃ p xs,x = .ref p∧H p = some (.lst xs)∧k
theorem xP {p:Addr} {xs:List V} {H:Hp} {k:Prop} (h:H p = some (.lst xs)) (q:k):LmStep (.ref p) H k:=⟨p,xs,rfl,h,q⟩
def tLM (r:V→List V→Hp→VK→Prop) (to:TE) (t:TA):TE:=fun σ H Q => to σ H fun x H1 => LmStep x H1 (t σ H1 fun vs H2 => r x vs H2 Q)
theorem pe_lm {o e:Expr} {es:List Expr} {to:TE} {t:TA} {name:Str} {apos cpos:Pos} {id:String} {r:V→List V→Hp→VK→Prop} (slot:Slot "list" name id) (hty:typeOf (.builtin id) = pure (.type "method_descriptor")) (hm:MtR X id r) (ho:PE X o to) (ha:PA X (e :: es) t)
  (hbase:attributeBase o name X.env (eval o X.env) = eval o X.env:=by rfl)
  (hfew:((backTo cpos (starEach (e :: es) X.env)).all (fun x => !x.1) && (backToKw cpos (keywordEach [] X.env)).all (fun x => x.1.isSome)
   && decide ((e :: es).length + ([]:List Keyword).length + (if ([]:List Keyword).isEmpty then 0 else 1) < 30)) = true:=by rfl)
  (hline:(apos.endLine == cpos.line) = true:=by rfl) (hs:starEach (e :: es) X.env = (false,eval e X.env) :: starEach es X.env:=by rfl) (hplain:(backTo cpos (starEach es X.env)).any (·.1) = false:=by rfl) :
  PE X (.Call (.Attribute o name apos) (e :: es) [] cpos) (tLM r to t):=by
 intro pins s σ H Q I h
 refine wpAny_Call_method_late hbase hfew hline rfl (thn (ho pins s σ H _ I h) fun v s1 ⟨x,H1,I1,r1,p,xs,ex,hp,q1⟩ => ?_)
 subst ex
 obtain ⟨h1,h2⟩:=tyV_is (T := "list") I1 r1 (.inl ⟨rfl,xs,SqL.of hp⟩)
 refine ⟨"list", id,PySem.F.plainAttrs_list,slot,hty,h1,h2, ?_⟩
 have hA:=ha cpos pins s1 σ H1 _ I1 q1
 rw [hs] at hA ⊢
 refine Calls.callWith_builtin (by show (false || (backTo cpos (starEach es X.env)).any (·.1)) = false; rw [hplain] <;> rfl) (Calls.evalArgs_plain ?_)
 exact thn hA fun us s2 ⟨vs,H2,I2,r2,q2⟩ => hm pins s2 σ H2 (.ref p) vs v us Q I2 r1 r2 q2
end
def ForW (J:It) (g:TG) (tb:TS) (D:Ends) (σ:St) (H1:Hp):Prop:=∃ W:Nat→Nat→St→Hp→Prop,(∃ m,W 0 m σ H1)∧∀ i m σ H,W i m σ H →
 (J.stop i H∧D.nx σ H)∨(J.go i H∧∃ N:St→Hp→Prop,(∀ σ' H',N σ' H'→∃ m',m' < m∧W (i + 1) m' σ' H')∧∀ x H',J.yld i H x H'→g x σ H' fun σ2 H2 => tb { D with nx:=N,ct:=N,bk:=D.nx } σ2 H2)
theorem vT {wi:TI} {g:TG} {tb:TS} {D:Ends} {σ:St} {H:Hp}:tFor wi g tb D σ H = wi σ H fun J H1 => ForW J g tb D σ H1:=rfl
def ItStep (K:PySem.W.Frag) (x:V) (H:Hp) (R:It→Hp→Prop):Prop:=∃ a,x = .ref a∧(∃ xs,SqL K H a xs)∧R (Itl K a) H
theorem qV {K:PySem.W.Frag} {tl:TE} {σ:St} {H:Hp} {R:It→Hp→Prop}:XQ K tl σ H R = tl σ H fun x H1 => ItStep K x H1 R:=rfl
theorem xR {K:PySem.W.Frag} {p:Addr} {xs:List V} {H:Hp} {R:It→Hp→Prop} (h:H p = some (.lst xs)) (q:R (Itl K p) H):ItStep K (.ref p) H R:=⟨p,rfl,⟨xs,SqL.of h⟩,q⟩
def RgStep (vs:List V) (H:Hp) (R:It→Hp→Prop):Prop:=∃ j:Int,vs = [.int j] ∧ -(2 ^ 62)≤j∧j < 2 ^ 62∧R (Itr 0 j.toNat) H
theorem qU {ta:TA} {σ:St} {H:Hp} {R:It→Hp→Prop}:KM ta σ H R = ta σ H fun vs H1 => RgStep vs H1 R:=rfl
theorem xa {k:Int} {R:Int→Prop}:(∃ i,V.int k = .int i∧R i) = R k:=propext ⟨fun ⟨_,e,h⟩ => by cases e; exact h,fun h => ⟨k,rfl,h⟩⟩
def rEqT (K:PySem.W.Frag):R2:=fun x y H Q => ∃ a b xs ys e,x = .ref a∧y = .ref b∧SqT K H a xs∧SqT K H b ys∧(∀ (j:Nat) x y,xs[j]? = some x→ys[j]? = some y→DE K H 20 x y (e j))∧Q (.bl ((List.range (min xs.length ys.length)).all e && xs.length == ys.length)) H
theorem op_eqTK {X:Cx} {K:PySem.W.Frag} (hK:X.K = K) (hu:X.A.units + 64 < cLine):OpR X (compareOp .Eq) (rEqT K):=by
 subst hK
 intro pins s σ H x y v u Q I rx ry h
 obtain ⟨a,b,xs,ys,e,rfl,rfl,ha,hb,he,q⟩:=h
 obtain rfl:v = Value.ref a:=rx
 obtain rfl:u = Value.ref b:=ry
 obtain ⟨its,r1,p1,_⟩:=I.tuple ha
 obtain ⟨its2,r2,p2,_⟩:=I.tuple hb
 refine SeqAt.eq_tupleAt (A:=X.A) (e:=e) p1 p2 (by omega) (fun j h1 h2 => ?_) ⟨.bl _,H,I,rfl, ?_⟩
 ·have l1:j < xs.length:=by rw [r1.length]; simpa using h1
  have l2:j < ys.length:=by rw [r2.length]; simpa using h2
  obtain ⟨u1,q1,s1⟩:=r1.get (List.getElem?_eq_getElem l1)
  obtain ⟨u2,q2,s2⟩:=r2.get (List.getElem?_eq_getElem l2)
  have e1:its.toArray[j] = u1:=by
   obtain ⟨_,z⟩:=List.getElem?_eq_some_iff.mp q1
   simpa using z
  have e2:its2.toArray[j] = u2:=by
   obtain ⟨_,z⟩:=List.getElem?_eq_some_iff.mp q2
   simpa using z
  rw [e1,e2]
  exact (he j _ _ (List.getElem?_eq_getElem l1) (List.getElem?_eq_getElem l2)).eqAt I (by rw [jf]; omega) s1 s2
 ·rw [List.size_toArray,List.size_toArray, ← r1.length, ← r2.length]
  exact q
def K4:V→Bool
 | .int _ => true
 | .str _ => true
 | _ => false
def rEqFT (K:PySem.W.Frag):R2:=fun x y H Q => ∃ a xs,K4 x = true∧y = .ref a∧SqT K H a xs∧Q (.bl false) H
def rEqTF (K:PySem.W.Frag):R2:=fun x y H Q => ∃ a xs,K4 y = true∧x = .ref a∧SqT K H a xs∧Q (.bl false) H
theorem op_eqFTK {X:Cx} {K:PySem.W.Frag} (hK:X.K = K) (hu:X.A.units + 64 < cLine):OpR X (compareOp .Eq) (rEqFT K):=by
 subst hK
 intro pins s σ H x y v u Q I rx ry h
 obtain ⟨a,xs,hf,rfl,ha,q⟩:=h
 obtain rfl:u = Value.ref a:=ry
 obtain ⟨its,r1,p1,_⟩:=I.tuple ha
 cases x with
 | int i =>
  obtain ⟨t,rfl⟩:=rx
  exact SeqAt.RcAt.int_tuple i t p1 (by omega) _ _ _ _ ⟨.bl false,H,I,rfl,q⟩
 | str i =>
  obtain ⟨t,rfl⟩:=rx
  exact SeqAt.RcAt.str_tuple i t p1 (by omega) _ _ _ _ ⟨.bl false,H,I,rfl,q⟩
 | _ => exact absurd (show false = true from hf) Bool.false_ne_true
theorem op_eqTFK {X:Cx} {K:PySem.W.Frag} (hK:X.K = K) (hu:X.A.units + 64 < cLine):OpR X (compareOp .Eq) (rEqTF K):=by
 subst hK
 intro pins s σ H x y v u Q I rx ry h
 obtain ⟨a,xs,hf,rfl,ha,q⟩:=h
 obtain rfl:v = Value.ref a:=rx
 obtain ⟨its,r1,p1,_⟩:=I.tuple ha
 cases y with
 | int i =>
  obtain ⟨t,rfl⟩:=ry
  exact SeqAt.RcAt.tuple_int i t p1 (by omega) _ _ _ _ ⟨.bl false,H,I,rfl,q⟩
 | str i =>
  obtain ⟨t,rfl⟩:=ry
  exact SeqAt.RcAt.tuple_str i t p1 (by omega) _ _ _ _ ⟨.bl false,H,I,rfl,q⟩
 | _ => exact absurd (show false = true from hf) Bool.false_ne_true
theorem op_eqW {X:Cx} {K:PySem.W.Frag} (hK:X.K = K) (hu:X.A.units + 64 < cLine):OpR X (compareOp .Eq) (fun x y H Q => rEq x y H Q∨rEqT K x y H Q∨rEqFT K x y H Q∨rEqTF K x y H Q) :=
 op_eq.or ((op_eqTK hK hu).or ((op_eqFTK hK hu).or (op_eqTFK hK hu)))
structure MDef (P:Program) (w:World) (K:PySem.W.Frag) (mg:Str→Option Value) (base:Heap) (C:Addr) (m:Str) (k:Nat) (ps:List Str) (sp:Sp):Prop where
 ex:∃ (f:Addr) (fd:FuncData),Meth K C m f∧Binds K fd ps []∧FnOk P w K mg base CX0 k f fd ps sp
theorem pe_mdef {X:Cx} {pl:Sem Bool} {C:Addr} {m:Str} {k:Nat} {ps:List Str} {sp:Sp} {o e:Expr} {es:List Expr} {ta:TE} {t:TA} {apos pos:Pos} (D:MDef X.prog X.w X.K X.mg X.base C m k ps sp) (c:Cls X.K C) (he:PE X o ta) (hr:Room k X.A) (ha:PA X (e :: es) t)
  (hst:starEach (e :: es) X.env = (false,eval e X.env) :: starEach es X.env:=by rfl) (hpl:(backTo pos (starEach es X.env)).any (·.1) = false:=by rfl)
  (ht:eval (.Call (.Attribute o m apos) (e :: es) [] pos) X.env = (do
   let ov ← eval o X.env
   standAt apos.atName
   let (f,first) ← holding [ov] (getMethod ov m pl)
   callWith pos f first (backTo pos (starEach (e :: es) X.env)) (backToKw pos (keywordEach [] X.env))):=by rfl):PE X (.Call (.Attribute o m apos) (e :: es) [] pos) (Vx C m sp [] E0 ta t):=by
 obtain ⟨f,fd,h1,h2,h3⟩:=D.ex
 exact pe_meth he c h1 h3 hr h2 .nil pass0 ha hst hpl ht
end L2
namespace PySem.SeqAt
open AutoSeq1 (wpAny_loadPart')
open MeetsSeq MeetsSeq2 MeetsSeq3 SeqRoads2
theorem tuple_index3 (l:Addr) (its:Array Value) (n:Nat) (dd:Option Addr) (sl:Array (Option Value)) (a b c x:Value) (e:Nat→Bool) (hi:its = #[a,b,c]) (j:Nat) (hj:j < 3) (hit:e j = true) (hno:∀ m,m < j→e m = false) :
  Meets (Builtin.«tuple.index» ⟨[.ref l,x], []⟩)
   (fun A R s => s.heap.get? l = some { cls:=.type "tuple", dict:=dd,data:=.seq its n,slots:=sl }∧EqAt A.in1 s a x (e 0)∧EqAt A.in1 s b x (e 1)∧EqAt A.in1 s c x (e 2)∧R (.ok (.ret (.int j s.toks))) { s with toks:=s.toks + 1 }):=by
 intro prog w A R s h
 obtain ⟨hp,g,d,tk,os⟩:=s; obtain ⟨hl,h0,h1,h2,h⟩:=h
 subst hi
 unfold Builtin.«tuple.index»
 simp only [Std.Legacy.Range.forIn_eq_forIn_range']
 wp_walk using wpAny_loadPart' hl
 simp only [List.size_toArray,List.length_cons,List.length_nil,Std.Legacy.Range.size,Nat.min_self,show List.range' 0 ((0 + 1 + 1 + 1 - 0 + 1 - 1) / 1) 1 = [0,1,2] from rfl,List.forIn_cons,List.forIn_nil]
 simp only [List.forIn'.loop]
 rcases (show j = 0∨j = 1∨j = 2 by omega) with rfl | rfl | rfl
 ·rw [hit] at h0
  refine wpAny_bind (wpAny_bind (h0 prog w _ _ ?_))
  wp_walk
  exact h
 ·rw [hno 0 (by omega)] at h0
  rw [hit] at h1
  refine wpAny_bind (wpAny_bind (h0 prog w _ _ ?_))
  simp only [Bool.false_eq_true,if_false]
  refine wpAny_pure ?_
  refine wpAny_bind (wpAny_bind (h1 prog w _ _ ?_))
  wp_walk
  exact h
 ·rw [hno 0 (by omega)] at h0
  rw [hno 1 (by omega)] at h1
  rw [hit] at h2
  refine wpAny_bind (wpAny_bind (h0 prog w _ _ ?_))
  simp only [Bool.false_eq_true,if_false]
  refine wpAny_pure ?_
  refine wpAny_bind (wpAny_bind (h1 prog w _ _ ?_))
  simp only [Bool.false_eq_true,if_false]
  refine wpAny_pure ?_
  refine wpAny_bind (wpAny_bind (h2 prog w _ _ ?_))
  wp_walk
  exact h
end PySem.SeqAt
namespace L2
open PySem PySem.Spec PyProof.Rows
theorem K6 (a b:Str):eqV (.str a) (.str b) = decide (a = b):=by
 by_cases h:a = b <;> simp [eqV,h]
structure Tup3 (K:PySem.W.Frag) (mg:Str→Option Value) (nm:Str) (p:Addr) (x y z:Str):Prop where
 mg:mg nm = some (.ref p)
 lk:∃ (a b c:Tok) (n:Nat) (sl:Array (Option Value)),K.lookup p = some ⟨.type "tuple", none, .seq #[.str x a, .str y b, .str z c] n,sl⟩
theorem Tup3.sq {K:PySem.W.Frag} {mg:Str→Option Value} {nm:Str} {p:Addr} {x y z:Str} (T:Tup3 K mg nm p x y z) (H:Hp):SqT K H p [.str x, .str y, .str z]:=by
 obtain ⟨a,b,c,n,sl,e⟩:=T.lk
 exact .inr ⟨_,_,n,e,rfl,rfl,(by decide:3≤sizeLine), .cons ⟨a,rfl⟩ (.cons ⟨b,rfl⟩ (.cons ⟨c,rfl⟩ .nil))⟩
theorem Tup3.ty {K:PySem.W.Frag} {mg:Str→Option Value} {nm:Str} {p:Addr} {x y z:Str} (T:Tup3 K mg nm p x y z) (H:Hp):tyV K "tuple" (.ref p) H:=by
 obtain ⟨a,b,c,n,sl,e⟩:=T.lk
 exact .inr (.inl ⟨rfl,_,e,rfl,rfl⟩)
def rIdxT (p:Addr) (x y z:Str):V→List V→Hp→VK→Prop:=fun v vs H Q => ∃ (t:Str) (j:Nat),v = .ref p∧vs = [.str t]∧[x,y,z][j]? = some t∧(∀ m,m < j→[x,y,z][m]? ≠ some t)∧Q (.int j) H
theorem Kn {X:Cx} {K:PySem.W.Frag} {mg:Str→Option Value} {nm:Str} {p:Addr} {x y z:Str} (hK:X.K = K) (T:Tup3 K mg nm p x y z):MtR X "tuple.index" (rIdxT p x y z):=by
 subst hK
 intro pins s σ H v vs w us Q I rx rv h
 obtain ⟨t,j,rfl,rfl,hj,hno,q⟩:=h
 cases rx
 obtain ⟨u,rfl,ru⟩:=rv.one
 obtain ⟨tk,rfl⟩:=ru
 obtain ⟨a,b,c,n,sl,e⟩:=T.lk
 have eo:=I.kIn p _ e
 have hj3:j < 3:=(List.getElem?_eq_some_iff.mp hj).1
 refine call_meets F.slot_tuple_index ⟨_,eo,rfl⟩ F.entry_tuple_index (F.args_tuple_index_2 _ _) (SeqAt.tuple_index3 p _ n none sl (.str x a) (.str y b) (.str z c) (.str t tk) (fun m => match m with | 0 => eqV (.str x) (.str t) | 1 => eqV (.str y) (.str t) | 2 => eqV (.str z) (.str t) | _ => false) rfl j hj3 ?_ ?_)
  ⟨eo,Z1 (y:=.str x) (x:=.str t) ⟨a,rfl⟩ ⟨tk,rfl⟩ rfl rfl,Z1 (y:=.str y) (x:=.str t) ⟨b,rfl⟩ ⟨tk,rfl⟩ rfl rfl,Z1 (y:=.str z) (x:=.str t) ⟨c,rfl⟩ ⟨tk,rfl⟩ rfl rfl,⟨.int j,H,I.tok _,⟨_,rfl⟩,q⟩⟩
 ·rcases (show j = 0∨j = 1∨j = 2 by omega) with rfl | rfl | rfl <;> (simp at hj; subst hj; simp [K6])
 ·intro m hm
  have:=hno m hm
  rcases (show m = 0∨m = 1∨m = 2 by omega) with rfl | rfl | rfl <;> (simp at this; simp [K6,this])
def rLenA (K:PySem.W.Frag):List V→Hp→VK→Prop:=fun xs H Q => ∃ p ys,xs = [.ref p]∧(SqL K H p ys∨SqT K H p ys)∧Q (.int ys.length) H
theorem XX {X:Cx} {K:PySem.W.Frag} (h:X.K = K):xV X (.builtin "len") (rLenA K):=h ▸ jC
structure GInt (mg:Str→Option Value) (nm:Str) (n:Int):Prop where
 ex:∃ t,mg nm = some (.int n t)
theorem pe_gint {X:Cx} {x:Str} {n:Int} {pos:Pos} (G:GInt X.mg x n) (hg:Gl X x) (hd:(x == ("__debug__" : Str)) = false:=by decide):PE X (.Name x pos) (tC (.int n)):=by
 obtain ⟨t,e⟩:=G.ex
 exact JZ hg e ⟨t,rfl⟩ hd
def Bt (n:Nat) (i:Int):Prop:=i.natAbs < 2 ^ n
theorem Bt.bits {n:Nat} {i:Int} (h:Bt n i):Builtin.Int.intBits i≤n:=intBits_le_iff.mpr h
theorem Bt.mono {n m:Nat} {i:Int} (h:Bt n i) (hm:n≤m):Bt m i:=Nat.lt_of_lt_of_le h (Nat.pow_le_pow_right (by decide) hm)
theorem Bt.neg {n:Nat} {i:Int} (h:Bt n i):Bt n (-i):=by unfold Bt; rw [Int.natAbs_neg]; exact h
theorem Bt.small {n:Nat} {i:Int} (h0 : -(2 ^ 62) < i) (h1:i < 2 ^ 62) (hn:62≤n):Bt n i:=by
 refine Bt.mono (n:=62) ?_ hn
 unfold Bt
 omega
theorem Bt.sign {n:Nat} {i s:Int} (h:Bt n i) (hs:s = 1∨s = -1):Bt n (s * i):=by
 rcases hs with rfl | rfl
 ·rw [Int.one_mul]; exact h
 ·rw [Int.neg_mul,Int.one_mul]; exact h.neg
def Itv (K:PySem.W.Frag) (a:Addr) (n:Nat):It :=
 ⟨fun i H => i < n∧∃ xs,SqL K H a xs∧xs.length = n,fun i H x H' => H' = H∧∀ xs,SqL K H a xs→xs[n - 1 - i]? = some x,fun i H => n = i⟩
def RvStep (K:PySem.W.Frag) (vs:List V) (H:Hp) (R:It→Hp→Prop):Prop:=∃ a xs,vs = [.ref a]∧SqL K H a xs∧R (Itv K a xs.length) H
def iRev (K:PySem.W.Frag) (ta:TA):TI:=fun σ H R => ta σ H fun vs H1 => RvStep K vs H1 R
theorem vn {K:PySem.W.Frag} {ta:TA} {σ:St} {H:Hp} {R:It→Hp→Prop}:iRev K ta σ H R = ta σ H fun vs H1 => RvStep K vs H1 R:=rfl
def Ite (K:PySem.W.Frag) (a:Addr):It :=
 ⟨fun i H => ∃ xs x,SqL K H a xs∧xs[i]? = some x,fun i H x H' => ∃ (p:Addr) (v:V),x = .ref p∧H p = none∧H' = upd H p (.tup [.int i,v])∧∀ xs,SqL K H a xs→xs[i]? = some v,fun i H => ∃ xs,SqL K H a xs∧xs.length≤i⟩
def EnStep (K:PySem.W.Frag) (vs:List V) (H:Hp) (R:It→Hp→Prop):Prop:=∃ a xs,vs = [.ref a]∧SqL K H a xs∧R (Ite K a) H
def iEnum (K:PySem.W.Frag) (ta:TA):TI:=fun σ H R => ta σ H fun vs H1 => EnStep K vs H1 R
theorem qW {K:PySem.W.Frag} {ta:TA} {σ:St} {H:Hp} {R:It→Hp→Prop}:iEnum K ta σ H R = ta σ H fun vs H1 => EnStep K vs H1 R:=rfl
def ixRev (n:Nat):List Nat:=sliceRange (sliceBounds none none (some (-1)) n).1 (sliceBounds none none (some (-1)) n).2.1 (sliceBounds none none (some (-1)) n).2.2
def pickV (xs:List V):List V:=(ixRev xs.length).filterMap fun i => xs[i]?
def RevStep (K:PySem.W.Frag) (x:V) (H:Hp) (Q:VK):Prop:=∃ a xs,x = .ref a∧SqL K H a xs∧∀ r,H r = none→Q (.ref r) (upd H r (.lst (pickV xs)))
def tRev (K:PySem.W.Frag) (te:TE):TE:=fun σ H Q => te σ H fun x H1 => RevStep K x H1 Q
def Kj:Expr→Bool
 | .Starred _ _ => false
 | _ => true
theorem Ja {e:Expr} {es:List Expr} {env:Env} (h:Kj e = true):starEach (e :: es) env = (false,eval e env) :: starEach es env:=by
 cases e <;> first | rfl | cases h
theorem pa_c {X:Cx} {e:Expr} {es:List Expr} {te:TE} {t:TA} (ha:PE X e te) (hr:PA X es t) (h:Kj e = true:=by rfl):PA X (e :: es) (vH te t):=pa_cons ha hr (Ja h)
structure QE (X:Cx) (e:Expr) (t:TE):Prop where
 h:PE X e t
structure QT (X:Cx) (e:Expr) (t:TT):Prop where
 h:PT X e t
structure QW (X:Cx) (e:Expr) (t:TT):Prop where
 h:PW X e t
structure QA (X:Cx) (e:List Expr) (t:TA):Prop where
 h:PA X e t
structure QS (X:Cx) (e:Stmt) (t:TS):Prop where
 h:PS X e t
structure QSs (X:Cx) (e:List Stmt) (t:TS):Prop where
 h:PSs X e t
structure QG (X:Cx) (e:Expr) (t:TG):Prop where
 h:PG X e t
structure QTs (X:Cx) (e:List Expr) (t:TT):Prop where
 h:PTs X e t
structure QO (X:Cx) (e:Option Expr) (t:TO):Prop where
 h:PO X e t
structure QI (X:Cx) (tg e:Expr) (t:TI):Prop where
 h:PI X tg e t
structure QPs (X:Cx) (pos:Pos) (ks:List (Option Expr)) (vs:List Expr) (t:List (TE × TE)):Prop where
 h:PPs X pos ks vs t
section
variable {X:Cx}
theorem qR  : QSs X [] zn:=⟨pss_nil ⟩
end
section
variable {X:Cx} {st:Stmt} {t:TS}
theorem qk (h1:QS X st t):QSs X [st] t:=⟨pss_one h1.h⟩
end
section
variable {X:Cx} {st:Stmt} {rest:List Stmt} {t u:TS}
theorem qi (h1:QS X st t) (h2:QSs X rest u):QSs X (st :: rest) (tSeq t u):=⟨pss_cons h1.h h2.h⟩
end
section
variable {X:Cx} {elt tg iter:Expr} {ifs:List Expr} {scope:Scope} {bs:List Bool} {ext:List Str} {pos:Pos} {wi:TI} {g:TG} {tt:TT} {te:TE}
theorem qs_lc {i:Nat} {x:Str} {pos' spos:Pos} (bs:List Bool) (ext:List Str) (hN:X.N.Nodup) (hix:X.N[i]? = some x) (hx:X.env.scope.names.lookup x = some .local) (hi:QI X tg iter wi) (hg:∀ fp s H,QG (cxB X scope ext fp s H) tg g) (ht:∀ fp s H,QTs (cxB X scope ext fp s H) ifs tt) (he:∀ fp s H,QE (cxB X scope ext fp s H) elt te) (hk:jB scope X.env X.N bs = true:=by rfl) (hc:X.calm = true:=by rfl) (hsw:swapsWith (.ListComp elt [⟨tg,iter,ifs,0⟩] scope pos) (some (.Name x pos')) spos.line X.env = pure true:=by rfl) (hs:∀ x,foldedSetIterable iter X.env x = pure x:=by intro _; rfl):QS X (.Assign [.Name x pos'] (.ListComp elt [⟨tg,iter,ifs,0⟩] scope pos) spos) (tAsg (vV wi bs ext.length g tt te) (qE i)):=⟨ps_lc bs ext hN hix hx hi.h (fun fp s H => (hg fp s H).h) (fun fp s H => (ht fp s H).h) (fun fp s H => (he fp s H).h) hk hc hsw hs⟩
end
section
variable {X:Cx} {o value:Expr} {f:Str} {pos pos':Pos} {ta tv:TE}
theorem jQ (ha:QE X o ta) (hv:QE X value tv) (hs:swapsWith value (some (.Attribute o f pos')) pos.line X.env = pure false):QS X (.Assign [.Attribute o f pos'] value pos) (sFld X.K ta tv f):=⟨ps_fld ha.h hv.h hs⟩
end
section
variable {X:Cx} {pos:Pos}
theorem qH {i:Nat} {x:Str} {e:Expr} {te:TE} {pos':Pos} (hN:X.N.Nodup) (hi:X.N[i]? = some x) (hx:Loc X.env.scope x) (he:QE X e te) (hs:swapsWith e (some (.Name x pos')) pos.line X.env = pure false:=by rfl) (hf:X.fn x = true∨X.env.scope.names.lookup x = some .local:=by first | exact .inl rfl | exact .inr rfl | assumption):QS X (.Assign [.Name x pos'] e pos) (tAsg te (qE i)):=⟨ps_set hN hi hx he.h hs hf⟩
end
section
variable {X:Cx} {pos:Pos}
theorem zM {tg e:Expr} {te:TE} {g:TG} (he:QE X e te) (hg:QG X tg g) (hs:swapsWithSole [tg] e pos.line X.env = pure false:=by rfl) (hw:swappedStores [tg] e X.env = pure none:=by rfl) (h1:(assignEach [tg] X.env).map (·.2) = [assign tg X.env]:=by rfl):QS X (.Assign [tg] e pos) (tAsg te g):=⟨ps_asg he.h hg.h hs hw h1⟩
end
section
variable {X:Cx} {pos:Pos}
theorem qs_retN  : QS X (.Return none pos) zw:=⟨ps_retN ⟩
end
section
variable {X:Cx} {e:Expr} {te:TE} {pos:Pos}
theorem qx (he:QE X e te):QS X (.Return (some e) pos) (tRet te):=⟨ps_ret he.h⟩
end
section
variable {X:Cx} {t u:TS} {pos:Pos}
theorem v3 {c:Expr} {a b:List Stmt} {tc:TT} (hc:QT X c tc) (ha:QSs X a t) (hb:QSs X b u):QS X (.If c a b pos) (tIfS tc t u):=⟨ps_if hc.h ha.h hb.h⟩
end
section
variable {X:Cx} {tg:Expr}
theorem ZF {iter:Expr} {body:List Stmt} {wi:TI} {g:TG} {tb:TS} {pos:Pos} (hp:PassesOwn (model X.prog X.w) X.A X.env X.xe) (hc:X.calm = true) (hi:QI X tg iter wi) (hg:QG X tg g) (hb:QSs X body tb) (hs:∀ x,foldedSetIterable iter X.env x = pure x:=by intro _; rfl):QS X (.For tg iter body [] pos) (tFor wi g tb):=⟨ps_for hp hc hi.h hg.h hb.h hs⟩
end
section
variable {X:Cx} {pos:Pos}
theorem qs_while {c:Expr} {body:List Stmt} {tc:TT} {tb:TS} (hp:PassesOwn (model X.prog X.w) X.A X.env X.xe) (hc:QT X c tc) (hb:QSs X body tb):QS X (.While c body [] pos) (Zl tc tb):=⟨ps_while hp hc.h hb.h⟩
end
section
variable {X:Cx} {e:Expr} {te:TE} {pos:Pos}
theorem zo (he:QE X e te) (hs:swapsWith e none pos.line X.env = pure false:=by rfl):QS X (.Expr e pos) (zy te):=⟨ps_expr he.h hs⟩
end
section
variable {X:Cx} {tg:Expr}
theorem x3 {a:Expr} {ta:TA} {p pos:Pos} (hg:Gl X "range") (hm:X.mg "range" = none) (ha:QA X [a] ta) (hs:starEach [a] X.env = [(false,eval a X.env)]:=by rfl):QI X tg (.Call (.Name "range" p) [a] [] pos) (KM ta):=⟨JX hg hm ha.h hs⟩
end
section
variable {X:Cx} {K:PySem.W.Frag}
theorem vP {tg l:Expr} {tl:TE} (h:X.K = K) (hl:QE X l tl):QI X tg l (XQ K tl):=⟨pi_listK h hl.h⟩
end
section
variable {X:Cx} {pos:Pos}
theorem v5 {i:Nat} {x:Str} (hN:X.N.Nodup) (hi:X.N[i]? = some x) (hx:Loc X.env.scope x) (hf:X.fn x = true∨X.env.scope.names.lookup x = some .local:=by first | exact .inl rfl | exact .inr rfl | assumption):QG X (.Name x pos) (qE i):=⟨jt hN hi hx hf⟩
end
section
variable {X:Cx} {K:PySem.W.Frag}
theorem qg_t2K {i j:Nat} {x y:Str} {px py pos:Pos} {kk:Nat} (h:X.K = K) (hN:X.N.Nodup) (hc:X.calm = true) (hi:X.N[i]? = some x) (hj:X.N[j]? = some y) (lx:Loc X.env.scope x) (ly:Loc X.env.scope y) (fx:X.fn x = true∨X.env.scope.names.lookup x = some .local) (fy:X.fn y = true∨X.env.scope.names.lookup y = some .local):QG X (.Tuple [.Name x px, .Name y py] kk pos) (gTup K 2 (vq (qE i) (vq (qE j) gNil))):=⟨pg_t2K h hN hc hi hj lx ly fx fy⟩
end
section
variable {X:Cx} {K:PySem.W.Frag}
theorem qg_t3K {i j k:Nat} {x y z:Str} {px py pz pos:Pos} {kk:Nat} (h:X.K = K) (hN:X.N.Nodup) (hc:X.calm = true) (hi:X.N[i]? = some x) (hj:X.N[j]? = some y) (hk:X.N[k]? = some z) (lx:Loc X.env.scope x) (ly:Loc X.env.scope y) (lz:Loc X.env.scope z) (fx:X.fn x = true∨X.env.scope.names.lookup x = some .local) (fy:X.fn y = true∨X.env.scope.names.lookup y = some .local) (fz:X.fn z = true∨X.env.scope.names.lookup z = some .local):QG X (.Tuple [.Name x px, .Name y py, .Name z pz] kk pos) (gTup K 3 (vq (qE i) (vq (qE j) (vq (qE k) gNil)))):=⟨pg_t3K h hN hc hi hj hk lx ly lz fx fy fz⟩
end
section
variable {X:Cx} {pos:Pos}
theorem xk {o i:Expr} {to ti:TE} {t:TSet} (ho:QE X o to) (hi:QE X i ti) (hs:PSet X t) (ha:∀ v,assign (.Subscript o i pos) X.env v = (do
   let ov ← holding [v] (eval o X.env)
   let iv ← holding [v,ov] (eval i X.env)
   standAt pos
   holding [v,ov,iv] (setItem ov iv v)
   release [v,ov,iv] []):=by intro _; rfl):QG X (.Subscript o i pos) (gSub to ti t):=⟨pg_sub ho.h hi.h hs ha⟩
end
section
theorem jr {X:Cx}:QTs X [] tYes:=⟨pts_nil ⟩
end
section
theorem jP {X:Cx} {c:Expr} {t:TT} (h:QT X c t):QTs X [c] t:=⟨pts_one h.h⟩
end
section
theorem qa_c {X:Cx} {e:Expr} {es:List Expr} {te:TE} {t:TA} (ha:QE X e te) (hr:QA X es t) (h:Kj e = true:=by rfl):QA X (e :: es) (vH te t):=⟨pa_c ha.h hr.h h⟩
end
section
variable {X:Cx}
theorem qe  : QA X [] tNil:=⟨pa_nil ⟩
end
section
variable {X:Cx} {a b:Expr} {ta tb:TE} {pos:Pos}
theorem qJ {op:CmpOp} {r:R2} (ho:OpR X (compareOp op) r) (ha:QE X a ta) (hb:QE X b tb) (hm:behindInMarks op b = false):QT X (.Compare a [op] [b] pos) (zm (tOp r ta tb)):=⟨pt_cmpR ho ha.h hb.h hm⟩
end
section
theorem qw_pt {X:Cx} {e:Expr} {t:TT} (h:QW X e t):QT X e t:=⟨PW.pt h.h⟩
end
section
variable {X:Cx}
variable {a b:Expr} {pos:Pos}
variable {tA tB':TT} {rest:List Expr}
theorem qw_and (ha:QT X a tA) (hb:QW X (.BoolOp .And (b :: rest) pos) tB'):QW X (.BoolOp .And (a :: b :: rest) pos) (tAnd tA tB'):=⟨pw_and ha.h hb.h⟩
end
section
variable {X:Cx}
variable {a:Expr} {pos:Pos}
variable {tA:TT}
theorem JP (ha:QT X a tA):QW X (.BoolOp .And [a] pos) tA:=⟨pw_and1 ha.h⟩
end
section
variable {X:Cx}
variable {a:Expr} {pos:Pos}
variable {tA:TT}
theorem ki (ha:QT X a tA):QT X (.UnaryOp .Not a pos) (tNot tA):=⟨pt_not ha.h⟩
end
section
variable {X:Cx}
variable {pos:Pos}
theorem v9 {e:Expr} {t:TE} (h:QE X e t) (he:∀ whole,isTrue e X.env whole = (do let v ← whole; standAt e.pos; holding [v] (truthy v)):=by intro _; rfl):QT X e (tB t):=⟨pt_val h.h he⟩
end
section
variable {X:Cx} {K:PySem.W.Frag}
theorem JQ {a:Expr} {ta:TE} (h:X.K = K) (ha:QE X a ta) (he:∀ whole,isTrue a X.env whole = (do let v ← whole; standAt a.pos; holding [v] (truthy v))):QT X a (tTru K ta):=⟨JU h ha.h he⟩
end
section
variable {X:Cx}
theorem kj {j pos}:QE X (.Constant .none j pos) (tC .non):=⟨pe_non ⟩
end
section
variable {X:Cx}
theorem Xs {b j pos}:QE X (.Constant (.bool b) j pos) (tC (.bl b)):=⟨pe_bl ⟩
end
section
variable {X:Cx}
theorem qd {i j pos}:QE X (.Constant (.int i) j pos) (tC (.int i)):=⟨pe_int ⟩
end
section
variable {X:Cx}
theorem qy {x j pos}:QE X (.Constant (.str x) j pos) (tC (.str x)):=⟨pe_str ⟩
end
section
variable {X:Cx}
theorem qv (i:Nat) {x:Str} {pos:Pos} (hN:X.N[i]? = some x:=by rfl) (hv:Vis X.env.scope x:=by first | exact Or.inl rfl | exact Or.inr (Or.inl rfl) | exact Or.inr (Or.inr rfl)) (hd:(x == ("__debug__" : Str)) = false:=by decide) (hcd:(x == ("__classdict__" : Str)) = false:=by decide):QE X (.Name x pos) (tVar i):=⟨pv i hN hv hd hcd⟩
end
section
variable {X:Cx} {a:Expr} {ta:TE} {pos:Pos}
theorem qe_un {op:UnaryOp} {r:V→Hp→VK→Prop} (ho:UnR X (unaryOp op) r) (ha:QE X a ta):QE X (.UnaryOp op a pos) (tUn r ta):=⟨pe_un ho ha.h⟩
end
section
variable {X:Cx} {a b:Expr} {ta tb:TE} {pos:Pos}
theorem qw {op:Operator} {r:R2} (ho:OpR X (binaryOp op) r) (ha:QE X a ta) (hb:QE X b tb):QE X (.BinOp a op b pos) (tOp r ta tb):=⟨pe_op ho ha.h hb.h⟩
end
section
variable {X:Cx} {a b:Expr} {ta tb:TE} {pos:Pos}
theorem xl {op:CmpOp} {r:R2} (ho:OpR X (compareOp op) r) (ha:QE X a ta) (hb:QE X b tb) (hm:behindInMarks op b = false):QE X (.Compare a [op] [b] pos) (tOp r ta tb):=⟨pe_cmpR ho ha.h hb.h hm⟩
end
section
variable {X:Cx} {a b c:Expr} {ta tb tc:TE} {pos:Pos}
theorem qe_chain {op op':CmpOp} {r r':R2} (ho:OpR X (compareOp op) r) (ho':OpR X (compareOp op') r') (ha:QE X a ta) (hb:QE X b tb) (hc:QE X c tc) (hm:lastMarks [op,op'] [b,c] = false:=by with_unfolding_all rfl):QE X (.Compare a [op,op'] [b,c] pos) (vF r r' ta tb tc):=⟨pe_chain ho ho' ha.h hb.h hc.h hm⟩
end
section
variable {X:Cx}
variable {a:Expr} {pos:Pos}
theorem qe_one {op} {t:TE} (h:QE X a t):QE X (.BoolOp op [a] pos) t:=⟨pe_one h.h⟩
end
section
variable {X:Cx}
variable {a b:Expr} {ta tb:TE} {pos:Pos}
variable {rest:List Expr}
theorem qe_and (ha:QE X a ta) (hb:QE X (.BoolOp .And (b :: rest) pos) tb):QE X (.BoolOp .And (a :: b :: rest) pos) (zz ta tb):=⟨pe_and ha.h hb.h⟩
end
section
variable {X:Cx}
variable {a b:Expr} {ta tb:TE} {pos:Pos}
variable {tA:TT}
theorem zQ {c:Expr} (hc:QT X c tA) (ha:QE X a ta) (hb:QE X b tb):QE X (.IfExp c a b pos) (tIf tA ta tb):=⟨pe_ifExp hc.h ha.h hb.h⟩
end
section
variable {X:Cx} {es:List Expr} {t:TA} {pos:Pos}
theorem vg (h:QA X es t):QE X (.List es pos) (tLst t):=⟨pe_lst h.h⟩
end
section
variable {X:Cx} {es:List Expr} {t:TA} {pos:Pos}
theorem qX {x1} (h:QA X es t):QE X (.Tuple es x1 pos) (tTup t):=⟨pe_tup h.h⟩
end
section
variable {X:Cx} {e:Expr} {te:TE} {lo hi:Option Expr} {tl th:TO} {pos p2:Pos}
theorem zC {r:V→Option Int→Option Int→Hp→VK→Prop} (hr:SlR X r) (he:QE X e te) (hl:QO X lo tl) (hu:QO X hi th):QE X (.Subscript e (.Slice lo hi none p2) pos) (tSl r te tl th):=⟨pe_slice hr he.h hl.h hu.h⟩
end
section
variable {X:Cx} {e:Expr} {te:TE}
theorem zD (h:QE X e te):QO X (some e) (zx te):=⟨po_some h.h⟩
end
section
variable {X:Cx}
theorem js  : QO X none va:=⟨po_none ⟩
end
section
variable {X:Cx} {a b:Expr} {ta tb:TE} {pos:Pos}
theorem qC {r:R2} (hr:IxR X r) (ha:QE X a ta) (hb:QE X b tb) (hs:YC b):QE X (.Subscript a b pos) (tOp r ta tb):=⟨pe_ix hr ha.h hb.h hs⟩
end
section
variable {X:Cx} {o i:Expr} {pos:Pos} {td ty:TE}
theorem VM (hu:X.A.units + 1 < cLine) (ho:QE X o td) (hi:QE X i ty) (hs:NoSl i):QE X (.Subscript o i pos) (tDGet td ty):=⟨pe_dget hu ho.h hi.h hs⟩
end
section
variable {X:Cx} {e:Expr} {f:Str} {pos:Pos} {ta:TE}
theorem vA (he:QE X e ta) (hb:attributeBase e f X.env (eval e X.env) = eval e X.env):QE X (.Attribute e f pos) (tFld X.K ta f):=⟨pe_fld he.h hb⟩
end
section
variable {X:Cx} {elt tg iter:Expr} {ifs:List Expr} {scope:Scope} {bs:List Bool} {ext:List Str} {pos:Pos} {wi:TI} {g:TG} {tt:TT} {te:TE}
theorem j7 (bs:List Bool) (ext:List Str) (hi:QI X tg iter wi) (hg:∀ fp s H,QG (cxB X scope ext fp s H) tg g) (ht:∀ fp s H,QTs (cxB X scope ext fp s H) ifs tt) (he:∀ fp s H,QE (cxB X scope ext fp s H) elt te) (hk:jB scope X.env X.N bs = true:=by rfl) (hc:X.calm = true:=by rfl) (hs:∀ x,foldedSetIterable iter X.env x = pure x:=by intro _; rfl):QE X (.ListComp elt [⟨tg,iter,ifs,0⟩] scope pos) (vV wi bs ext.length g tt te):=⟨pe_lc bs ext hi.h (fun fp s H => (hg fp s H).h) (fun fp s H => (ht fp s H).h) (fun fp s H => (he fp s H).h) hk hc hs⟩
end
section
theorem JT {X:Cx} {pos:Pos} {keys:List (Option Expr)} {values:List Expr} {trs:List (TE × TE)} (h:QPs X pos keys values trs) (hall:keys.all (·.isSome) = true) (hl:keys.length = values.length) (h0:keys≠[]) (h15:keys.length≤15):QE X (.Dict keys values pos) (tDisp trs):=⟨pe_disp h.h hall hl h0 h15⟩
end
section
theorem JR {X:Cx} {pos:Pos}:QPs X pos [] [] []:=⟨pps_nil ⟩
end
section
theorem zB {X:Cx} {pos:Pos} {k v:Expr} {ks:List (Option Expr)} {vs:List Expr} {tk tv:TE} {trs:List (TE × TE)} (hk:QE X k tk) (hv:QE X v tv) (hr:QPs X pos ks vs trs):QPs X pos (some k :: ks) (v :: vs) ((tk,tv) :: trs):=⟨pps_cons hk.h hv.h hr.h⟩
end
section
variable {X:Cx} {x:Str} {k:Nat} {ps:List Str} {sp:Sp} {p pos:Pos} {e:Expr} {es:List Expr} {t:TA}
theorem qo (D:Def X.prog X.w X.K X.mg X.base x k ps sp) (hr:Room k X.A) (ha:QA X (e :: es) t) (hg:Gl X x:=by rfl) (hdb:(x == ("__debug__" : Str)) = false:=by decide) (he:starEach (e :: es) X.env = (false,eval e X.env) :: starEach es X.env:=by rfl) (hpl:(backTo pos (starEach es X.env)).any (·.1) = false:=by rfl):QE X (.Call (.Name x p) (e :: es) [] pos) (vN sp [] E0 t):=⟨pe_def D hr ha.h hg hdb he hpl⟩
end
section
variable {X:Cx} {x:Str} {p pos:Pos} {e:Expr} {es:List Expr} {t:TA} {id:String} {r:List V→Hp→VK→Prop}
theorem qN (hc:xV X (.builtin id) r) (hg:Gl X x) (hm:X.mg x = none) (hv:bootBuiltins x = some (.builtin id)) (ha:QA X (e :: es) t) (hn:x ≠ "__name__" := by decide) (hdb:(x == ("__debug__" : Str)) = false:=by decide) (he:starEach (e :: es) X.env = (false,eval e X.env) :: starEach es X.env:=by rfl) (hpl:(backTo pos (starEach es X.env)).any (·.1) = false:=by rfl):QE X (.Call (.Name x p) (e :: es) [] pos) (tCB r t):=⟨pe_callB hc hg hm hv ha.h hn hdb he hpl⟩
end
section
variable {X:Cx} {x:Str} {p pos:Pos} {e:Expr} {es:List Expr} {t:TA} {T:String} {r:List V→Hp→VK→Prop}
theorem ja (hc:xV X (.type T) r) (hg:Gl X x) (hm:X.mg x = none) (hv:bootBuiltins x = some (.type T)) (ha:QA X (e :: es) t) (hn:x ≠ "__name__" := by decide) (hdb:(x == ("__debug__" : Str)) = false:=by decide) (he:starEach (e :: es) X.env = (false,eval e X.env) :: starEach es X.env:=by rfl) (hpl:(backTo pos (starEach es X.env)).any (·.1) = false:=by rfl):QE X (.Call (.Name x p) (e :: es) [] pos) (tCB r t):=⟨J0 hc hg hm hv ha.h hn hdb he hpl⟩
end
section
variable {X:Cx}
theorem zR {x:Str} {v:V} {u:Value} {pos:Pos} (hg:Gl X x) (hm:X.mg x = none) (hv:bootBuiltins x = some u) (r:RelV v u) (hn:x ≠ "__name__" := by decide) (hd:(x == ("__debug__" : Str)) = false:=by decide):QE X (.Name x pos) (tC v):=⟨pe_bltn hg hm hv r hn hd⟩
end
section
variable {X:Cx}
variable {o e:Expr} {es:List Expr} {to:TE} {t:TA} {name:Str} {apos cpos:Pos} {T id:String} {r:V→List V→Hp→VK→Prop}
theorem qe_bm (pa:PlainAttrs T) (slot:Slot T name id) (hty:typeOf (.builtin id) = pure (.type "method_descriptor")) (hm:MtR X id r) (ho:QE X o to) (ha:QA X (e :: es) t) (hbase:attributeBase o name X.env (eval o X.env) = eval o X.env:=by rfl) (hfew:((backTo cpos (starEach (e :: es) X.env)).all (fun x => !x.1) && (backToKw cpos (keywordEach [] X.env)).all (fun x => x.1.isSome)
   && decide ((e :: es).length + ([]:List Keyword).length + (if ([]:List Keyword).isEmpty then 0 else 1) < 30)) = true:=by rfl) (hline:(apos.endLine == cpos.line) = true:=by rfl) (hs:starEach (e :: es) X.env = (false,eval e X.env) :: starEach es X.env:=by rfl) (hplain:(backTo cpos (starEach es X.env)).any (·.1) = false:=by rfl):QE X (.Call (.Attribute o name apos) (e :: es) [] cpos) (tBM X.K T r to t):=⟨pe_bm pa slot hty hm ho.h ha.h hbase hfew hline hs hplain⟩
end
section
variable {X:Cx}
theorem qe_lm {o e:Expr} {es:List Expr} {to:TE} {t:TA} {name:Str} {apos cpos:Pos} {id:String} {r:V→List V→Hp→VK→Prop} (slot:Slot "list" name id) (hty:typeOf (.builtin id) = pure (.type "method_descriptor")) (hm:MtR X id r) (ho:QE X o to) (ha:QA X (e :: es) t) (hbase:attributeBase o name X.env (eval o X.env) = eval o X.env:=by rfl) (hfew:((backTo cpos (starEach (e :: es) X.env)).all (fun x => !x.1) && (backToKw cpos (keywordEach [] X.env)).all (fun x => x.1.isSome)
   && decide ((e :: es).length + ([]:List Keyword).length + (if ([]:List Keyword).isEmpty then 0 else 1) < 30)) = true:=by rfl) (hline:(apos.endLine == cpos.line) = true:=by rfl) (hs:starEach (e :: es) X.env = (false,eval e X.env) :: starEach es X.env:=by rfl) (hplain:(backTo cpos (starEach es X.env)).any (·.1) = false:=by rfl):QE X (.Call (.Attribute o name apos) (e :: es) [] cpos) (tLM r to t):=⟨pe_lm slot hty hm ho.h ha.h hbase hfew hline hs hplain⟩
end
section
theorem vo {X:Cx} {pl:Sem Bool} {C:Addr} {m:Str} {k:Nat} {ps:List Str} {sp:Sp} {o e:Expr} {es:List Expr} {ta:TE} {t:TA} {apos pos:Pos} (D:MDef X.prog X.w X.K X.mg X.base C m k ps sp) (c:Cls X.K C) (he:QE X o ta) (hr:Room k X.A) (ha:QA X (e :: es) t) (hst:starEach (e :: es) X.env = (false,eval e X.env) :: starEach es X.env:=by rfl) (hpl:(backTo pos (starEach es X.env)).any (·.1) = false:=by rfl) (ht:eval (.Call (.Attribute o m apos) (e :: es) [] pos) X.env = (do
   let ov ← eval o X.env
   standAt apos.atName
   let (f,first) ← holding [ov] (getMethod ov m pl)
   callWith pos f first (backTo pos (starEach (e :: es) X.env)) (backToKw pos (keywordEach [] X.env))):=by rfl):QE X (.Call (.Attribute o m apos) (e :: es) [] pos) (Vx C m sp [] E0 ta t):=⟨pe_mdef D c he.h hr ha.h hst hpl ht⟩
end
section
theorem JS {X:Cx} {x:Str} {n:Int} {pos:Pos} (G:GInt X.mg x n) (hg:Gl X x) (hd:(x == ("__debug__" : Str)) = false:=by decide):QE X (.Name x pos) (tC (.int n)):=⟨pe_gint G hg hd⟩
end
section
variable {X:Cx} {pos:Pos}
theorem VL {x:Str} {v:V} {u:Value} {pos:Pos} (hg:Gl X x) (hm:X.mg x = some u) (r:RelV v u) (hd:(x == ("__debug__" : Str)) = false:=by decide):QE X (.Name x pos) (tC v):=⟨JZ hg hm r hd⟩
end
structure MkDef (P:Program) (w:World) (K:PySem.W.Frag) (mg:Str→Option Value) (base:Heap) (C:Addr) (x:Str) (k:Nat) (ps:List Str) (sp:Sp):Prop where
 ex:∃ (f:Addr) (fd:FuncData),Mk K C f∧mg x = some (.ref C)∧Binds K fd ps []∧FnOk P w K mg base CX0 k f fd ps sp
section
variable {X:Cx} {C:Addr} {k:Nat} {ps:List Str} {sp:Sp} {x:Str} {p pos:Pos} {e:Expr} {es:List Expr} {t:TA}
theorem qe_mk (D:MkDef X.prog X.w X.K X.mg X.base C x k ps sp) (hr:Room (k + 1) X.A) (hg:Gl X x) (ha:QA X (e :: es) t) (hdb:(x == ("__debug__" : Str)) = false:=by decide) (he:starEach (e :: es) X.env = (false,eval e X.env) :: starEach es X.env:=by rfl) (hpl:(backTo pos (starEach es X.env)).any (·.1) = false:=by rfl):QE X (.Call (.Name x p) (e :: es) [] pos) (tMake C sp [] E0 t):=by
 obtain ⟨f,fd,h1,h2,h3,h4⟩:=D.ex
 exact ⟨pe_make h1 h4 hr hg h2 h3 .nil pass0 ha.h hdb he hpl⟩
def kE:TS:=fun _ _ _ => False
theorem qs_raise {e c:Option Expr}:QS X (.Raise e c pos) kE:=⟨fun _ _ _ _ _ _ h => h.elim⟩
theorem qs_par {i j:Nat} {x y:Str} {a b:Expr} {ta:TA} {px py pt:Pos} {kt k2 pt2} (hc:X.calm = true) (hN:X.N.Nodup) (hi:X.N[i]? = some x) (hj:X.N[j]? = some y) (hij:i≠j) (hx:X.env.scope.names.lookup x = some .local) (hy:X.env.scope.names.lookup y = some .local) (ha:QA X [a,b] ta)
  (hw:swappedStores [.Tuple [.Name x px, .Name y py] kt pt] (.Tuple [a,b] k2 pt2) X.env = pure (some [x,y])) (hs:swapsWithSole [.Tuple [.Name x px, .Name y py] kt pt] (.Tuple [a,b] k2 pt2) pos.line X.env = pure false:=by rfl) :
  QS X (.Assign [.Tuple [.Name x px, .Name y py] kt pt] (.Tuple [a,b] k2 pt2) pos) (tPar i j ta):=⟨ps_par hc hN hi hj hij hx hy ha.h hw hs⟩
end
def Obk (h h':Heap):Prop:=∀ (b:Nat) (o:Obj),h.objs[b]? = some o→∃ o',h'.objs[b]? = some o'∧o'.dict = o.dict
theorem Obk.refl (h:Heap):Obk h h:=fun b o e => ⟨o,e,rfl⟩
theorem Obk.trans {h h' h'':Heap} (x:Obk h h') (y:Obk h' h''):Obk h h'':=fun b o e => by
 obtain ⟨o',e',d'⟩:=x b o e
 obtain ⟨o2,e2,d2⟩:=y b o' e'
 exact ⟨o2,e2,d2.trans d'⟩
theorem Obk.push (h:Heap) (o:Obj):Obk h (h.push o):=fun b u e => ⟨u,by
 have hb:b < h.objs.size:=(Array.getElem?_eq_some_iff.mp e).1
 cases h
 simp only [Heap.push] at e hb ⊢
 rw [Array.getElem?_push,if_neg (Nat.ne_of_lt hb)]; exact e,rfl⟩
theorem Obk.update (h:Heap) (a:Addr) {f:Obj→Obj} (hf:∀ o,(f o).dict = o.dict):Obk h (h.update a f):=fun b u e => by
 cases h
 simp only [Heap.update] at e ⊢
 rw [Array.getElem?_modify]
 split
 ·exact ⟨f u,by rw [e]; rfl,hf u⟩
 ·exact ⟨u,e,rfl⟩
theorem Obk.get {h h':Heap} {a d:Addr} {o o':Obj} (x:Obk h h') (e:h.get? a = some o) (e':h'.get? a = some o'):o'.dict = o.dict:=by
 obtain ⟨u,eu,du⟩:=x a o (Heap.get?_some_iff.mp e).1
 rw [(Heap.get?_some_iff.mp e').1] at eu
 cases eu
 exact du
def DK {α:Type}:Sem α→Prop
 | .pure _ => True
 | .raise _ => True
 | .unsupported _ => True
 | .finish _ => True
 | .rule _ k => DK (k ())
 | .at _ k => DK (k ())
 | .load _ _ k => ∀ o,DK (k o)
 | .update _ _ f k => (∀ o,(f o).dict = o.dict)∧DK (k ())
 | .alloc _ k => ∀ a,DK (k a)
 | .loadIfAlive _ k => ∀ o,DK (k o)
 | .point _ k => DK (k ())
 | .register _ _ => True
 | .fresh k => ∀ t,DK (k t)
 | .ask k => ∀ x,DK (k x)
 | .choose _ _ k => ∀ n,DK (k n)
 | .os _ _ k => ∀ r,DK (k r)
 | .call _ _ _ _ _ => False
 | .handled _ k => ∀ x,DK (k x)
 | .newGen _ k => ∀ n,DK (k n)
 | .genState _ k => ∀ x,DK (k x)
 | .resume _ _ _ _ => False
 | .yield _ _ _ _ => True
 | .stack k => ∀ l,DK (k l)
 | .fork _ _ => True
 | .thread k => ∀ n,DK (k n)
 | .await _ _ _ _ _ => True
theorem DK.wp {α:Type} {M:Model} {Γ:PySem.Ctx}:∀ {t:Sem α} {Q:α→Pos→Shared→Prop} {E:Value→Pos→Shared→Prop} {p:Pos} {s:Shared},DK t→Sem.wp M Γ t Q E p s →
  Sem.wp M Γ t (fun a p' s' => Q a p' s'∧Obk s.heap s'.heap) (fun e p' s' => E e p' s'∧Obk s.heap s'.heap) p s:=by
 intro t
 induction t with
 | pure a => intro Q E p s _ h; rw [Sem.wp] at h ⊢; exact ⟨h, .refl _⟩
 | raise e => intro Q E p s _ h; rw [Sem.wp] at h ⊢; exact ⟨h, .refl _⟩
 | unsupported x => intro Q E p s _ h; rw [Sem.wp] at h; exact h.elim
 | finish x => intro Q E p s _ h; rw [Sem.wp] at h; exact h.elim
 | rule x k ih => intro Q E p s d h; rw [Sem.wp] at h ⊢; exact ih () d h
 | «at» x k ih => intro Q E p s d h; rw [Sem.wp] at h ⊢; exact ih () d h
 | load a x k ih => intro Q E p s d h; rw [Sem.wp] at h ⊢; obtain ⟨o,e,h⟩:=h; exact ⟨o,e,ih o (d o) h⟩
 | update a x f k ih =>
  intro Q E p s d h; rw [Sem.wp] at h ⊢
  refine ⟨h.1,Sem.wp_mono M Γ _ (fun a p' s' z => ⟨z.1,(Obk.update _ _ d.1).trans z.2⟩) (fun a p' s' z => ⟨z.1,(Obk.update _ _ d.1).trans z.2⟩) _ _ (ih () d.2 h.2)⟩
 | alloc o k ih =>
  intro Q E p s d h; rw [Sem.wp] at h ⊢
  exact Sem.wp_mono M Γ _ (fun a p' s' z => ⟨z.1,(Obk.push _ _).trans z.2⟩) (fun a p' s' z => ⟨z.1,(Obk.push _ _).trans z.2⟩) _ _ (ih _ (d _) h)
 | loadIfAlive a k ih => intro Q E p s d h; rw [Sem.wp] at h ⊢; exact ih _ (d _) h
 | point x k ih => intro Q E p s d h; rw [Sem.wp] at h ⊢; exact ih () d h
 | register a k ih => intro Q E p s d h; rw [Sem.wp] at h; exact h.elim
 | fresh k ih => intro Q E p s d h; rw [Sem.wp] at h ⊢; exact ih _ (d _) h
 | ask k ih => intro Q E p s d h; rw [Sem.wp] at h ⊢; exact ih _ (d _) h
 | choose x n k ih => intro Q E p s d h; rw [Sem.wp] at h ⊢; exact ⟨h.1,ih _ (d _) h.2⟩
 | os q l k ih => intro Q E p s d h; rw [Sem.wp] at h ⊢; exact ih _ (d _) h
 | call c x g l k ih => intro Q E p s d h; exact d.elim
 | handled x k ih => intro Q E p s d h; rw [Sem.wp] at h ⊢; exact ih _ (d _) h
 | newGen c k ih => intro Q E p s d h; rw [Sem.wp] at h ⊢; exact ih _ (d _) h
 | genState g k ih => intro Q E p s d h; rw [Sem.wp] at h ⊢; obtain ⟨o,e,h⟩:=h; exact ⟨o,e,ih _ (d _) h⟩
 | resume g r l k ih => intro Q E p s d h; exact d.elim
 | yield v g l k ih => intro Q E p s d h; rw [Sem.wp] at h; exact h.elim
 | stack k ih => intro Q E p s d h; rw [Sem.wp] at h ⊢; exact ih _ (d _) h
 | fork c k ih => intro Q E p s d h; rw [Sem.wp] at h; exact h.elim
 | thread k ih => intro Q E p s d h; rw [Sem.wp] at h ⊢; exact ih _ (d _) h
 | await a f b l k ih => intro Q E p s d h; rw [Sem.wp] at h; exact h.elim
theorem DK.any {α:Type} {M:Model} {A:Around} {t:Sem α} {Q:α→Shared→Prop} {E:Value→Shared→Prop} {s:Shared} (d:DK t) (h:wpAny M A t Q E s) :
  wpAny M A t (fun a s' => Q a s'∧Obk s.heap s'.heap) (fun e s' => E e s'∧Obk s.heap s'.heap) s:=fun Γ p hΓ => DK.wp d (h Γ p hΓ)
theorem DK.bind {α β:Type} {f:α→Sem β}:∀ {m:Sem α},DK m→(∀ a,DK (f a))→DK (m >>= f):=by
 intro m
 show DK m→_→DK (m.bind f)
 induction m with
 | pure a => intro _ h; exact h a
 | update a x g k ih => intro d h; exact ⟨d.1,ih () d.2 h⟩
 | raise e => intro _ _; trivial
 | unsupported x => intro _ _; trivial
 | finish x => intro _ _; trivial
 | rule x k ih => intro d h; exact ih () d h
 | «at» x k ih => intro d h; exact ih () d h
 | load a x k ih => intro d h o; exact ih o (d o) h
 | alloc o k ih => intro d h o; exact ih o (d o) h
 | loadIfAlive a k ih => intro d h o; exact ih o (d o) h
 | point x k ih => intro d h; exact ih () d h
 | register a k ih => intro _ _; trivial
 | fresh k ih => intro d h o; exact ih o (d o) h
 | ask k ih => intro d h o; exact ih o (d o) h
 | choose x n k ih => intro d h o; exact ih o (d o) h
 | os q l k ih => intro d h o; exact ih o (d o) h
 | call c x g l k ih => intro d h; exact d.elim
 | handled x k ih => intro d h o; exact ih o (d o) h
 | newGen c k ih => intro d h o; exact ih o (d o) h
 | genState g k ih => intro d h o; exact ih o (d o) h
 | resume g r l k ih => intro d h; exact d.elim
 | yield v g l k ih => intro _ _; trivial
 | stack k ih => intro d h o; exact ih o (d o) h
 | fork c k ih => intro _ _; trivial
 | thread k ih => intro d h o; exact ih o (d o) h
 | await a f b l k ih => intro _ _; trivial
theorem V9 (a:Addr):DK (load a):=fun _ => trivial
theorem dk_stack:DK stack:=fun _ => trivial
theorem Vd (a:Addr) {f:Obj→Obj} (h:∀ o,(f o).dict = o.dict):DK (update a f):=⟨h,trivial⟩
theorem Vf (f:Array Value→Array Value) (o:Obj):(Obj.mapFields f o).dict = o.dict:=by
 unfold Obj.mapFields
 split <;> rfl
theorem Za (v:Value):DK (fieldsOf v):=by
 unfold fieldsOf
 split
 ·refine (V9 _).bind fun o => ?_
  split <;> trivial
 ·trivial
theorem jG (v:Value) (i:Nat):DK (field v i):=by
 unfold field
 refine (Za v).bind fun o => ?_
 split <;> trivial
theorem xU (v:Value) (i:Nat) (x:Value):DK (setField v i x):=by
 unfold setField
 split
 ·unfold updateField
  refine (V9 _).bind fun o => ?_
  split
  ·split
   ·exact Vd _ (Vf _)
   ·trivial
  ·trivial
 ·trivial
theorem xo (e:Value) (f:Option Addr):DK (setFlight e f):=by
 unfold setFlight
 refine (jG _ _).bind fun o => ?_
 split
 ·exact xU _ _ _
 ·trivial
theorem Ve (ty:String) (vs:List Value):DK (newFields ty vs):=by
 unfold newFields newObj
 dsimp only
 split
 ·trivial
 ·unfold newObjAsIs
  exact fun a => trivial
theorem K8 (env:Env) (l:List Env):DK (behindIsImport env l):=by
 unfold behindIsImport
 split
 ·trivial
 ·split
  ·trivial
  ·exact (jG _ _).bind fun _ => trivial
theorem dk_kept (env:Env) (b:Bool) (l:List Env):DK (keptBack env b l):=by
 unfold keptBack
 split
 ·split
  ·trivial
  ·unfold underTheClaimsCaller
   exact DK.bind (dk_stack.bind fun _ => trivial) fun _ => trivial
 ·trivial
theorem Z2:∀ l:List Env,DK (readyFrames l)
 | [] => by unfold readyFrames; trivial
 | env :: outer => by
  unfold readyFrames
  split
  ·refine (V9 _).bind fun o => ?_
   split
   ·trivial
   ·refine (K8 _ _).bind fun _ => (dk_kept _ _ _).bind fun _ => DK.bind ?_ fun _ => Z2 outer
    exact Vd _ fun o => rfl
  ·trivial
theorem XV (env:Env):DK (PySem.frameOf env):=by
 unfold PySem.frameOf frameEnvs
 refine DK.bind (dk_stack.bind fun _ => trivial) fun l => DK.bind ?_ fun x => ?_
 ·unfold frameObject
  split
  ·trivial
  ·exact (Z2 _).bind fun _ => trivial
 ·split <;> trivial
theorem dk_place (f:Addr) (b:Bool):DK (entryPlaceOf f b):=by
 unfold entryPlaceOf
 refine dk_stack.bind fun l => ?_
 split <;> trivial
theorem K7 (e:Value) (env:Env):DK (noteFrame e env):=by
 unfold noteFrame
 have k:∀ f head,DK (do setField e 1 (← EntryCells.newEntry head (← PySem.frameOf env) .none (rawInt f) .none (← entryPlaceOf f (head != .none))):Sem Unit):=fun f head =>
  (XV _).bind fun _ => (dk_place _ _).bind fun _ => DK.bind (by unfold EntryCells.newEntry; exact Ve _ _) fun _ => xU _ _ _
 split
 ·refine (jG _ _).bind fun head => ?_
  split
  ·refine (jG _ _).bind fun _ => ?_
   split
   ·trivial
   ·exact (xU _ _ _).bind fun _ => k _ _
  ·exact k _ _
 ·trivial
theorem ku (env:Env) (e:Value):DK (leaving env e):=by
 unfold leaving
 exact (K7 _ _).bind fun _ => xo _ _
end L2
namespace PySem.W
open Builtin.ObjectAttr
section
variable {prog:Program} {w:World} {A:Around} {E:Value→Shared→Prop} {s:Shared} {K:Frag} {x C:Addr} {ox:Obj} {od:Option Obj} {name:Str} {expr:Bool} {Q:Value→Shared→Prop}
theorem getX_value {v:Value} (X:K.In s.heap) (I:InstAt s.heap x ox C od) (hga:findIn K (.ref C) "__getattribute__" = some (some (.builtin "BaseException.__getattribute__")))
  (hgt:findIn K (.ref C) "__getattr__" = some none) (hm:mroIn K C (.type "BaseException") = some true)
  (hf:findObj K C od name = some (.value v)) (hh:handedIn v = true) (h:Q v { s with toks:=s.toks + 1 }):wpAny (model prog w) A (getAttr (.ref x) name expr) Q E s:=by
 obtain ⟨hp,g,d,t,os⟩:=s
 have L0:=I.type (M:=model prog w)
 have L1:=looks_findIn (M:=model prog w) X hga
 have L2:=looks_findIn (M:=model prog w) X hgt
 have L3:=looks_find (M:=model prog w) X I hf
 have L4:=looks_mroIn (M:=model prog w) X hm
 have FB:=PySem.F.excAttr_ValueError
 have f3:=FB.ga.bind (.ref x)
 have hx0:(expr && onTheHeap (Value.builtin "BaseException.__getattribute__")) = false:=by cases expr <;> rfl
 have hx2:(Value.builtin "BaseException.__getattribute__" == Value.builtin "object.__getattribute__") = false:=by decide +kernel
 have hx1:(onTheHeap (Value.ref C) && Value.builtin "BaseException.__getattribute__" == Value.builtin "object.__getattribute__") = false:=by rw [hx2]; rfl
 have ha:=F.args_bexc_ga (.ref x) (.str name t)
 have hk:builtinKind "BaseException.__getattribute__" = some .slot:=by decide +kernel
 have hsplit:splitId "BaseException.__getattribute__" = some ("BaseException", "__getattribute__"):=by decide +kernel
 unfold getAttr getAttrBy
 refine wpAny_bind (wpAny_mkText (wpAny_holding (wpAny_bind (L0.at (wpAny_bind (L1.at ?_))))))
 repeat (any_goals (first | assumption | with_reducible refine L0.at ?_ | with_reducible refine L2.at ?_ | wp_step))
 refine codeAny_call_builtin FB.ga.plain F.entry_bexc_ga ?_
 simp only [checkBuiltinCall,hk,hsplit,List.cons_append,List.nil_append]
 refine wpAny_bind ?_
 unfold isInstance
 refine wpAny_bind (L0.at (L4.at ?_))
 repeat (any_goals (first | assumption | with_reducible refine L0.at ?_ | with_reducible refine L3.at ?_ | wp_step))
 show wpAny _ _ (handedOut v) _ _ _
 rw [handedOut_of hh]; exact wpAny_pure h
def jh (bmB:List Value):List Value→Bool
 | .ref _ :: r => jh bmB r
 | l => l == bmB
theorem kr {bmB r:List Value} {c:Addr}:jh bmB (.ref c :: r) = jh bmB r:=by rw [jh]
theorem Qe {bmB:List Value} {self:Value} (h:refuseLoop self "__setattr__" bmB = pure ()):∀ l,jh bmB l = true→refuseLoop self "__setattr__" l = pure ():=by
 intro l
 induction l with
 | nil => intro e; have e:(([]:List Value) == bmB) = true:=e; rw [eq_of_beq e]; exact h
 | cons x r ih =>
  intro e
  cases x with
  | ref c => rw [refuseLoop_ref]; exact ih (by rw [kr] at e; exact e)
  | _ =>
   rw [jh] at e
   ·rw [eq_of_beq e]; exact h
   ·intro a r' q; cases q
theorem XT {bmB:List Value} {v:Value} (h:bmB.contains v = true):∀ l,jh bmB l = true→l.contains v = true:=by
 intro l
 induction l with
 | nil => intro e; have e:(([]:List Value) == bmB) = true:=e; rw [eq_of_beq e]; exact h
 | cons x r ih =>
  intro e
  cases x with
  | ref c => rw [List.contains_cons,ih (by rw [kr] at e; exact e),Bool.or_true]
  | _ =>
   rw [jh] at e
   ·rw [eq_of_beq e]; exact h
   ·intro a r' q; cases q
def excOver (K:Frag) (C:Addr):Bool:=(clsIn K C).any fun cd => jh [.type "ValueError", .type "Exception", .type "BaseException", .type "object"] cd.mro && cd.hasDict && !cd.mro.isEmpty
theorem setX_new {ox:Obj} {v:Value} {vs:Array Value} {Q:Unit→Shared→Prop} (X:K.In s.heap) (I:InstAt s.heap x ox C none) (hdn:ox.dict = none) (hdt:ox.data = .fields vs) (hsa:findIn K (.ref C) "__setattr__" = some (some (.builtin "object.__setattr__"))) (hp:excOver K C = true)
  (ht:findIn K (.ref C) name = some none)
  (h:∀ h' d,d = s.heap.objs.size→(∀ b o,b≠x→s.heap.get? b = some o→h'.get? b = some o)→h'.get? x = some { ox with dict:=some d }→h'.Ns1 d (fun y => if y = name then some v else none)→Q () { s with heap:=h',toks:=s.toks + 2 }) :
  wpAny (model prog w) A (setAttr (.ref x) name v) Q E s:=by
 have SF:=PySem.F.store_ValueError
 obtain ⟨cd,hc,ho⟩:=any_some hp
 simp only [Bool.and_eq_true,Bool.not_eq_true'] at ho
 obtain ⟨⟨ho,hd⟩,ne⟩:=ho
 refine set_plain X I hsa ?_
 have sub:Looks (model prog w) s.heap (isInstance (.ref x) (.type "object")) true:=I.type.andThen (looks_mroIn X (by unfold mroIn; rw [hc,Option.bind_some,if_neg (by rw [ne]; decide),XT (by decide) _ ho]))
 refine codeAny_call_builtin SF.slot.plain SF.entry (@check_slot (model prog w) _ _ { s with toks:=s.toks + 1 } "object.__setattr__" "object" "__setattr__" (.ref x) [.str name s.toks,v] [] _ SF.kind SF.split sub (SF.args (.ref x) (.str name s.toks) v) ?_)
 have hm:Looks (model prog w) s.heap (mroOf (.ref C)) cd.mro:=(looks_clsIn X hc).andThen .now
 rw [osa_eq,refuse_eq]
 refine wpAny_bind (wpAny_bind (Looks.here (s:={ s with toks:=s.toks + 1 }) I.type (wpAny_bind (Looks.here (s:={ s with toks:=s.toks + 1 }) hm ?_))))
 rw [Qe (SF.passes _) _ ho]
 refine wpAny_pure (wpAny_bind (Looks.here (s:={ s with toks:=s.toks + 1 }) I.type (wpAny_bind (Looks.here (s:={ s with toks:=s.toks + 1 }) (looks_findIn X ht) (wpAny_bind (wpAny_pure ?_))))))
 obtain ⟨hx,hcl,hn, -⟩:=I
 obtain ⟨oc,odi,oda,osl⟩:=ox
 dsimp only at hcl hdn hdt
 subst hcl hdn hdt
 refine wpAny_bind (wpAny_pure (wpAny_bind (wpAny_bind (wpAny_loadPart hx (wpAny_bind (Looks.here (s:={ s with toks:=s.toks + 1 }) (looks_clsIn X hc) ?_))))))
 rw [hd]
 have hx₁:(s.heap.push { cls:=.type "dict", data:=.dict #[] }).get? x = some ⟨.ref C,none, .fields vs,osl⟩:=Heap.get?_push_of_some _ hx
 have hxs:x≠s.heap.objs.size:=Nat.ne_of_lt (Heap.lt_size hx)
 refine wpAny_bind (wpAny_alloc' (wpAny_bind (wpAny_update' hx₁ (wpAny_pure ?_))))
 have hgd:((s.heap.push { cls:=.type "dict", data:=.dict #[] }).update x fun o => { cls:=o.cls,dict:=some s.heap.objs.size,data:=o.data,slots:=o.slots }).get? s.heap.objs.size = some { cls:=.type "dict", data:=.dict #[] } :=
  (Heap.get?_update_ne _ _ _ _ hxs.symm).trans (Heap.get?_push_at rfl rfl)
 have hnd:((s.heap.push { cls:=.type "dict", data:=.dict #[] }).update x fun o => { cls:=o.cls,dict:=some s.heap.objs.size,data:=o.data,slots:=o.slots }).Ns s.heap.objs.size (fun _ => none) :=
  ⟨_, #[],_,hgd,rfl,fun e he => absurd he (by simp),fun _ => rfl⟩
 show wpAny _ _ (storeInDict s.heap.objs.size (.str name s.toks) name v) _ _ _
 unfold storeInDict newKeyGuard
 refine wpAny_bind (wpAny_pure (wpAny_bind (wpAny_nsSet1 (Heap.Ns1.of_empty hnd) fun h' hn' hs => ?_)))
 obtain ⟨oD,esD,epD,hoD,hdD,hcD⟩:=hn'.count (Within.cons name v Within.nil)
 refine wpAny_bind (wpAny_lookBehind hoD (by rw [hdD]; exact pastItsLine_dict (Nat.le_trans hcD (by rw [List.length_cons,List.length_nil,sizeLine_eq]; omega))) ?_)
 refine wpAny_pure (h h' s.heap.objs.size rfl (fun b ob hbx hb => ?_) ?_ hn')
 ·exact (hs.2 b (Nat.ne_of_lt (Heap.lt_size hb))).trans ((Heap.get?_update_ne _ _ _ _ hbx).trans (Heap.get?_push_of_some _ hb))
 ·exact (hs.2 x hxs).trans (Heap.get?_update_self _ hx₁ rfl)
end
end PySem.W
namespace PySem.W
abbrev bmV:List Value:=[.type "ValueError", .type "Exception", .type "BaseException", .type "object"]
structure ExcI (h:Heap) (C f:Addr):Prop where
 ex:∃ bm N nm qn bs hdct sn sub ab col dd k0 k1 k2 k3 k5 mN oI,h.get? C = some (excClassObj nm qn C N bs bm hdct sn sub ab col dd k0 k1 k2 k3 k5 "ValueError.__new__")∧h.Ns N mN∧mN "__init__" = some (.ref f)∧OwnTail h bmV bm∧h.get? f = some oI∧oI.cls = .type "function"
def excInI (K:Frag) (C f:Addr):Bool:=match K.lookup C with
 | some ⟨.type "type", _, .cls cd,sl⟩ => (match cd.mro,sl.toList with
  | .ref C' :: bm, [_,_,_,_,some (.builtin n),_] => C' == C && n == "ValueError.__new__" && !cd.hasDel && tailIn K bmV bm && nsOkIn K cd.ns && nsIn K cd.ns "__init__" == some (some (.ref f)) && typeIn K (.ref f) == some (.type "function")
  | _,_ => false)
 | _ => false
theorem XB {K:Frag} {h:Heap} {N:Addr} {mg:Str→Option Value} {n:Str} {v:Value} (X:K.In h) (G:h.Ns N mg) (e:nsIn K N n = some (some v)):mg n = some v:=by
 obtain ⟨o,es,ep,ho,hd,_,hf⟩:=G
 unfold nsIn at e
 split at e
 ·rename_i c d es' n' sl q
  have:=X _ _ q
  rw [ho] at this
  cases this
  cases hd
  split at e
  ·rename_i en he
   cases e
   rw [← hf]
   unfold nsFind findBy
   rw [← Array.find?_toList,he]
   rfl
  ·first | cases e | (split at e <;> cases e)
 ·cases e
theorem fn_obj {K:Frag} {h:Heap} {f:Addr} (X:K.In h) (e:typeIn K (.ref f) = some (.type "function")):∃ oI,h.get? f = some oI∧oI.cls = .type "function" := by
 unfold typeIn at e
 dsimp only at e
 cases q:K.lookup f with
 | none => rw [q] at e; cases e
 | some o => rw [q] at e; exact ⟨o,X _ _ q,by simpa using e⟩
theorem excI_of {K:Frag} {h:Heap} {C f:Addr} (X:K.In h) (q:excInI K C f = true):ExcI h C f:=by
 unfold excInI at q
 split at q
 ·rename_i dd cd sl ho
  split at q
  ·rename_i C' bm k0 k1 k2 k3 n k5 hm hs
   obtain ⟨nm,bs,mro,ns,qn,hd,sn,sub,ab,col,del⟩:=cd
   simp only [Bool.and_eq_true,beq_iff_eq,Bool.not_eq_true'] at q hm
   obtain ⟨⟨⟨⟨⟨⟨z1,z2⟩,z3⟩,z4⟩,z5⟩,z6⟩,z7⟩:=q
   subst z1; subst z2; subst hm; subst z3
   obtain ⟨l⟩:=sl
   have hs:l = _:=hs
   subst hs
   obtain ⟨oI,e1,e2⟩:=fn_obj X z7
   have N1:=Heap.Ns.of_isNs (isNs_of_in X z5)
   exact ⟨bm,ns,nm,qn,bs,hd,sn,sub,ab,col,dd,k0,k1,k2,k3,k5,_,oI,X _ _ ho,N1,XB X N1 z6,tail_of_in X z4,e1,e2⟩
  ·cases q
 ·cases q
section
variable {prog:Program} {w:World} {A:Around} {E:Value→Shared→Prop} {s:Shared} {C f:Addr}
theorem j5 {h:Heap} {g:Array GenState} {d:Drawn} {t:Nat} {os:OsState} {rest:List Value} {Q:Fin→Shared→Prop} (J:ExcI h C f) (hrest:rest.length≤sizeLine)
  (hq:∀ h' e,Heap.MadeExcOf h h' e (.ref C) rest→wpAny (model prog w) A (call (.ref f) (.ref e :: rest)) (fun r s' => r = .none∧Q (.done (.ret (.ref e))) s') E ⟨h',g,d,t,os⟩) :
  wpAny (model prog w) A (Builtin.«type.__call__» ⟨.ref C :: rest, []⟩) Q E ⟨h,g,d,t,os⟩:=by
 obtain ⟨bm,N,nm,qn,bs,hdct,sn,sub,ab,col,dd,k0,k1,k2,k3,k5,mN,oI,hC,hn,hi,T,hfI,hfc⟩:=J.ex
 have Fn:=PySem.F.excBase_ValueError
 repeat (first | with_reducible refine wpAny_loadPart_at hC ?_ | with_reducible refine wpAny_madeBy_exc hC ?_ | wp_step)
 refine codeAny_call_builtin_code (Code.quiet_builtin _ Fn.quiet) (wpAny_check_new_subU Fn (by decide) T hC ?_)
 refine codeAny_exc_new_subU Fn (by decide) Fn T hC ?_ hrest
 show wpAny _ _ _ _ _ _
 have kk:∀ b o,h.get? b = some o→((h.push { cls:=.type "tuple", data:=.seq rest.toArray }).push { cls:=.ref C,data:=.fields #[.ref h.objs.size, .none, .none, .none, .bool false, .none] }).get? b = some o :=
  fun b o e => Heap.get?_push_of_some _ (Heap.get?_push_of_some _ e)
 have hget:((h.push { cls:=.type "tuple", data:=.seq rest.toArray }).push
   { cls:=.ref C,data:=.fields #[.ref h.objs.size, .none, .none, .none, .bool false, .none] }).get? (h.objs.size + 1) = some
   { cls:=.ref C,data:=.fields #[.ref h.objs.size, .none, .none, .none, .bool false, .none] }:=by heap_get
 have hC₁:=kk _ _ hC
 have hn₁:=hn.keeps kk
 have T₁:=T.keeps kk
 have hcC:(Value.ref C :: bm).contains (.ref C) = true:=by simp
 unfold isInstance
 repeat (first | with_reducible refine wpAny_loadPart_at hget ?_ | (with_reducible refine wpAny_isSubtype_exc hC₁ ?_; rw [hcC]) | wp_step)
 show wpAny _ _ (typeLookup (.ref C) _) _ _ _
 refine wpAny_typeLookup_tail hC₁ hn₁ T₁ Fn.mroIs Fn.init.lookup ?_
 rw [hi]
 refine wpAny_holding (wpAny_bind ?_)
 unfold bindSpecial
 refine wpAny_bind (wpAny_typeOf (T := "function") ⟨_,kk _ _ hfI,hfc⟩ ?_)
 rw [if_pos (by decide)]
 refine wpAny_pure (wpAny_bind (wpAny_mono (hq _ (h.objs.size + 1) ⟨kk,Heap.get?_none_of_le (Nat.le_succ _),h.objs.size,hget,Heap.get?_none_of_le (Nat.le_refl _), ?_⟩) (fun r s' hr => ?_) fun _ _ x => x))
 ·exact Heap.get?_push_of_some _ (Heap.get?_push_at rfl rfl)
 ·obtain ⟨rfl,hQ⟩:=hr
  wp_walk
  exact hQ
theorem Ys {rest:List Value} {Q:Value→Shared→Prop} (J:ExcI s.heap C f) (hrest:rest.length≤sizeLine)
  (hq:∀ h' e,Heap.MadeExcOf s.heap h' e (.ref C) rest→wpAny (model prog w) (A.under (.builtin "type.__call__" ⟨.ref C :: rest, []⟩)) (call (.ref f) (.ref e :: rest)) (fun r s' => r = .none∧Q (.ref e) s') E { s with heap:=h' }) :
  wpAny (model prog w) A (call (.ref C) rest) Q E s:=by
 obtain ⟨h,g,d,t,os⟩:=s
 obtain ⟨bm,N,nm,qn,bs,hdct,sn,sub,ab,col,dd,k0,k1,k2,k3,k5,mN,oI,hC,hn,hi,T,hfI,hfc⟩:=J.ex
 have f1:=tc_lookup
 have f2:=tc_bind (.ref C)
 have hT:(⟨h,g,d,t,os⟩:Shared).TypeIs (.ref C) "type" := ⟨_,hC,rfl⟩
 refine wpAny_call (codeAny_of_tree ?_)
 show wpAny _ _ (callAny (.ref C) _) _ _ _
 repeat (any_goals (first | assumption | with_reducible refine wpAny_loadPart_at hC ?_ | wp_step))
 refine ⟨rfl, ?_⟩
 refine codeAny_call_builtin_at (Code.quiet_builtin _ (by decide +kernel)) entry_typeCall (wpAny_check_type_call_sub hC (j5 J hrest fun h' e hm => ?_))
 exact hq h' e hm
abbrev excOb (C:Addr) (d:Option Addr) (t:Addr):Obj:={ cls:=.ref C,dict:=d,data:=.fields #[.ref t, .none, .none, .none, .bool false, .none] }
theorem VI {env:Env} {x:Sem Value} {Q:Flow→Shared→Prop} (hh:A.handled = none)
  (h:wpAny (model prog w) A x (fun v s₁ => ∃ e d t,v = .ref e∧ExcI s₁.heap C f∧s₁.heap.get? e = some (excOb C d t)∧E (.ref e) s₁) E s):wpAny (model prog w) A (raiseStmt env (some x) none) Q E s:=by
 unfold raiseStmt
 refine wpAny_bind (wpAny_mono h (fun v s₁ h₁ => ?_) fun _ _ x => x)
 obtain ⟨e,dx,tx,rfl,J,he,hE⟩:=h₁
 obtain ⟨bm,N,nm,qn,bs,hdct,sn,sub,ab,col,dd,k0,k1,k2,k3,k5,mN,oI,hC,hn,hi,T,hfI,hfc⟩:=J.ex
 have hcB:(Value.ref C :: bm).contains (.type "BaseException") = true:=by rw [List.contains_cons,T.hasType (b:=true) (by decide),Bool.or_true]
 obtain ⟨hp,g,d,tk,os⟩:=s₁
 repeat (first | with_reducible refine wpAny_loadPart_at he ?_ | with_reducible refine wpAny_loadPart_at hC ?_ | (with_reducible refine wpAny_isSubtype_exc hC ?_; rw [hcB]) | wp_step)
 exact wpAny_raiseNew_none hh hE
theorem Raise_I {env:Env} {x:Str} {np cpos pos:Pos} {args:List Expr} {Q:Flow→Shared→Prop} (hh:A.handled = none) (hplain:(backTo cpos (starEach args env)).any (·.1) = false)
  (h:wpAny (model prog w) A (eval (.Name x np) env) (fun c s₁ => c = .ref C∧wpAny (model prog w) A (evalArgs (.ref C) true (backTo cpos (starEach args env)) [])
   (fun a s₂ => a.kw = []∧a.pos.length≤sizeLine∧ExcI s₂.heap C f∧∀ h' e,Heap.MadeExcOf s₂.heap h' e (.ref C) a.pos →
    wpAny (model prog w) (A.under (.builtin "type.__call__" ⟨.ref C :: a.pos, []⟩)) (call (.ref f) (.ref e :: a.pos)) (fun r s' => r = .none∧∃ d t,ExcI s'.heap C f∧s'.heap.get? e = some (excOb C d t)∧E (.ref e) s') E { s₂ with heap:=h' }) E s₁) E s) :
  wpAny (model prog w) A (exec (.Raise (some (.Call (.Name x np) args [] cpos)) none pos) env) Q E s:=by
 rw [arm_exec_Raise]
 refine wpAny_bind (wpAny_standAt (VI (C:=C) (f:=f) hh ?_))
 refine wpAny_bind (wpAny_mono (wpAny_Call_ofName (wpAny_mono h (fun c s₁ h₁ => ?_) fun _ _ x => x)) (fun v s₃ h₃ => wpAny_bind (wpAny_standAt (wpAny_pure h₃))) fun _ _ x => x)
 obtain ⟨rfl,h₁⟩:=h₁
 unfold callWith
 refine wpAny_bind (wpAny_holding (wpAny_mono h₁ (fun a s₂ h₂ => wpAny_bind (wpAny_standAt ?_)) fun _ _ x => x))
 obtain ⟨apos,akw⟩:=a
 obtain ⟨hkw,hlen,J,h₂⟩:=h₂
 obtain rfl:akw = []:=hkw
 obtain ⟨bm,N,nm,qn,bs,hdct,sn,sub,ab,col,dd,k0,k1,k2,k3,k5,mN,oI,hC,hn,hi,T,hfI,hfc⟩:=J.ex
 obtain ⟨hp,g,d,tk,os⟩:=s₂
 simp only [hplain]
 refine wpAny_bind (wpAny_keeperOf_exc hC ?_)
 refine wpAny_bind (Ys J hlen fun h' e hm => wpAny_mono (h₂ h' e hm) (fun r s' z => ⟨z.1,wpAny_bind (wpAny_holding (wpAny_point (wpAny_pure ?_)))⟩) fun _ _ x => x)
 obtain ⟨_,dx,tx,J',he,hE⟩:=z
 exact ⟨e,dx,tx,rfl,J',he,hE⟩
theorem bexc_init {e:Addr} {dx:Option Addr} {tx:Addr} {rest:List Value} {R:Result→Shared→Prop} (J:ExcI s.heap C f) (he:s.heap.get? e = some (excOb C dx tx)) (hrest:rest.length≤sizeLine)
  (hq:∀ h' t',(∀ b o,b≠e→s.heap.get? b = some o→h'.get? b = some o)→h'.get? e = some (excOb C dx t')→R (.ok (.ret .none)) { s with heap:=h' }) :
  codeAny (model prog w) A (.call (.builtin "ValueError.__init__") ⟨.ref e :: rest, []⟩) R s:=by
 obtain ⟨bm,N,nm,qn,bs,hdct,sn,sub,ab,col,dd,k0,k1,k2,k3,k5,mN,oI,hC,hn,hi,T,hfI,hfc⟩:=J.ex
 have F:=PySem.F.excBase_ValueError
 obtain ⟨h,g,d,t,os⟩:=s
 refine codeAny_call_builtin F.init.plain F.initEntry (wpAny_check_init_subU F T hC he rfl ?_)
 have hne:e≠h.objs.size:=Nat.ne_of_lt (Heap.lt_size he)
 have he1:(h.push { cls:=.type "tuple", data:=.seq rest.toArray }).get? e = some (excOb C dx tx):=Heap.get?_push_of_some _ he
 wp_walk
 refine hq _ h.objs.size (fun b o hb q => ?_) ?_
 ·rw [Heap.get?_update_other _ _ (Ne.symm hb)]; exact Heap.get?_push_of_some _ q
 ·exact (Heap.get?_update_self _ he1 rfl).trans rfl
end
end PySem.W
namespace L2
open PySem PySem.Spec PyProof.Rows
def ExcAt (a C:Addr) (d:Option Addr):Heap→Prop:=fun h => ∃ t,h.get? a = some (PySem.W.excOb C d t)
abbrev excO (a C:Addr) (d:Option Addr):HO:=.ext (ExcAt a C d)
theorem V8 {P:Program} {w:World} {H:Hp} {h:Heap} {a C:Addr} {d:Option Addr} {t:Addr} (e:h.get? a = some (PySem.W.excOb C d t)):ObjOk P w H h a (excO a C d) :=
 ⟨⟨t,e⟩,⟨_,e⟩,fun h1 h2 ⟨t',e'⟩ k => ⟨t',k _ e'⟩⟩
theorem jF {P:Program} {w:World} {H:Hp} {h:Heap} {a C:Addr} {d:Option Addr} (x:HOk P w H h) (e:H a = some (excO a C d)):∃ t,h.get? a = some (PySem.W.excOb C d t):=(x a _ e).1
structure ExcK (K:PySem.W.Frag) (C f:Addr):Prop where
 i:PySem.W.excInI K C f = true
 sa:PySem.W.findIn K (.ref C) "__setattr__" = some (some (.builtin "object.__setattr__"))
 ov:PySem.W.excOver K C = true
 ga:PySem.W.findIn K (.ref C) "__getattribute__" = some (some (.builtin "BaseException.__getattribute__"))
 gt:PySem.W.findIn K (.ref C) "__getattr__" = some none
 mr:PySem.W.mroIn K C (.type "BaseException") = some true
 hd:PySem.W.hasDictIn K C = true
section
variable {X:Cx} {o e value:Expr} {f:Str} {pos pos':Pos} {ta tv:TE} {C g:Addr}
def sSetX (K:PySem.W.Frag) (C:Addr) (ta tv:TE) (f:Str):TS:=fun D σ H => tv σ H fun y H1 => ta σ H1 fun x H2 => ∃ a,x = .ref a∧H2 a = some (excO a C none)∧∀ d,H2 d = none→D.nx σ (upd (upd H2 d (.xd [(f,y)])) a (excO a C (some d)))
theorem ps_setX (c:ExcK X.K C g) (n:NoAttr X.K C f) (ha:PE X o ta) (hv:PE X value tv) (hs:swapsWith value (some (.Attribute o f pos')) pos.line X.env = pure false):PS X (.Assign [.Attribute o f pos'] value pos) (sSetX X.K C ta tv f):=by
 intro pins s σ H D I h
 refine plainObj_wpAny_Assign_Attribute (thn (hv pins s σ H _ I h) fun u s1 ⟨y,H1,I1,ry,q⟩ => thn (ha pins s1 σ H1 _ I1 q) fun ov s2 ⟨x,H2,I2,rx,a,ex,ea,q2⟩ => ?_) hs
 subst ex
 obtain rfl:ov = Value.ref a:=rx
 obtain ⟨t,hx⟩:=jF I2.hok ea
 refine PySem.W.setX_new I2.kIn (C:=C) (ox:=PySem.W.excOb C none t) ⟨hx,rfl,rfl,trivial⟩ rfl rfl c.sa c.ov n fun h' d hd k e1 e2 => ?_
 obtain ⟨od,es,ep,ho,hr⟩:=e2
 have hf:=(Heap.get?_some_iff.mp ho).2
 have hm:(s2.heap.push od).get? d = some od:=by rw [hd]; exact Heap.get?_push_size _ hf
 have ne:a≠d:=by rw [hd]; exact Nat.ne_of_lt (Heap.lt_size hx)
 have J:=I2.laid (a:=d) (o:=.xd [(f,y)]) (h':=s2.heap.push od) (t':=s2.toks) (fun b v q => Heap.get?_push_of_some _ q) (by rw [hd]; exact Nat.le_refl _)
  ⟨_,⟨od,es,ep,hm,hr⟩,fun z => by
   show RelO (([(f,y)]:List (Str × V)).lookup z) (if z = f then some u else none)
   rw [List.lookup_cons]
   by_cases q:z = f
   ·subst q; rw [beq_self_eq_true,if_pos rfl]; exact ry
   ·rw [if_neg q,beq_eq_false_iff_ne.mpr q]; exact True.intro⟩
 have fr:H2 d = none:=I2.hok.fresh (by rw [hd]; exact Nat.le_refl _)
 have J2:=J.write (x:=a) (e:=a) (o:=excO a C (some d)) (h':=h') (t':=s2.toks + 2) (by rw [upd_ne ne,ea]; exact True.intro) (.inl rfl) (fun b v hb q => ?_) ⟨_,e1⟩ (V8 (t:=t) e1)
 ·exact ⟨σ,_,J2,q2 d fr⟩
 ·by_cases hbd:b = d
  ·subst hbd; rw [hm] at q; rw [ho]; exact q
  ·have q':s2.heap.get? b = some v:=by
    have hz:b≠s2.heap.objs.size:=by rw [← hd]; exact hbd
    have:=Heap.get?_some_iff.mp q
    refine Heap.get?_some_iff.mpr ⟨?_,this.2⟩
    have q1:=this.1
    revert q1 hz
    cases s2.heap
    intro hz q1
    simp only [Heap.push] at q1 hz ⊢
    rw [Array.getElem?_push,if_neg hz] at q1
    exact q1
   exact k b v hb q'
def tFs3 (a b:Str) (te:TE):TE:=fun σ H Q => te σ H fun v H1 => ∃ n,v = .int n∧n.natAbs.log2 < 1920∧(Str.ofString (toString n)).length≤10000∧Q (.str (Str.empty ++ a ++ (Str.ofString (toString n)) ++ b)) H1
theorem pe_fs3 {a b:Str} {ka kb:_} {pa pb pf:Pos} {te:TE} (la:a.length≤10000) (lb:b.length≤10000) (he:PE X e te):PE X (.JoinedStr [.Constant (.str a) ka pa, .FormattedValue e (-1) none pf, .Constant (.str b) kb pb] pos) (tFs3 a b te):=by
 intro pins s σ H Q I h
 refine wpAny_JoinedStr ?_
 refine Calls.Constant_str ⟨a,_,rfl,by rw [strLen_append,show Str.empty.length = 0 from rfl,sizeLine_eq]; omega, ?_⟩
 show wpAny _ _ (eval (.FormattedValue e (-1) none pf) X.env) _ _ _
 refine wpAny_FormattedValue_plain (thn (he pins _ σ H _ (I.tok _) h) fun u s1 ⟨v,H1,I1,rv,n,ev,hn,ln,q⟩ => ?_)
 subst ev
 obtain ⟨t,rfl⟩:=(show ∃ t,u = Value.int n t from rv)
 refine wpAny_formatField_int hn ?_
 refine ⟨_,_,rfl,by rw [strLen_append,strLen_append,show Str.empty.length = 0 from rfl,sizeLine_eq]; omega, ?_⟩
 have lz:(Str.empty ++ a ++ Str.ofString (toString n) ++ b).length≤sizeLine:=by rw [strLen_append,strLen_append,strLen_append,show Str.empty.length = 0 from rfl,sizeLine_eq]; omega
 refine Calls.Constant_str ⟨b,_,rfl,lz,lz, ?_⟩
 exact ⟨.str (Str.empty ++ a ++ Str.ofString (toString n) ++ b),H1,(((I1.tok _).tok _).tok _),⟨_,rfl⟩,q⟩
theorem qe_fs3 {a b:Str} {ka kb:_} {pa pb pf:Pos} {te:TE} (la:a.length≤10000) (lb:b.length≤10000) (he:QE X e te):QE X (.JoinedStr [.Constant (.str a) ka pa, .FormattedValue e (-1) none pf, .Constant (.str b) kb pb] pos) (tFs3 a b te):=⟨pe_fs3 la lb he.h⟩
theorem qs_setX (c:ExcK X.K C g) (n:NoAttr X.K C f) (ha:QE X o ta) (hv:QE X value tv) (hs:swapsWith value (some (.Attribute o f pos')) pos.line X.env = pure false:=by rfl):QS X (.Assign [.Attribute o f pos'] value pos) (sSetX X.K C ta tv f):=⟨ps_setX c n ha.h hv.h hs⟩
structure InitB (K:PySem.W.Frag) (mg:Str→Option Value) (x:Str) (B:Addr):Prop where
 b:mg x = some (.ref B)
 sp:PySem.W.specialIn K (.ref B) "__getattribute__" = some (some (.builtin "type.__getattribute__"))
 rd:PySem.W.readsIn K B (.type "type") = true
 fi:PySem.W.findCls K (.ref B) (.type "type") "__init__" = some (.val (.builtin "ValueError.__init__"))
def sInitB (C:Addr) (ta:TA):TS:=fun D σ H => ta σ H fun vs H1 => ∃ a d rest,vs = .ref a :: rest∧H1 a = some (excO a C d)∧rest.length≤1000∧D.nx σ H1
theorem ps_initB {x:Str} {B:Addr} {p apos:Pos} {es:List Expr} {tl:TA} {pl:Sem Bool} (c:ExcK X.K C g) (b:InitB X.K X.mg x B) (ha:PA X (e :: es) tl) (hg:Gl X x) (hdb:(x == ("__debug__" : Str)) = false)
  (hst:starEach (e :: es) X.env = (false,eval e X.env) :: starEach es X.env) (hpl:(backTo pos (starEach es X.env)).any (·.1) = false)
  (ht:eval (.Call (.Attribute (.Name x p) "__init__" apos) (e :: es) [] pos) X.env = (do
   let ov ← eval (.Name x p) X.env
   standAt apos.atName
   let (f,first) ← holding [ov] (getMethod ov "__init__" pl)
   callWith pos f first (backTo pos (starEach (e :: es) X.env)) (backToKw pos (keywordEach [] X.env))))
  (hs:swapsWith (.Call (.Attribute (.Name x p) "__init__" apos) (e :: es) [] pos) none pos'.line X.env = pure false) :
  PS X (.Expr (.Call (.Attribute (.Name x p) "__init__" apos) (e :: es) [] pos) pos') (sInitB C tl):=by
 intro pins s σ H D I h
 refine wpAny_Expr_any ?_ I.quiet hs
 refine PySem.W.methodCall_KW (pl:=pl) (xn I hg b.b ?_ hdb) ht
 refine PySem.W.method_cls I.kIn b.sp (PySem.W.cls_value I.kIn b.rd b.fi rfl ?_)
 refine PyProof.Rows.callWith_builtin1 (thn (ha pos pins _ σ H _ (I.tok _) h) fun us s1 ⟨vs,H1,I1,r1,a,d,rest,ev,ea,hl,q1⟩ => ?_) hst hpl
 subst ev
 cases r1 with
 | cons ra rr =>
 rename_i u us' _
 obtain rfl:u = Value.ref a:=ra
 obtain ⟨t,hx⟩:=jF I1.hok ea
 refine wpAny_call (PySem.W.bexc_init (PySem.W.excI_of I1.kIn c.i) hx (by rw [← rr.length,sizeLine_eq]; omega) fun h' t' k e1 => ?_)
 have J:=I1.write (x:=a) (e:=a) (o:=excO a C d) (h':=h') (t':=s1.toks) (by rw [ea]; exact True.intro) (.inl rfl) (fun b v hb q => k b v hb q) ⟨_,e1⟩ (V8 (t:=t') e1)
 refine ⟨σ,H1, ?_,q1⟩
 have eH:upd H1 a (excO a C d) = H1:=by
  funext b
  unfold upd
  split
  ·rename_i q; rw [q,ea]
  ·rfl
 rw [eH] at J
 exact J
theorem qs_initB {x:Str} {B:Addr} {p apos:Pos} {es:List Expr} {tl:TA} {pl:Sem Bool} (c:ExcK X.K C g) (b:InitB X.K X.mg x B) (ha:QA X (e :: es) tl) (hg:Gl X x:=by rfl) (hdb:(x == ("__debug__" : Str)) = false:=by decide)
  (hst:starEach (e :: es) X.env = (false,eval e X.env) :: starEach es X.env:=by rfl) (hpl:(backTo pos (starEach es X.env)).any (·.1) = false:=by rfl)
  (ht:eval (.Call (.Attribute (.Name x p) "__init__" apos) (e :: es) [] pos) X.env = (do
   let ov ← eval (.Name x p) X.env
   standAt apos.atName
   let (f,first) ← holding [ov] (getMethod ov "__init__" pl)
   callWith pos f first (backTo pos (starEach (e :: es) X.env)) (backToKw pos (keywordEach [] X.env))):=by rfl)
  (hs:swapsWith (.Call (.Attribute (.Name x p) "__init__" apos) (e :: es) [] pos) none pos'.line X.env = pure false:=by rfl) :
  QS X (.Expr (.Call (.Attribute (.Name x p) "__init__" apos) (e :: es) [] pos) pos') (sInitB C tl):=⟨ps_initB c b ha.h hg hdb hst hpl ht hs⟩
end
structure Fli (P:Program) (w:World) (outer:List Env) (H:Hp) (s:Shared) (a:Addr) (C:Value) (d:Option Addr) (H':Hp) (s':Shared):Prop where
 own:∀ o,s'.heap.get? a = some o→o.dict = d
 os:s'.os = s.os
 bare:AllBare s'.gens
 fly:∃ (B:Heap) (a0:Value),Heap.FlyingW B outer a C a0 s'.heap∧HOk P w H' B∧(∀ b ∈ frs outer,B.get? b = none)∧(∀ b o,s.heap.get? b = some o→H b = none→b ∉ frs outer→B.get? b = some o) ∧
  ∀ b o,s.heap.get? b = some o→H b≠none→∃ o',B.get? b = some o'
 up:∀ b o,s.heap.get? b = some o→H b = none→b ∈ frs outer→∃ sl,s'.heap.get? b = some { o with slots:=sl }
 free:∀ b o,s.heap.get? b = some o→H b = none→H' b = none
 tups:∀ b xs,H b = some (.tup xs)→H' b = some (.tup xs)
 frzs:∀ b o u,H b = some (.frz o u)→H' b = some (.frz o u)
 tbls:∀ b ps,H b = some (.tbl ps)→∃ more,H' b = some (.tbl (ps ++ more))
def CXe (P:Program) (w:World):CXT:=fun outer H s E e s' => ∃ a C d H',e = .ref a∧Fli P w outer H s a C d H' s'∧E C d H'
theorem CXe.mono {P:Program} {w:World} {outer:List Env} {H:Hp} {s s':Shared} {E E':XK} {e:Value} (h:CXe P w outer H s E e s') (k:∀ C d H',E C d H'→E' C d H'):CXe P w outer H s E' e s':=by
 obtain ⟨a,C,d,H',e1,f,q⟩:=h
 exact ⟨a,C,d,H',e1,f,k C d H' q⟩
structure Body (X:Cx) (outer:List Env):Prop where
 stk:X.stack = X.env :: outer
 out:X.outer = outer
 fr:X.env.frame = some X.env.locals
 ex:X.ex = []
section
variable {X:Cx} {outer:List Env} {pins:List (Addr × Obj)} {σ:St} {H:Hp} {s:Shared}
theorem Inv.old (I:Inv X pins σ H s) {b:Addr} {o:Obj} (q:X.s₀.heap.get? b = some o):b≠X.env.locals:=fun z => by
 subst z
 exact absurd (Heap.lt_size q) (Nat.not_lt.mpr I.ok.above)
theorem Body.mem (Y:Body X outer) {b:Addr} (hb:b ∈ frs X.stack):b = X.env.locals∨b ∈ frs outer:=by
 rw [Y.stk] at hb
 obtain ⟨env,he,hf⟩:=List.mem_filterMap.mp hb
 rcases List.mem_cons.mp he with rfl | he
 ·rw [Y.fr] at hf; exact .inl (Option.some.inj hf).symm
 ·exact .inr (List.mem_filterMap.mpr ⟨env,he,hf⟩)
theorem Body.in_ (Y:Body X outer) {b:Addr} (hb:b ∈ frs outer):b ∈ frs X.stack:=by
 rw [Y.stk]
 obtain ⟨env,he,hf⟩:=List.mem_filterMap.mp hb
 exact List.mem_filterMap.mpr ⟨env, .tail _ he,hf⟩
def untr (H:Hp) (a:Addr):Hp:=fun b => if b = a then none else H b
theorem xM {H:Hp} {a b:Addr} (h:b≠a):untr H a b = H b:=by unfold untr; rw [if_neg h]
theorem X0 {H:Hp} {a:Addr}:untr H a a = none:=by unfold untr; rw [if_pos rfl]
theorem HOk.untr {P:Program} {w:World} {H:Hp} {h h':Heap} {a:Addr} {φ:Heap→Prop} (x:HOk P w H h) (ea:H a = some (.ext φ)) (k:∀ b u,b≠a→H b≠none→h.get? b = some u→h'.get? b = some u):HOk P w (untr H a) h':=fun b o e => by
 have hb:b≠a:=fun z => by rw [z,X0] at e; cases e
 rw [xM hb] at e
 refine (x b o e).stay (fun c u hc q => ?_) (fun c hc => ?_) fun c xs hc => ?_
 ·rcases hc with rfl | hc
  ·exact k _ u hb (by rw [e]; simp) q
  ·exact k c u (fun z => by rw [z,ea] at hc; cases hc) (by rw [hc]; simp) q
 ·rw [xM fun z => by rw [z,ea] at hc; cases hc]; exact hc
 ·rw [xM fun z => by rw [z,ea] at hc; cases hc]; exact hc
theorem VW (Y:Body X outer) (I:Inv X pins σ H s) {e C:Addr} {d:Option Addr} {E:XK} {R:Value→Shared→Prop} {M:Model} {A:Around} (hA:A.frames = some X.stack) (hx:H e = some (excO e C d)) (he0:X.s₀.heap.get? e = none) (hE:E (.ref C) d (untr H e)) :
  wpAny M A (leaving X.env (.ref e)) (fun _ s'' => CXe X.prog X.w outer X.H₀ X.s₀ E (.ref e) s'') R s:=by
 obtain ⟨t0,hge⟩:=jF I.hok hx
 have hin:∀ env ∈ X.stack,∀ b,env.frame = some b→b ∈ e :: frs X.stack:=fun env he b hb => .tail _ (List.mem_filterMap.mpr ⟨env,he,hb⟩)
 have hl:s.heap.FunFrames (PySem.W.hideAll s.heap (e :: frs X.stack)) X.stack:=PySem.W.funFrames_hide I.stack hin
 rw [Y.stk] at hA
 have ob:∀ b o,X.s₀.heap.get? b = some o→b ∉ frs outer→b ∉ e :: frs X.stack:=fun b o q n z => by
  rcases List.mem_cons.mp z with rfl | z
  ·rw [he0] at q; cases q
  ·rcases Y.mem z with z | z
   ·exact I.old q z
   ·exact n z
 have nx:∀ b,b ∉ X.ex:=fun b => by rw [Y.ex]; simp
 have fs:∀ b,b ∈ frs outer ↔ b ∈ X.fs:=fun b => by show _ ↔ b ∈ frs X.outer; rw [Y.out]
 refine wpAny_mono (DK.any (ku _ _) (wpAny_leaving_firstW (base:=PySem.W.hideAll s.heap (e :: frs X.stack)) hA (by rw [← Y.stk]; exact hl) Y.fr hge (fun b o q => PySem.W.of_hideAll _ q) (PySem.W.hideAll_none _ (.head _)) rfl rfl rfl (Q:=fun _ s' => Heap.LeftW (PySem.W.hideAll s.heap (e :: frs X.stack)) (X.env :: outer) e (.ref C) (.ref t0) s.heap s'.heap∧∃ h',s' = { s with heap:=h' }) fun h' q => ⟨q,h',rfl⟩)) (fun _ s' q => ?_) fun _ _ q => q.1
 obtain ⟨⟨⟨k1,⟨_,_,k2⟩,k3,k4⟩,h',rfl⟩,kd⟩:=q
 refine ⟨e, .ref C,d,untr H e,rfl,⟨?_,I.os,I.bare,⟨_, .ref t0,⟨k1,PySem.W.hideAll_none _ (.head _),k2,k3⟩, ?_, ?_, ?_, ?_⟩, ?_, ?_, ?_, ?_, ?_⟩,hE⟩
 ·exact fun o q => (kd.get (d:=0) hge q)
 ·exact I.hok.untr hx fun b u hb hb0 q => PySem.W.hideAll_get _ q fun hm => by
   rcases List.mem_cons.mp hm with z | hm
   ·exact hb z
   ·exact hb0 (I.stkFree b hm)
 ·exact fun b hb => PySem.W.hideAll_none _ (.tail _ (Y.in_ hb))
 ·exact fun b o q n hb => PySem.W.hideAll_get _ (I.base.keep b o q n (fun z => hb ((fs b).mpr z)) (nx b)) (ob b o q hb)
 ·intro b o q n
  obtain ⟨o',e1⟩:=I.base.there b o q (nx b)
  refine ⟨o',PySem.W.hideAll_get _ e1 (ob b o q fun z => n (I.ok.frf b ((fs b).mp z)))⟩
 ·intro b o q n hb
  obtain ⟨sl,e1⟩:=I.base.slot b o q n ((fs b).mp hb) (nx b)
  obtain ⟨_,o',ho',hd⟩:=I.ok.funs.mem (show b ∈ X.outer.filterMap (·.frame) from (fs b).mp hb)
  rw [q] at ho'; cases ho'
  obtain ⟨sl2,e2⟩:=k4 b _ e1 hd
  exact ⟨sl2,e2⟩
 ·intro b o q n
  have:=I.base.free b o q n (nx b)
  unfold untr
  split
  ·rfl
  ·exact this
 ·intro b xs q
  have:=I.base.tups b xs q
  rw [xM fun z => by rw [z,hx] at this; cases this]; exact this
 ·intro b o u q
  have:=I.base.frzs b o u q
  rw [xM fun z => by rw [z,hx] at this; cases this]; exact this
 ·intro b ps q
  obtain ⟨m,this⟩:=I.base.tbls b ps q
  exact ⟨m,by rw [xM fun z => by rw [z,hx] at this; cases this]; exact this⟩
theorem J5 (Y:Body X outer) (I:Inv X pins σ H s) {e:Value} {s':Shared} {E:XK} {R:Value→Shared→Prop} {M:Model} {A:Around} (hA:A.frames = some X.stack) (hx:CXe X.prog X.w X.stack H s E e s') :
  wpAny M A (leaving X.env e) (fun _ s'' => CXe X.prog X.w outer X.H₀ X.s₀ E e s'') R s':=by
 obtain ⟨a,C,d,H',rfl,F,hE⟩:=hx
 obtain ⟨B,a0,fl,hok,nb,kp,th⟩:=F.fly
 have ob:∀ b o,X.s₀.heap.get? b = some o→b ∉ frs outer→b ∉ frs X.stack:=fun b o q n z => by
  rcases Y.mem z with z | z
  ·exact I.old q z
  ·exact n z
 have nx:∀ b,b ∉ X.ex:=fun b => by rw [Y.ex]; simp
 have fs:∀ b,b ∈ frs outer ↔ b ∈ X.fs:=fun b => by show _ ↔ b ∈ frs X.outer; rw [Y.out]
 rw [Y.stk] at hA fl
 refine wpAny_mono (DK.any (ku _ _) (wpAny_leaves_onW hA Y.fr fl (Q:=fun _ s2 => (Heap.FlyingW B outer a C a0 s2.heap∧s'.heap.UpToSlots s2.heap)∧∃ h',s2 = { s' with heap:=h' }) fun h' x1 x4 => ⟨⟨x1,x4⟩,h',rfl⟩)) (fun _ s2 z => ?_) fun _ _ q => q.1
 obtain ⟨⟨⟨x1,x4⟩,h',rfl⟩,kd⟩:=z
 refine ⟨a,C,d,H',rfl,⟨?_,F.os.trans I.os,F.bare,⟨B,a0,x1,hok,fun b hb => nb b (Y.in_ hb), ?_, ?_⟩, ?_, ?_,fun b xs q => F.tups b xs (I.base.tups b xs q),fun b o u q => F.frzs b o u (I.base.frzs b o u q), ?_⟩,hE⟩
 ·obtain ⟨o1,e1,_⟩:=fl.there
  exact fun o q => (kd.get (d:=0) e1 q).trans (F.own o1 e1)
 ·exact fun b o q n hb => kp b o (I.base.keep b o q n (fun z => hb ((fs b).mpr z)) (nx b)) (I.base.free b o q n (nx b)) (ob b o q hb)
 ·intro b o q n
  obtain ⟨o',e1⟩:=I.base.there b o q (nx b)
  cases hb:H b with
  | none => exact ⟨o',kp b o' e1 hb (ob b o q fun z => n (I.ok.frf b ((fs b).mp z)))⟩
  | some u => exact th b o' e1 (by rw [hb]; simp)
 ·intro b o q n hb
  obtain ⟨sl,e1⟩:=I.base.slot b o q n ((fs b).mp hb) (nx b)
  obtain ⟨sl',e2⟩:=F.up b _ e1 (I.base.free b o q n (nx b)) (Y.in_ hb)
  obtain ⟨_,o',ho',hd⟩:=I.ok.funs.mem (show b ∈ X.outer.filterMap (·.frame) from (fs b).mp hb)
  rw [q] at ho'; cases ho'
  obtain ⟨sl2,e3⟩:=x4 b _ e2 hd
  exact ⟨sl2,e3⟩
 ·intro b o q n
  obtain ⟨o',e1⟩:=I.base.there b o q (nx b)
  exact F.free b o' e1 (I.base.free b o q n (nx b))
 ·intro b ps q
  obtain ⟨m1,e1⟩:=I.base.tbls b ps q
  obtain ⟨m2,e2⟩:=F.tbls b _ e1
  exact ⟨m1 ++ m2,by rw [e2,Array.append_assoc]⟩
end
def pV:Option Int→V
 | none => .non
 | some n => .int n
theorem pV_inj {p q:Option Int} (h:pV p = pV q):p = q:=by
 cases p <;> cases q <;> first | rfl | cases h
 rfl
def PartIs (d:Option Addr) (H:Hp):Option Int→Prop
 | none => d = none
 | some n => ∃ x,d = some x∧H x = some (.xd [("part", .int n)])
def EX (mg:Str→Option Value) (D:Ends) (σ:St):XK:=fun C d H' => ∃ nm p,mg nm = some C∧PartIs d H' p∧D.bk (some (.str nm) :: some (pV p) :: σ) H'
def Cmp (X:Cx) (E:XK) (σ:St):Prop:=∀ pins H s e s',Inv X pins σ H s→CXe X.prog X.w X.stack H s E e s'→X.xe e s'
def CmpD (r:Prop) (X:Cx) (D:Ends):Prop:=(∀ σ,Cmp X (EX X.mg D σ) σ)∧(r→∀ pins σ H s e C d,Inv X pins σ H s→H e = some (excO e C d)→X.s₀.heap.get? e = none→EX X.mg D σ (.ref C) d (untr H e)→X.xe (.ref e) s)
structure QX (r:Prop) (X:Cx) (st:Stmt) (t:TS):Prop where
 h:∀ pins s σ H D,CmpD r X D→Inv X pins σ H s→t D σ H→wpAny (model X.prog X.w) X.A (exec st X.env) (SP X pins D) X.xe s
structure QXs (r:Prop) (X:Cx) (st:List Stmt) (t:TS):Prop where
 h:∀ pins s σ H D,CmpD r X D→Inv X pins σ H s→t D σ H→wpAny (model X.prog X.w) X.A (execs st X.env) (SP X pins D) X.xe s
abbrev TX:=St→Hp→VK→XK→Prop
structure QXe (X:Cx) (e:Expr) (t:TX):Prop where
 h:∀ pins s σ H Q E,Cmp X E σ→Inv X pins σ H s→t σ H Q E→wpAny (model X.prog X.w) X.A (eval e X.env) (EP X pins σ Q) X.xe s
section
variable {r:Prop} {X:Cx} {st:Stmt} {rest:List Stmt} {t u:TS} {e:Expr} {tx:TX} {pos:Pos}
theorem ZD (h1:QX r X st t) (h2:QXs r X rest u):QXs r X (st :: rest) (tSeq t u):=⟨fun pins s σ H D c I h => by
 refine wpAny_execs_cons (thn (h1.h pins s σ H { D with nx:=u D } c I h) fun f s1 q => ?_)
 cases f with
 | next =>
  obtain ⟨σ',H',I',q⟩:=q
  exact h2.h pins s1 σ' H' D c I' q
 | ret v => exact q
 | brk => exact q
 | cont => exact q⟩
theorem JO:QXs r X [] zn:=⟨fun pins s σ H D c I h => wpAny_execs_nil ⟨σ,H,I,h⟩⟩
theorem jO (h1:QX r X st t):QXs r X [st] t:=⟨fun pins s σ H D c I h => by
 refine wpAny_execs_cons (thn (h1.h pins s σ H D c I h) fun f s1 q => ?_)
 cases f with
 | next => exact wpAny_execs_nil q
 | ret v => exact q
 | brk => exact q
 | cont => exact q⟩
theorem qx_of (h:QS X.nox st t):QX r X st t:=⟨fun pins s σ H D _ I q => wpAny_mono (h.h pins s σ H D (I.wish _) q) (fun _ _ z => z.unwish) fun _ _ z => False.elim z⟩
theorem qx_if {c:Expr} {a b:List Stmt} {tc:TT} (hc:QT X.nox c tc) (ha:QXs r X a t) (hb:QXs r X b u):QX r X (.If c a b pos) (tIfS tc t u):=⟨fun pins s σ H D k I h => by
 refine wpAny_If (thn (hc.h.nox pins s σ H _ I h) fun d s1 ⟨H1,I1,q1⟩ => ?_)
 cases d with
 | true => exact ha.h pins s1 σ H1 D k I1 q1
 | false => exact hb.h pins s1 σ H1 D k I1 q1⟩
def tDropX (tx:TX) (mg:Str→Option Value):TS:=fun D σ H => tx σ H (fun _ H1 => D.nx σ H1) (EX mg D σ)
theorem qx_expr (he:QXe X e tx) (hs:swapsWith e none pos.line X.env = pure false:=by rfl):QX r X (.Expr e pos) (tDropX tx X.mg):=⟨fun pins s σ H D k I h =>
 wpAny_Expr_any (thn (he.h pins s σ H _ _ (k.1 σ) I h) fun v s1 ⟨x,H1,I1,r1,q1⟩ => ⟨σ,H1,I1,q1⟩) I.quiet hs⟩
def tSetX (i:Nat) (tx:TX) (mg:Str→Option Value):TS:=fun D σ H => tx σ H (fun v H1 => D.nx (σ.set i (some v)) H1) (EX mg D σ)
theorem qx_set {i:Nat} {x:Str} {pos':Pos} (hN:X.N.Nodup) (hi:X.N[i]? = some x) (hx:Loc X.env.scope x) (he:QXe X e tx) (hs:swapsWith e (some (.Name x pos')) pos.line X.env = pure false:=by rfl) (hf:X.fn x = true∨X.env.scope.names.lookup x = some .local:=by first | exact .inl rfl | exact .inr rfl | assumption) :
  QX r X (.Assign [.Name x pos'] e pos) (tSetX i tx X.mg):=⟨fun pins s σ H D k I h => by
 refine wpAny_Assign_Name (thn (he.h pins s σ H _ _ (k.1 σ) I h) fun v s1 ⟨y,H1,I1,r1,q1⟩ => ?_) hs
 exact xw I1 hN hi hx r1 (fun s2 I2 => ⟨_,H1,I2,q1⟩) hf⟩
theorem Jk {k:Nat} {f:Addr} {fd:FuncData} {ps:List Str} {sp:Sp} {pins:List (Addr × Obj)} {σ:St} {H:Hp} {s:Shared} {Q:VK} {E:XK} {us:List Value} {vs:List V} (F:FnOk X.prog X.w X.K X.mg X.base (CXe X.prog X.w) k f fd ps sp) (hr:Room k X.A) (hb:Binds X.K fd ps []) (hx:Cmp X E σ)
  (I:Inv X pins σ H s) (rv:Vals vs us) (h:sp vs H Q E):wpAny (model X.prog X.w) X.A (call (.ref f) us) (EP X pins σ Q) X.xe s:=by
 have hl:us.length = ps.length:=by rw [← rv.length]; exact F.len _ _ _ _ h
 refine wpAny_call (codeAny_mono (F.run X.A X.stack s H ⟨us, []⟩ us vs Q E hr I.env0 (by simpa using hb s us I.kIn (by simpa using hl)) rv h) fun rr s' hq => ?_)
 cases rr with
 | error e => exact hx pins H s e s' I hq
 | ok fl =>
  cases fl with
  | ret u => exact I.after hq
  | next => exact False.elim hq
  | brk => exact False.elim hq
  | cont => exact False.elim hq
structure DefX (P:Program) (w:World) (K:PySem.W.Frag) (mg:Str→Option Value) (base:Heap) (x:Str) (k:Nat) (ps:List Str) (sp:Sp):Prop where
 ex:∃ (f:Addr) (fd:FuncData),mg x = some (.ref f)∧PySem.W.keepIn K (.ref f) = true∧Binds K fd ps []∧FnOk P w K mg base (CXe P w) k f fd ps sp
structure MDefX (P:Program) (w:World) (K:PySem.W.Frag) (mg:Str→Option Value) (base:Heap) (C:Addr) (m:Str) (k:Nat) (ps:List Str) (sp:Sp):Prop where
 ex:∃ (f:Addr) (fd:FuncData),Meth K C m f∧Binds K fd ps []∧FnOk P w K mg base (CXe P w) k f fd ps sp
def tCallX (sp:Sp) (t:TA):TX:=fun σ H Q E => t σ H fun vs H1 => sp vs H1 Q E
theorem qx_call {x:Str} {k:Nat} {ps:List Str} {sp:Sp} {p:Pos} {es:List Expr} {ta:TA} (D:DefX X.prog X.w X.K X.mg X.base x k ps sp) (hr:Room k X.A) (ha:QA X.nox (e :: es) ta) (hg:Gl X x:=by rfl)
  (hdb:(x == ("__debug__" : Str)) = false:=by decide) (he:starEach (e :: es) X.env = (false,eval e X.env) :: starEach es X.env:=by rfl) (hpl:(backTo pos (starEach es X.env)).any (·.1) = false:=by rfl) :
  QXe X (.Call (.Name x p) (e :: es) [] pos) (tCallX sp ta):=⟨fun pins s σ H Q E hx I h => by
 obtain ⟨f,fd,hm,hk,hb,F⟩:=D.ex
 refine wpAny_Call_Name_kw (xn I hg hm ?_ hdb)
 refine PySem.W.callWith_K (h₀:=X.base) I.ok.mod.kin hk (wpAny_mono (ha.h pos pins s σ H _ (I.wish _) h) (fun us s1 ⟨vs,H1,I1,r,q⟩ => ⟨I1.unwish.kIn, ?_⟩) fun _ _ z => False.elim z) he hpl
 exact Jk F hr hb hx I1.unwish r q⟩
def tMethX (C:Addr) (m:Str) (sp:Sp) (ta:TE) (t:TA):TX:=fun σ H Q E => ta σ H fun x H1 => ∃ a dx fs,x = .ref a∧H1 a = some (.ins C dx fs)∧fs.lookup m = none∧t σ H1 fun vs H2 => sp (x :: vs) H2 Q E
theorem qx_meth {pl:Sem Bool} {C:Addr} {m:Str} {k:Nat} {ps:List Str} {sp:Sp} {o:Expr} {apos:Pos} {es:List Expr} {ta:TE} {tl:TA} (hq:QE X.nox o ta) (c:Cls X.K C) (D:MDefX X.prog X.w X.K X.mg X.base C m k ps sp) (hr:Room k X.A) (ha:QA X.nox (e :: es) tl)
  (hst:starEach (e :: es) X.env = (false,eval e X.env) :: starEach es X.env:=by rfl) (hpl:(backTo pos (starEach es X.env)).any (·.1) = false:=by rfl)
  (ht:eval (.Call (.Attribute o m apos) (e :: es) [] pos) X.env = (do
   let ov ← eval o X.env
   standAt apos.atName
   let (f,first) ← holding [ov] (getMethod ov m pl)
   callWith pos f first (backTo pos (starEach (e :: es) X.env)) (backToKw pos (keywordEach [] X.env))):=by rfl) :
  QXe X (.Call (.Attribute o m apos) (e :: es) [] pos) (tMethX C m sp ta tl):=⟨fun pins s σ H Q E hx I h => by
 obtain ⟨f,fd,hm,hb,F⟩:=D.ex
 refine PySem.W.methodCall_KW (pl:=pl) (thn (hq.h.nox pins s σ H _ I h) fun u s1 ⟨x,H1,I1,rx,a,dx,fs,ex,ea,l,q⟩ => ?_) ht
 subst ex
 obtain rfl:u = Value.ref a:=rx
 refine xF I1 ea c hm l ?_
 refine PySem.W.callWith_K (first:=[.ref a]) (h₀:=X.base) I.ok.mod.kin hm.kp (wpAny_mono (ha.h pos pins s1 σ H1 _ (I1.wish _) q) (fun us s2 ⟨vs,H2,I2,r,q2⟩ => ⟨I2.unwish.kIn, ?_⟩) fun _ _ z => False.elim z) hst hpl
 exact Jk (us:=.ref a :: us) (vs:=.ref a :: vs) F hr hb hx I2.unwish (.cons rfl r) q2⟩
end
theorem Inv.none0 {X:Cx} {pins:List (Addr × Obj)} {σ:St} {H:Hp} {s:Shared} {e:Addr} (I:Inv X pins σ H s) (hx:e ∉ X.ex) (h:s.heap.get? e = none):X.s₀.heap.get? e = none:=by
 cases z:X.s₀.heap.get? e with
 | none => rfl
 | some o =>
  obtain ⟨o',q⟩:=I.base.there e o z hx
  rw [h] at q; cases q
theorem ObjOk.here {P:Program} {w:World} {H:Hp} {h:Heap} {a:Addr} {o:HO} (x:ObjOk P w H h a o):∃ u,h.get? a = some u:=by
 cases o with
 | lst xs => obtain ⟨_,_,_,_,e⟩:=x; exact ⟨_,e⟩
 | tup xs => obtain ⟨_,_,_,o,e,_⟩:=x; exact ⟨o,e⟩
 | dK kvs => obtain ⟨_,_,_,_,o,_,_,e,_⟩:=x; exact ⟨_,e⟩
 | dT kvs => obtain ⟨_,_,_,_,o,_,_,e,_⟩:=x; exact ⟨_,e⟩
 | set S n => obtain ⟨o,_,_,_,e,_⟩:=x; exact ⟨_,e⟩
 | ins C dx fs => obtain ⟨_,_,_,e,_⟩:=x; exact ⟨_,e⟩
 | own y => obtain ⟨_,e⟩:=x; exact ⟨_,e⟩
 | xd fs => obtain ⟨_,⟨_,_,_,e,_⟩,_⟩:=x; exact ⟨_,e⟩
 | rng lo hi => obtain ⟨_,_,_,e⟩:=x; exact ⟨_,e⟩
 | frz ob u => obtain ⟨e,_⟩:=x; exact ⟨_,e⟩
 | tbl ps => exact ⟨_,(show h.get? a = some _ from x)⟩
 | met f y => exact ⟨_,(show h.get? a = some _ from x)⟩
 | ext φ => obtain ⟨_,⟨o,e⟩,_⟩:=x; exact ⟨o,e⟩
theorem Inv.exc {X:Cx} {pins:List (Addr × Obj)} {σ:St} {H:Hp} {s:Shared} {e C:Addr} {args:List Value} {h1:Heap} (I:Inv X pins σ H s) (hm:Heap.MadeExcOf s.heap h1 e (.ref C) args):H e = none∧Inv X pins σ (upd H e (excO e C none)) { s with heap:=h1 }:=by
 obtain ⟨k,hn,t,ht,_⟩:=hm
 have fr:H e = none:=by
  cases z:H e with
  | none => rfl
  | some o =>
   obtain ⟨u,q⟩:=(I.hok e o z).here
   rw [hn] at q; cases q
 refine ⟨fr, ?_⟩
 refine I.un (h':=h1) (t':=s.toks) ⟨fun b u q _ _ _ => k b u q,fun b u q _ _ _ => ⟨u.slots,k b u q⟩,fun b u q n _ => ?_,fun b u q _ => ⟨u,k b u q⟩,fun b xs q => ?_,fun b u xs q => ?_,fun b ps q => ⟨#[], ?_⟩⟩ fun b u q => ?_
 ·rw [upd_ne fun z => by rw [z,hn] at q; cases q]; exact n
 ·rw [upd_ne (qO q fr)]; exact q
 ·rw [upd_ne (qO q fr)]; exact q
 ·rw [upd_ne (qO q fr),q]; simp
 ·by_cases hb:b = e
  ·subst hb; rw [upd_same] at q; cases q; exact V8 (t:=t) ht
  ·rw [upd_ne hb] at q
   exact (I.hok b u q).stay (fun c v _ q => k c v q) (fun c q => by rw [upd_ne (qO q fr)]; exact q) fun c xs q => by rw [upd_ne (qO q fr)]; exact q
abbrev jM (n:Int):Prop:=n.natAbs.log2 < 1920∧(Str.ofString (toString n)).length≤10000
def spI (C:Addr):Sp:=fun vs H Q _ => ∃ a n,vs = [.ref a, .int n]∧jM n∧H a = some (excO a C none)∧∀ d,H d = none→Q .non (upd (upd H d (.xd [("part", .int n)])) a (excO a C (some d)))
structure ExcD (P:Program) (w:World) (K:PySem.W.Frag) (mg:Str→Option Value) (base:Heap) (x:Str) (C:Addr) (k:Nat):Prop where
 b:mg x = some (.ref C)
 ex:∃ f fd,ExcK K C f∧Binds K fd ["self", "part"] []∧FnOk P w K mg base CX0 k f fd ["self", "part"] (spI C)
def X8 (x:Str) (t:TA):TS:=fun D σ H => t σ H fun vs H1 => ∃ n,vs = [.int n]∧jM n∧∀ d,H1 d = none→D.bk (some (.str x) :: some (.int n) :: σ) (upd H1 d (.xd [("part", .int n)]))
theorem QJ {X:Cx} {x:Str} {C:Addr} {kk:Nat} {np cpos pos:Pos} {e:Expr} {es:List Expr} {ta:TA} (hc:X.calm = true) (hx:X.ex = []) (O:ExcD X.prog X.w X.K X.mg X.base x C kk) (hr:Room (kk + 1) X.A) (ha:QA X.nox (e :: es) ta) (hg:Gl X x:=by rfl)
  (hdb:(x == ("__debug__" : Str)) = false:=by decide) (he:starEach (e :: es) X.env = (false,eval e X.env) :: starEach es X.env:=by rfl) (hpl:(backTo cpos (starEach es X.env)).any (·.1) = false:=by rfl) :
  QX True X (.Raise (some (.Call (.Name x np) (e :: es) [] cpos)) none pos) (X8 x ta):=⟨fun pins s σ H D k I h => by
 obtain ⟨f,fd,ck,hb,F⟩:=O.ex
 have hh:=I.ok.hd hc
 refine PySem.W.Raise_I (C:=C) (f:=f) hh (by rw [he]; show (false || (backTo cpos (starEach es X.env)).any (·.1)) = false; rw [hpl]; rfl) (xn I hg O.b ⟨rfl, ?_⟩ hdb)
 have h1:=ha.h cpos pins s σ H _ (I.wish _) h
 rw [he] at h1 ⊢
 refine Calls.evalArgs_plain (wpAny_mono h1 (fun us s₂ ⟨xs,H1,I1,r,n,ev,hn,q⟩ => ?_) fun _ _ z => False.elim z)
 subst ev
 have I2:=I1.unwish
 have hl1:us.length = 1:=by rw [← r.length]; rfl
 refine ⟨rfl,by show us.length≤_; rw [hl1,sizeLine_eq]; omega,PySem.W.excI_of I2.kIn ck.i,fun h' e' hm => ?_⟩
 obtain ⟨fr,J⟩:=I2.exc hm
 have r2:Vals [V.ref e',V.int n] (Value.ref e' :: us):=.cons rfl r
 refine wpAny_call (codeAny_mono (F.run _ X.stack _ _ ⟨Value.ref e' :: us, []⟩ (Value.ref e' :: us) _ (fun v H2 => v = .non∧∃ d,H1 d = none∧d≠e'∧H2 = upd (upd (upd H1 e' (excO e' C none)) d (.xd [("part", .int n)])) e' (excO e' C (some d))) E0 (hr.make C us [])
  (J.env0.make C us []) (by simpa using hb _ (Value.ref e' :: us) J.kIn (by simp [hl1])) r2 ⟨e',n,rfl,hn,upd_same,fun d hd => ⟨rfl,d, ?_, ?_,rfl⟩⟩) fun rr s' hq' => ?_)
 ·by_cases z:d = e'
  ·subst z; rw [upd_same] at hd; cases hd
  ·rwa [upd_ne z] at hd
 ·intro z; subst z; rw [upd_same] at hd; cases hd
 ·cases rr with
  | error e => exact False.elim hq'
  | ok fl =>
   cases fl with
   | ret u =>
    obtain ⟨v,H2,I3,rv,ev,d,hd1,hd2,eH⟩:=J.after hq'
    subst ev eH
    obtain ⟨t,ht⟩:=jF I3.hok (upd_same (H:=upd (upd H1 e' (excO e' C none)) d (.xd [("part", .int n)])) (o:=excO e' C (some d)))
    refine ⟨rv,some d,t,PySem.W.excI_of I3.kIn ck.i,ht, ?_⟩
    refine k.2 trivial pins σ _ _ e' C (some d) I3 upd_same (I2.none0 (by rw [hx]; simp) hm.new) ⟨x,some n,O.b,⟨d,rfl, ?_⟩, ?_⟩
    ·rw [xM hd2,upd_ne hd2,upd_same]
    ·have eU:untr (upd (upd (upd H1 e' (excO e' C none)) d (.xd [("part", .int n)])) e' (excO e' C (some d))) e' = upd H1 d (.xd [("part", .int n)]):=by
      funext b
      unfold untr upd
      by_cases z:b = e'
      ·subst z; simp only [if_true]; rw [if_neg (Ne.symm hd2),fr]
      ·simp only [z,if_false]
     rw [eU]
     exact q d hd1
   | next => exact False.elim hq'
   | brk => exact False.elim hq'
   | cont => exact False.elim hq'⟩
section
variable {P:Program} {w:World} {K:PySem.W.Frag} {mg:Str→Option Value} {base:Heap}
def bkX (n:Nat) (mg:Str→Option Value) (E:XK):St→Hp→Prop:=fun τ H' => ∃ nm p σ',τ = some (.str nm) :: some (pV p) :: σ'∧σ'.length = n∧∀ C d,mg nm = some C→PartIs d H' p→E C d H'
theorem bkX.ex {n:Nat} {E:XK} {Q:VK} {nx:St→Hp→Prop} {σ:St} {C:Value} {H':Hp} {d:Option Addr} (h:EX mg { nx:=nx,rt:=Q,bk:=bkX n mg E } σ C d H'):E C d H':=by
 obtain ⟨nm,p,hm,hp,nm',p',σ',e,_,k⟩:=h
 simp only [List.cons.injEq,Option.some.injEq,V.str.injEq] at e
 exact k C d (e.1 ▸ hm) (pV_inj e.2.1 ▸ hp)
theorem Fun.okX {x qual:Str} {st:Stmt} {f:Addr} {fd:FuncData} {N ps:List Str} {k:Nat} {sp:Sp} (F:Fun K x qual st f fd) (S:FnScope N ps (qc st)) (len:∀ vs H Q E,sp vs H Q E→vs.length = ps.length)
  (hbody:∀ (cdv:Value) (A:Around) (outer:List Env) (s:Shared) (H:Hp) (vs:List V) (Q:VK) (E:XK),Room k (A.deeper (envOfC qual (qc st) s.heap.objs.size f cdv))→sp vs H Q E →
   ∃ t,QXs True (cxOf (CXe P w) P w K mg base N qual (qc st) f cdv A outer s H E) (qg st) t∧t { nx:=fun _ H' => Q .non H',rt:=Q,bk:=bkX N.length mg E } (start N vs) H):FnOk P w K mg base (CXe P w) (k + 1) f fd ps sp:=by
 obtain ⟨oc,od,kV,doc,pm,an,cdv,ct,osl,rfl,lk,hcd⟩:=F.ex
 refine fn_of lk hcd S len fun A outer s H vs Q E hr hsp => ?_
 obtain ⟨t,h,q⟩:=hbody cdv A outer s H vs Q E hr hsp
 refine ⟨fun D σ H1 => D = { nx:=fun _ H' => Q .non H',rt:=Q }∧t { nx:=fun _ H' => Q .non H',rt:=Q,bk:=bkX N.length mg E } σ H1,fun pins s1 σ H1 D I hd => ?_,rfl,q⟩
 obtain ⟨rfl,hd⟩:=hd
 have Y:Body (cxOf (CXe P w) P w K mg base N qual (qc st) f cdv A outer s H E) outer:=⟨rfl,rfl,rfl,rfl⟩
 refine wpAny_mono (h.h pins s1 σ H1 _ ⟨fun σ pins H s e s' I hx => ?_,fun _ pins σ H s e C d I hm h0 hx => ?_⟩ I hd) (fun fl s' z => ?_) fun _ _ z => z
 ·exact J5 Y I I.ok.frames (hx.mono fun C d H' z => bkX.ex z)
 ·exact VW Y I I.ok.frames hm h0 (bkX.ex hx)
 ·cases fl with
  | next => exact z
  | ret u => exact z
  | cont => exact z
  | brk =>
   obtain ⟨σ',H',I',nm,p,σ'',e,hl,_⟩:=z
   have:=I'.len
   rw [e,List.length_cons,List.length_cons,hl] at this
   exact absurd this (by show N.length + 1 + 1≠N.length; omega)
end
section
variable {P:Program} {w:World} {outer:List Env} {H H':Hp} {s s':Shared} {a:Addr} {C:Value} {d:Option Addr}
theorem Fli.un (F:Fli P w outer H s a C d H' s'):Un (frs outer) [] H H' s.heap s'.heap∧HOk P w H' s'.heap:=by
 obtain ⟨B,a0,fl,hok,nb,kp,th⟩:=F.fly
 refine ⟨⟨fun b o q n hb _ => fl.1 b o (kp b o q n hb),fun b o q n hb _ => F.up b o q n hb,fun b o q n _ => F.free b o q n,fun b o q _ => ?_,F.tups,F.frzs,F.tbls⟩,hok.kept fl.1⟩
 cases hb:H b with
 | some u =>
  obtain ⟨o',e⟩:=th b o q (by rw [hb]; simp)
  exact ⟨o',fl.1 b o' e⟩
 | none =>
  by_cases hf:b ∈ frs outer
  ·obtain ⟨sl,e⟩:=F.up b o q hb hf
   exact ⟨_,e⟩
  ·exact ⟨o,fl.1 b o (kp b o q hb hf)⟩
theorem Fli.inv {X:Cx} {pins:List (Addr × Obj)} {σ:St} (I:Inv X pins σ H s) (F:Fli X.prog X.w X.stack H s a C d H' s'):Inv X pins σ H' s' :=
 I.call' F.os F.un.1 F.un.2 F.bare (ch:=[]) fun b z => absurd z (by simp)
theorem Fli.step (F:Fli P w outer H s a C d H' s'):∃ B a0,Heap.FlyingW B outer a C a0 s'.heap∧∀ h',Heap.FlyingW B outer a C a0 h'→s'.heap.UpToSlots h'→Obk s'.heap h'→Fli P w outer H s a C d H' { s' with heap:=h' }:=by
 obtain ⟨B,a0,fl,hok,nb,kp,th⟩:=F.fly
 refine ⟨B,a0,fl,fun h' fl' up kd => ⟨fun o q => by
  obtain ⟨o1,e1,_⟩:=fl.there
  exact (kd.get (d:=0) e1 q).trans (F.own o1 e1),F.os,F.bare,⟨B,a0,fl',hok,nb,kp,th⟩,fun b o q n hb => ?_,F.free,F.tups,F.frzs,F.tbls⟩⟩
 obtain ⟨sl,e⟩:=F.up b o q n hb
 obtain ⟨_,o',ho',hd⟩:=fl.2.2.1.mem (show b ∈ outer.filterMap (·.frame) from hb)
 rw [e] at ho'; cases ho'
 obtain ⟨sl2,e2⟩:=up b _ e hd
 exact ⟨sl2,e2⟩
theorem Fli.ty {M:Model} (F:Fli P w outer H s a C d H' s'):PySem.W.Looks M s'.heap (typeOf (.ref a)) C:=by
 obtain ⟨B,a0,fl,_⟩:=F.fly
 obtain ⟨ob,hob,hc⟩:=fl.there
 subst hc
 exact (PySem.W.Looks.ld hob).andThen .now
end
abbrev Cx.caught (X:Cx) (a:Addr):Cx:={ X with A:=X.A.mark (some (.ref a)),calm:=false,xe:=fun _ _ => False }
section
variable {X:Cx} {pins:List (Addr × Obj)} {σ:St} {H:Hp} {s:Shared} {a:Addr}
theorem Inv.caught (I:Inv X pins σ H s) (a:Addr):Inv (X.caught a) pins σ H s :=
 ⟨⟨I.ok.mod,I.ok.kind,I.ok.glob,I.ok.blt,I.ok.above,I.ok.inj,I.ok.has,I.ok.cab,(fun z => nomatch z),I.ok.frames,I.ok.stk,I.ok.exf,I.ok.bs,I.ok.bsz,I.ok.noex,I.ok.exfs,I.ok.funs,I.ok.frf⟩,I.os,I.bare,I.base,I.loc,I.cell,I.free,I.freeC,I.pin,I.hok,I.len⟩
abbrev Cx.tried (X:Cx) (pins:List (Addr × Obj)) (xe:Value→Shared→Prop):Cx:={ X with pn:=X.pn ++ pins,xe:=xe }
theorem Inv.tried (I:Inv X pins σ H s) (xe:Value→Shared→Prop):Inv (X.tried pins xe) [] σ H s :=
 ⟨⟨I.ok.mod,I.ok.kind,I.ok.glob,I.ok.blt,I.ok.above,I.ok.inj,I.ok.has,I.ok.cab,I.ok.hd,I.ok.frames,I.ok.stk,I.ok.exf,I.ok.bs,I.ok.bsz,I.ok.noex,I.ok.exfs,I.ok.funs,I.ok.frf⟩,I.os,I.bare,I.base,I.loc,I.cell,I.free,I.freeC,fun p hp => I.pin p (by simpa using hp),I.hok,I.len⟩
theorem Inv.untried {pins':List (Addr × Obj)} {xe:Value→Shared→Prop} (ok:X.Ok) (I:Inv (X.tried pins xe) pins' σ H s):Inv X pins σ H s :=
 ⟨ok,I.os,I.bare,I.base,I.loc,I.cell,I.free,I.freeC,fun p hp => I.pin p (List.mem_append_left _ hp),I.hok,I.len⟩
end
structure QH (X:Cx) (hs:List ExceptHandler) (C:Value) (q:Option Int) (t:TS):Prop where
 h:∀ pins σ H1 s1 d H' s a D,Inv X pins σ H1 s1→Fli X.prog X.w X.stack H1 s1 a C d H' s→PartIs d H' q→t D σ H'→wpAny (model X.prog X.w) X.A (handleBy (.ref a) X.env hs) (SP X pins D) X.xe s
def tTry (n:Nat) (tb:TS) (l:List (Str × (Option Int→TS))):TS:=fun D σ H => tb { D with bk:=fun τ H' => ∃ nm p σ' t,τ = some (.str nm) :: some (pV p) :: σ'∧σ'.length = n∧l.lookup nm = some t∧t p D σ' H' } σ H
theorem qs_try {X:Cx} {outer:List Env} {body:List Stmt} {h0:ExceptHandler} {hs:List ExceptHandler} {pos:Pos} {tb:TS} {l:List (Str × (Option Int→TS))} (Y:Body X outer) (hb:∀ pins xe,QXs False (X.tried pins xe) body tb)
  (hh:∀ nm t C,l.lookup nm = some t→X.mg nm = some C→∀ p,QH X (h0 :: hs) C p (t p)):QS X (.Try body (h0 :: hs) [] [] pos) (tTry X.N.length tb l):=⟨fun pins s σ H D I h => by
 refine wpAny_Try_except ?_
 refine wpAny_mono ((hb pins fun e s1 => wpAny (model X.prog X.w) X.A (noteFrame e X.env) (fun _ s₂ => wpAny (model X.prog X.w) X.A (setFlight e none) (fun _ s₃ => wpAny (model X.prog X.w) X.A (handleBy e X.env (h0 :: hs)) (SP X pins D) X.xe s₃) X.xe s₂) X.xe s1).h [] s σ H _ ⟨fun σ1 pins' H1 s1 e s' IY hx => ?_,fun z => z.elim⟩ (I.tried _) h) (fun f s1 q => ?_) fun _ _ z => z
 ·obtain ⟨a,C,d,H',rfl,F,nm,p,hm,hp,nm',p',σ',t,e,hl,ht,q⟩:=hx
  simp only [List.cons.injEq,Option.some.injEq,V.str.injEq] at e
  obtain ⟨rfl,ep,rfl⟩:=e
  obtain rfl:=pV_inj ep
  have I1:Inv X pins σ1 H1 s1:=IY.untried I.ok
  have F:Fli X.prog X.w X.stack H1 s1 a C d H' s':=F
  obtain ⟨B,a0,fl,st⟩:=F.step
  have hA:X.A.frames = some (X.env :: outer):=by rw [← Y.stk]; exact I.ok.frames
  rw [Y.stk] at fl
  refine wpAny_mono (DK.any (K7 _ _) (wpAny_looks_onW hA Y.fr fl (Q:=fun _ s2 => (Heap.HeldW B (X.env :: outer) a C a0 X.env.locals s2.heap∧s'.heap.UpToSlots s2.heap)∧∃ h',s2 = { s' with heap:=h' }) (E:=fun _ _ => False) fun h' x1 x4 => ⟨⟨x1,x4⟩,h',rfl⟩)) (fun _ s2 z => ?_) fun _ _ q => q.1.elim
  obtain ⟨⟨⟨held,up1⟩,h1,rfl⟩,kd1⟩:=z
  refine wpAny_mono (DK.any (xo _ _) (wpAny_landsW (s:={ s' with heap:=h1 }) held (Q:=fun _ s2 => (Heap.FlyingW B (X.env :: outer) a C a0 s2.heap∧h1.UpToSlots s2.heap)∧∃ h',s2 = { s' with heap:=h' }) (E:=fun _ _ => False) fun h' x1 x4 => ⟨⟨x1,x4⟩,h',rfl⟩)) (fun _ s2 z => ?_) fun _ _ q => q.1.elim
  obtain ⟨⟨⟨fl2,up2⟩,h2,rfl⟩,kd2⟩:=z
  exact (hh nm t C ht hm p).h pins σ1 H1 s1 d H' _ a D I1 (st h2 (by rw [Y.stk]; exact fl2) (up1.trans up2) (kd1.trans kd2)) hp q
 ·cases f with
  | next => obtain ⟨σ',H2,I2,q⟩:=q; exact wpAny_execs_nil ⟨σ',H2,I2.untried I.ok,q⟩
  | cont => obtain ⟨σ',H2,I2,q⟩:=q; exact ⟨σ',H2,I2.untried I.ok,q⟩
  | ret u => obtain ⟨v,σ',H2,I2,r,q⟩:=q; exact ⟨v,σ',H2,I2.untried I.ok,r,q⟩
  | brk =>
   obtain ⟨σ',H2,I2,nm,p,σ'',t,e,hl,_⟩:=q
   have:=I2.len
   rw [e,List.length_cons,List.length_cons,hl] at this
   exact absurd this (by show X.N.length + 1 + 1≠X.N.length; omega)⟩
section
variable {X:Cx} {pins:List (Addr × Obj)} {σ:St} {H:Hp} {s:Shared}
theorem jS {M:Model} {A:Around} {E:Value→Shared→Prop} {i:Nat} {x:Str} {pos:Pos} {Q:Unit→Shared→Prop} (I:Inv X pins σ H s) (hN:X.N.Nodup) (hi:X.N[i]? = some x) (hk:X.env.scope.names.lookup x = some .local)
  (h:∀ s',Inv X pins (σ.set i none) H s'→Q () s'):wpAny M A (do bindName X.env x .none; unbindBehindTheSuite X.env x pos) Q E s:=by
 obtain ⟨m,hn,hl⟩:=id I.loc
 have hcls:(X.env.scope.kind == .class || (X.env.scope.kind == .module && X.env.locals != X.env.globals)) = false:=by rw [I.ok.kind]; rfl
 have cne:=I.cne
 obtain ⟨oL,_,_,hoL,_⟩:=id hn
 refine wpAny_nameGoes_keeps hk hn hcls fun h' v hn' hs => h _ ⟨I.ok,I.os,I.bare,⟨fun b o e n hb hx => ?_,fun b o e n hb hx => ?_,I.base.free,fun b o e hx => ?_,I.base.tups,I.base.frzs,I.base.tbls⟩,⟨_,hn',fun j y v' e1 e2 e3 => ?_⟩,fun y c e => ?_,I.free,I.freeC,fun p hp => ?_,fun b ob e => ?_,by simpa using I.len⟩
 ·exact (hs.2 b (Nat.ne_of_lt (Nat.lt_of_lt_of_le (Heap.lt_size e) I.ok.above))).trans (I.base.keep b o e n hb hx)
 ·obtain ⟨sl,e1⟩:=I.base.slot b o e n hb hx
  exact ⟨sl,(hs.2 b (Nat.ne_of_lt (Nat.lt_of_lt_of_le (Heap.lt_size e) I.ok.above))).trans e1⟩
 ·obtain ⟨o',e1⟩:=I.base.there b o e hx
  exact ⟨o',(hs.2 b (Nat.ne_of_lt (Nat.lt_of_lt_of_le (Heap.lt_size e) I.ok.above))).trans e1⟩
 ·have hj:j≠i:=fun z => by
   subst z
   rw [List.getElem?_set] at e2
   simp only [if_true] at e2
   split at e2 <;> cases e2
  rw [List.getElem?_set_ne (Ne.symm hj)] at e2
  obtain ⟨u',r',q⟩:=hl j y v' e1 e2 e3
  refine ⟨u',r', ?_⟩
  rcases q with ⟨k,e⟩ | ⟨k,c,e,z⟩
  ·refine .inl ⟨k, ?_⟩
   have:y≠x:=fun e => hj (kM hN e1 (e ▸ hi))
   simp [this,e]
  ·exact .inr ⟨k,c,e,z.sameBut hs (cne y c e)⟩
 ·obtain ⟨w',z⟩:=I.cell y c e
  exact ⟨w',z.sameBut hs (cne y c e)⟩
 ·obtain ⟨e,n,ne,nf,d⟩:=I.pin p hp
  exact ⟨(hs.2 p.1 ne).trans e,n,ne,nf,d⟩
 ·refine (I.hok b ob e).stay (fun c w' hc q => (hs.2 c ?_).trans q) (fun _ q => q) fun _ _ q => q
  rintro rfl
  have hfree:=I.free
  rcases hc with rfl | hc
  ·rw [hfree] at e; cases e
  ·rw [hfree] at hc; cases hc
theorem Fli.new {H1 H':Hp} {s1 s':Shared} {a:Addr} {C:Value} {d:Option Addr} (F:Fli X.prog X.w X.stack H1 s1 a C d H' s'):s1.heap.get? a = none∧H' a = none∧∃ oe vs,s'.heap.get? a = some oe∧oe.cls = C∧oe.dict = d∧oe.data = .fields vs:=by
 obtain ⟨B,a0,fl,hok,nb,kp,th⟩:=F.fly
 obtain ⟨oe,vs,T,oT,ts,he,hc,hd,_⟩:=fl.2.2.2
 refine ⟨?_, ?_,oe,vs,he,hc.1,F.own oe he,hd⟩
 ·cases z:s1.heap.get? a with
  | none => rfl
  | some o =>
   exfalso
   have hn:=fl.2.1
   by_cases hH:H1 a = none
   ·by_cases hf:a ∈ frs X.stack
    ·obtain ⟨_,o',ho',hd'⟩:=fl.2.2.1.mem (show a ∈ X.stack.filterMap (·.frame) from hf)
     rw [he] at ho'; cases ho'
     exact hd' vs hd
    ·rw [kp a o z hH hf] at hn; cases hn
   ·obtain ⟨o',q⟩:=th a o z hH
    rw [q] at hn; cases hn
 ·cases z:H' a with
  | none => rfl
  | some u =>
   obtain ⟨o,q⟩:=(hok a u z).here
   rw [fl.2.1] at q; cases q
theorem Fli.pinned {outer:List Env} {H1 H':Hp} {s1 s':Shared} {a:Addr} {C:Value} {d:Option Addr} {oe:Obj} {vs:Array Value} (Y:Body X outer) (I:Inv X pins σ H1 s1) (F:Fli X.prog X.w X.stack H1 s1 a C d H' s') (he:s'.heap.get? a = some oe) (hd:oe.data = .fields vs):Inv X (pins ++ [(a,oe)]) σ H' s':=by
 have J:=F.inv I
 obtain ⟨n1,n2,_⟩:=F.new
 refine J.pins_of fun p hp => ?_
 rcases List.mem_append.mp hp with hp | hp
 ·exact J.pin p (List.mem_append_right _ hp)
 ·obtain rfl:=List.mem_singleton.mp hp
  refine ⟨he,n2,fun z => ?_,fun z => ?_,fun v z => ?_⟩
  ·obtain ⟨m,⟨o,_,_,ho,_⟩,_⟩:=I.loc
   have z:a = X.env.locals:=z
   rw [← z,n1] at ho; cases ho
  ·obtain ⟨_,o',ho',_⟩:=I.ok.funs.mem (show a ∈ X.outer.filterMap (·.frame) from z)
   obtain ⟨o2,q⟩:=I.base.there a o' ho' (by rw [Y.ex]; simp)
   rw [n1] at q; cases q
  ·have z:oe.data = .cell v:=z
   rw [hd] at z; cases z
end
end L2
namespace PySem
theorem Paired.of_get {α β:Type} {F:α→β→Prop}:∀ {l:List α} {m:List β},l.length = m.length→(∀ (i:Nat) x y,l[i]? = some x→m[i]? = some y→F x y)→Paired F l m
 | [], [],_,_ => .nil
 | [],_ :: _,h,_ => by simp at h
 | _ :: _, [],h,_ => by simp at h
 | x :: l,y :: m,h,r => .cons (r 0 x y rfl rfl) (Paired.of_get (by simpa using h) fun i a b ha hb => r (i + 1) a b (by simpa using ha) (by simpa using hb))
theorem Paired.len {α β:Type} {F:α→β→Prop}:∀ {l:List α} {m:List β},Paired F l m→l.length = m.length
 | _,_, .nil => rfl
 | _,_, .cons _ t => by rw [List.length_cons,List.length_cons,Paired.len t]
theorem Paired.get2 {α β:Type} {F:α→β→Prop}:∀ {l:List α} {m:List β} {i:Nat} {x:α} {y:β},Paired F l m→l[i]? = some x→m[i]? = some y→F x y
 | _,_,_,_,_, .nil,h,_ => by simp at h
 | _,_,0,_,_, .cons r _,h,k => by simp at h k; subst h k; exact r
 | _,_,i + 1,_,_, .cons _ t,h,k => Paired.get2 (i:=i) t (by simpa using h) (by simpa using k)
theorem Paired.getR {α β:Type} {F:α→β→Prop} {l:List α} {m:List β} {i:Nat} {y:β} (h:Paired F l m) (e:m[i]? = some y):∃ x,l[i]? = some x∧F x y:=by
 have hl:=h.len
 have hi:=(List.getElem?_eq_some_iff.mp e).1
 have hx:l[i]? = some (l[i]'(by omega)):=List.getElem?_eq_getElem (by omega)
 exact ⟨_,hx,h.get2 hx e⟩
theorem Paired.getL {α β:Type} {F:α→β→Prop} {l:List α} {m:List β} {i:Nat} {x:α} (h:Paired F l m) (e:l[i]? = some x):∃ y,m[i]? = some y∧F x y:=by
 have hl:=h.len
 have hi:=(List.getElem?_eq_some_iff.mp e).1
 have hx:m[i]? = some (m[i]'(by omega)):=List.getElem?_eq_getElem (by omega)
 exact ⟨_,hx,h.get2 e hx⟩
theorem Paired.app {α β:Type} {F:α→β→Prop}:∀ {l l':List α} {m m':List β},Paired F l m→Paired F l' m'→Paired F (l ++ l') (m ++ m')
 | _,_,_,_, .nil,h => h
 | _,_,_,_, .cons r t,h => .cons r (Paired.app t h)
theorem Paired.put {α β:Type} {F:α→β→Prop} {x:α} {y:β} (r:F x y):∀ {l:List α} {m:List β} (i:Nat),Paired F l m→Paired F (l.set i x) (m.set i y)
 | _,_,_, .nil => .nil
 | _,_,0, .cons _ t => .cons r t
 | _,_,i + 1, .cons q t => .cons q (Paired.put r i t)
theorem Paired.tk {α β:Type} {F:α→β→Prop}:∀ {l:List α} {m:List β} (n:Nat),Paired F l m→Paired F (l.take n) (m.take n)
 | _,_,0,_ => .nil
 | _,_,_ + 1, .nil => .nil
 | _,_,n + 1, .cons r t => .cons r (Paired.tk n t)
theorem Paired.dr {α β:Type} {F:α→β→Prop}:∀ {l:List α} {m:List β} (n:Nat),Paired F l m→Paired F (l.drop n) (m.drop n)
 | _,_,0,r => r
 | _,_,_ + 1, .nil => .nil
 | _,_,n + 1, .cons _ t => Paired.dr n t
theorem Paired.erase {α β:Type} {F:α→β→Prop}:∀ {l:List α} {m:List β} (n:Nat),Paired F l m→Paired F (l.eraseIdx n) (m.eraseIdx n)
 | _,_,_, .nil => .nil
 | _,_,0, .cons _ t => t
 | _,_,n + 1, .cons r t => .cons r (Paired.erase n t)
theorem Paired.mapR {α β γ:Type} {F:α→β→Prop} {G:α→γ→Prop} {f:β→γ} (h:∀ a b,F a b→G a (f b)):∀ {l:List α} {m:List β},Paired F l m→Paired G l (m.map f)
 | _,_, .nil => .nil
 | _,_, .cons r t => .cons (h _ _ r) (Paired.mapR h t)
theorem Paired.unmapR {α β γ:Type} {F:α→β→Prop} {G:α→γ→Prop} {f:β→γ} (h:∀ a b,G a (f b)→F a b):∀ {m:List β} {l:List α},Paired G l (m.map f)→Paired F l m
 | [],_, .nil => .nil
 | _ :: m,_, .cons r t => .cons (h _ _ r) (Paired.unmapR h (m:=m) t)
theorem Paired.empt {α β:Type} {F:α→β→Prop} {l:List α} {m:List β} (h:Paired F l m):l.isEmpty = m.isEmpty:=by cases h <;> rfl
end PySem
namespace L2
open PySem PySem.Spec PyProof.Rows
inductive T where
 | non | bl (b:Bool) | int (i:Int) | str (x:Str) | tup (xs:List T) | lst (xs:List T)
inductive U where
 | p (t:T) | m (k:Nat) | x (a:Addr) (d:Option Addr) (q:Option Int)
inductive MO where
 | lst (us:List U) | tup (us:List U) | ins (C:Addr) (fs:List (Str × U)) | dK (kvs:List (Key × U))
abbrev MM:=List MO
abbrev UEnv:=List (Option U)
inductive RepT (A:Addr→Prop) (H:Hp):V→T→Prop
 | non:RepT A H .non .non
 | bl (b:Bool):RepT A H (.bl b) (.bl b)
 | int (i:Int):RepT A H (.int i) (.int i)
 | str (x:Str):RepT A H (.str x) (.str x)
 | tup {p:Addr} {vs:List V} {ts:List T} (na:¬ A p) (e:H p = some (.tup vs)) (l:vs.length = ts.length) (r:∀ (i:Nat) v t,vs[i]? = some v→ts[i]? = some t→RepT A H v t):RepT A H (.ref p) (.tup ts)
 | lst {p:Addr} {vs:List V} {ts:List T} (na:¬ A p) (e:H p = some (.lst vs)) (l:vs.length = ts.length) (r:∀ (i:Nat) v t,vs[i]? = some v→ts[i]? = some t→RepT A H v t):RepT A H (.ref p) (.lst ts)
section
variable {A A':Addr→Prop} {H H':Hp} {v:V} {t:T} {ι ι':List Addr} {M:MM} {u:U} {σ:St} {ρ:UEnv}
abbrev RepTs (A:Addr→Prop) (H:Hp):List V→List T→Prop:=Paired (RepT A H)
theorem RepT.tupP {p:Addr} {vs:List V} {ts:List T} (na:¬ A p) (e:H p = some (.tup vs)) (r:RepTs A H vs ts):RepT A H (.ref p) (.tup ts):=.tup na e r.len fun i v t h k => r.get2 h k
theorem RepT.lstP {p:Addr} {vs:List V} {ts:List T} (na:¬ A p) (e:H p = some (.lst vs)) (r:RepTs A H vs ts):RepT A H (.ref p) (.lst ts):=.lst na e r.len fun i v t h k => r.get2 h k
theorem RepT.mono (h:∀ x o,¬ A x→H x = some o→H' x = some o∧¬ A' x) (r:RepT A H v t):RepT A' H' v t:=by
 induction r with
 | non => exact .non
 | bl b => exact .bl b
 | int i => exact .int i
 | str x => exact .str x
 | tup na e l r ih => exact .tup (h _ _ na e).2 (h _ _ na e).1 l ih
 | lst na e l r ih => exact .lst (h _ _ na e).2 (h _ _ na e).1 l ih
theorem RepT.tup_inv {ts:List T} (r:RepT A H v (.tup ts)):∃ p vs,v = .ref p∧¬ A p∧H p = some (.tup vs)∧RepTs A H vs ts:=by
 cases r with
 | tup na e l r => exact ⟨_,_,rfl,na,e,Paired.of_get l r⟩
theorem RepT.lst_inv {ts:List T} (r:RepT A H v (.lst ts)):∃ p vs,v = .ref p∧¬ A p∧H p = some (.lst vs)∧RepTs A H vs ts:=by
 cases r with
 | lst na e l r => exact ⟨_,_,rfl,na,e,Paired.of_get l r⟩
def Av (A:Addr→Prop) (ι:List Addr):Addr→Prop:=fun x => A x∨x ∈ ι
def PartX (ι:List Addr) (H:Hp) (d:Option Addr):Option Int→Prop
 | none => d = none
 | some n => ∃ x0,d = some x0∧x0 ∉ ι∧H x0 = some (.xd [("part", .int n)])
inductive RepU (A:Addr→Prop) (ι:List Addr) (H:Hp):V→U→Prop
 | p {v:V} {t:T} (r:RepT (Av A ι) H v t):RepU A ι H v (.p t)
 | m {k:Nat} {a:Addr} (e:ι[k]? = some a):RepU A ι H (.ref a) (.m k)
 | x {a:Addr} {d:Option Addr} {q:Option Int} (h:PartX ι H d q):RepU A ι H (.ref a) (.x a d q)
abbrev RepUs (A:Addr→Prop) (ι:List Addr) (H:Hp):List V→List U→Prop:=Paired (RepU A ι H)
def ObjR (A:Addr→Prop) (ι:List Addr) (H:Hp) (a:Addr):MO→Prop
 | .lst us => ∃ vs,H a = some (.lst vs)∧RepUs A ι H vs us
 | .tup us => ∃ vs,H a = some (.tup vs)∧RepUs A ι H vs us
 | .ins C fs => ∃ dx gs,H a = some (.ins C dx gs)∧H dx = some (.own a)∧dx ∉ ι∧Paired (fun (g:Str × V) (f:Str × U) => g.1 = f.1∧RepU A ι H g.2 f.2) gs fs
 | .dK kvs => ∃ gs,H a = some (.dK gs)∧Paired (fun (g:Key × V) (f:Key × U) => g.1 = f.1∧RepU A ι H g.2 f.2) gs kvs
structure Wd (A:Addr→Prop) (ι:List Addr) (H:Hp) (M:MM):Prop where
 nd:ι.Nodup
 len:ι.length = M.length
 dom:∀ x,A x→H x≠none
 na:∀ x ∈ ι,¬ A x
 obj:∀ (k:Nat) a o,ι[k]? = some a→M[k]? = some o→ObjR A ι H a o
structure Le (ι:List Addr) (H:Hp) (ι':List Addr) (H':Hp):Prop where
 ext:∃ n,ι' = ι ++ n∧∀ x ∈ n,H x = none
 fr:∀ x o,H x = some o→x ∉ ι→H' x = some o
 al:∀ x,H x≠none→H' x≠none
theorem Le.refl (ι:List Addr) (H:Hp):Le ι H ι H:=⟨⟨[],by simp,by simp⟩,fun _ _ h _ => h,fun _ h => h⟩
theorem Le.trans {ι2:List Addr} {H2:Hp} (a:Le ι H ι' H') (b:Le ι' H' ι2 H2):Le ι H ι2 H2:=by
 obtain ⟨n,rfl,hn⟩:=a.ext
 obtain ⟨m,rfl,hm⟩:=b.ext
 have key:∀ x,H x≠none→x ∉ ι→x ∉ ι ++ n:=fun x hx h z => by
  rcases List.mem_append.mp z with z | z
  ·exact h z
  ·exact hx (hn x z)
 refine ⟨⟨n ++ m,by rw [List.append_assoc],fun x hx => ?_⟩,fun x o e h => b.fr x o (a.fr x o e h) (key x (by rw [e]; simp) h),fun x h => b.al x (a.al x h)⟩
 rcases List.mem_append.mp hx with z | z
 ·exact hn x z
 ·cases q:H x with
  | none => rfl
  | some o => exact absurd (hm x z) (a.al x (by rw [q]; simp))
theorem Le.av (l:Le ι H ι' H') {x:Addr} {o:HO} (h:¬ Av A ι x) (e:H x = some o):H' x = some o∧¬ Av A ι' x:=by
 obtain ⟨n,rfl,hn⟩:=l.ext
 refine ⟨l.fr x o e fun z => h (.inr z),fun z => ?_⟩
 rcases z with z | z
 ·exact h (.inl z)
 ·rcases List.mem_append.mp z with z | z
  ·exact h (.inr z)
  ·rw [hn x z] at e; cases e
theorem RepT.le (l:Le ι H ι' H') (r:RepT (Av A ι) H v t):RepT (Av A ι') H' v t:=r.mono fun _ _ h e => l.av h e
theorem PartX.le {d:Option Addr} {q:Option Int} (l:Le ι H ι' H') (h:PartX ι H d q):PartX ι' H' d q:=by
 cases q with
 | none => exact h
 | some n =>
  obtain ⟨x0,e,ni,hx⟩:=h
  obtain ⟨m,rfl,hm⟩:=l.ext
  refine ⟨x0,e,fun z => ?_,l.fr x0 _ hx ni⟩
  rcases List.mem_append.mp z with z | z
  ·exact ni z
  ·rw [hm x0 z] at hx; cases hx
theorem RepU.le (l:Le ι H ι' H') (r:RepU A ι H v u):RepU A ι' H' v u:=by
 cases r with
 | p r => exact .p (r.le l)
 | m e =>
  obtain ⟨n,rfl,_⟩:=l.ext
  exact .m (by rw [List.getElem?_append_left (List.getElem?_eq_some_iff.mp e).1]; exact e)
 | x h => exact .x (h.le l)
theorem RepUs.le {vs:List V} {us:List U} (l:Le ι H ι' H') (r:RepUs A ι H vs us):RepUs A ι' H' vs us:=Paired.mapP r fun _ _ q => q.le l
theorem ObjR.some {a:Addr} {o:MO} (r:ObjR A ι H a o):∃ h,H a = some h:=by
 cases o with
 | lst => obtain ⟨vs,e,_⟩:=r; exact ⟨_,e⟩
 | tup => obtain ⟨vs,e,_⟩:=r; exact ⟨_,e⟩
 | ins => obtain ⟨_,_,e,_⟩:=r; exact ⟨_,e⟩
 | dK => obtain ⟨_,e,_⟩:=r; exact ⟨_,e⟩
theorem ObjR.le' {a:Addr} {o:MO} (l:Le ι H ι' H') (ea:H' a = H a) (eo:∀ x,H x = Option.some (.own a)→H' x = H x) (r:ObjR A ι H a o):ObjR A ι' H' a o:=by
 cases o with
 | lst => obtain ⟨vs,e,r⟩:=r; exact ⟨vs,by rw [ea]; exact e,Paired.mapP r fun _ _ q => q.le l⟩
 | tup => obtain ⟨vs,e,r⟩:=r; exact ⟨vs,by rw [ea]; exact e,Paired.mapP r fun _ _ q => q.le l⟩
 | ins =>
  obtain ⟨dx,gs,e,ed,nd,r⟩:=r
  obtain ⟨n,rfl,hn⟩:=l.ext
  refine ⟨dx,gs,by rw [ea]; exact e,by rw [eo dx ed]; exact ed,fun z => ?_,Paired.mapP r fun _ _ q => ⟨q.1,q.2.le l⟩⟩
  rcases List.mem_append.mp z with z | z
  ·exact nd z
  ·rw [hn dx z] at ed; cases ed
 | dK => obtain ⟨gs,e,r⟩:=r; exact ⟨gs,by rw [ea]; exact e,Paired.mapP r fun _ _ q => ⟨q.1,q.2.le l⟩⟩
theorem Wd.al (w:Wd A ι H M) {k:Nat} {a:Addr} (e:ι[k]? = some a):∃ o,M[k]? = some o∧ObjR A ι H a o:=by
 have h:=(List.getElem?_eq_some_iff.mp e).1
 have e2:M[k]? = some (M[k]'(by rw [← w.len]; exact h)):=List.getElem?_eq_getElem _
 exact ⟨_,e2,w.obj k a _ e e2⟩
theorem Wd.at (w:Wd A ι H M) {k:Nat} {o:MO} (e:M[k]? = some o):∃ a,ι[k]? = some a∧ObjR A ι H a o:=by
 have h:=(List.getElem?_eq_some_iff.mp e).1
 have e2:ι[k]? = some (ι[k]'(by rw [w.len]; exact h)):=List.getElem?_eq_getElem _
 exact ⟨_,e2,w.obj k _ _ e2 e⟩
theorem Wd.mem_some (w:Wd A ι H M) {a:Addr} (h:a ∈ ι):∃ o,H a = some o:=by
 obtain ⟨k,e⟩:=List.getElem?_of_mem h
 obtain ⟨o,_,r⟩:=w.al e
 exact r.some
theorem Wd.not_own (w:Wd A ι H M) {a x:Addr} (h:a ∈ ι):H a≠some (.own x):=fun z => by
 obtain ⟨k,e⟩:=List.getElem?_of_mem h
 obtain ⟨o,_,r⟩:=w.al e
 cases o with
 | lst => obtain ⟨vs,e,_⟩:=r; rw [z] at e; cases e
 | tup => obtain ⟨vs,e,_⟩:=r; rw [z] at e; cases e
 | ins => obtain ⟨_,_,e,_⟩:=r; rw [z] at e; cases e
 | dK => obtain ⟨_,e,_⟩:=r; rw [z] at e; cases e
theorem Le.fresh {p:Addr} {o:HO} (h:H p = none):Le ι H ι (upd H p o):=⟨⟨[],by simp,by simp⟩,fun x o' e _ => xL h e,fun x e => by
 by_cases z:x = p
 ·subst z; rw [upd_same]; simp
 ·rw [upd_ne z]; exact e⟩
theorem Le.push {p:Addr} {o:HO} (h:H p = none):Le ι H (ι ++ [p]) (upd H p o):=⟨⟨[p],rfl,fun x hx => by rw [List.mem_singleton.mp hx]; exact h⟩,(Le.fresh (ι:=ι) h).fr,(Le.fresh (ι:=ι) h).al⟩
theorem Le.put {p:Addr} {o:HO} (h:p ∈ ι):Le ι H ι (upd H p o):=⟨⟨[],by simp,by simp⟩,fun x o' e n => by rw [upd_ne (fun z => n (by rw [z]; exact h))]; exact e,fun x e => by
 by_cases z:x = p
 ·subst z; rw [upd_same]; simp
 ·rw [upd_ne z]; exact e⟩
theorem Wd.fresh (w:Wd A ι H M) {p:Addr} {o:HO} (h:H p = none):Wd A ι (upd H p o) M :=
 ⟨w.nd,w.len,fun x hx => (Le.fresh (ι:=ι) h).al x (w.dom x hx),w.na,fun k a ob e1 e2 => (w.obj k a ob e1 e2).le' (.fresh h) (upd_ne fun z => by
  obtain ⟨q,hq⟩:=w.mem_some (List.mem_of_getElem? e1)
  rw [z,h] at hq; cases hq) fun x ex => upd_ne fun z => by rw [z,h] at ex; cases ex⟩
theorem Wd.nin (w:Wd A ι H M) {p:Addr} (h:H p = none):p ∉ ι:=fun z => by
 obtain ⟨q,hq⟩:=w.mem_some z
 rw [h] at hq; cases hq
theorem Wd.nA (w:Wd A ι H M) {p:Addr} (h:H p = none):¬ Av A ι p:=fun z => z.elim (fun z => w.dom p z h) (w.nin h)
theorem Wd.push (w:Wd A ι H M) {p:Addr} {o:HO} {mo:MO} (h:H p = none) (new:ObjR A (ι ++ [p]) (upd H p o) p mo):Wd A (ι ++ [p]) (upd H p o) (M ++ [mo]):=by
 have np:=w.nin h
 refine ⟨List.nodup_append.mpr ⟨w.nd,by simp,fun a ha b hb => ?_⟩,by simp [w.len],fun x hx => (Le.fresh (ι:=ι) h).al x (w.dom x hx),fun x hx => ?_,fun k a ob e1 e2 => ?_⟩
 ·rw [List.mem_singleton.mp hb]; exact fun z => np (by rw [← z]; exact ha)
 ·rcases List.mem_append.mp hx with z | z
  ·exact w.na x z
  ·rw [List.mem_singleton.mp z]; exact fun z => w.dom p z h
 ·by_cases hk:k < ι.length
  ·rw [List.getElem?_append_left hk] at e1
   rw [List.getElem?_append_left (by rw [← w.len]; exact hk)] at e2
   exact (w.obj k a ob e1 e2).le' (.push h) (upd_ne fun z => np (by rw [← z]; exact List.mem_of_getElem? e1)) fun x ex => upd_ne fun z => by rw [z,h] at ex; cases ex
  ·have hk2:=(List.getElem?_eq_some_iff.mp e1).1
   rw [List.length_append,List.length_singleton] at hk2
   have:k = ι.length:=by omega
   subst this
   rw [List.getElem?_append_right (Nat.le_refl _),Nat.sub_self] at e1
   rw [w.len,List.getElem?_append_right (Nat.le_refl _),Nat.sub_self] at e2
   simp at e1 e2
   subst e1 e2
   exact new
theorem Wd.put (w:Wd A ι H M) {k:Nat} {p:Addr} {o:HO} {mo:MO} (e:ι[k]? = some p) (new:ObjR A ι (upd H p o) p mo):Wd A ι (upd H p o) (M.set k mo):=by
 have hp:=List.mem_of_getElem? e
 refine ⟨w.nd,by rw [List.length_set]; exact w.len,fun x hx => (Le.put hp).al x (w.dom x hx),w.na,fun j a ob e1 e2 => ?_⟩
 by_cases hj:k = j
 ·subst hj
  rw [e] at e1; cases e1
  rw [List.getElem?_set_self (by rw [← w.len]; exact (List.getElem?_eq_some_iff.mp e).1)] at e2
  cases e2
  exact new
 ·rw [List.getElem?_set_ne hj] at e2
  have na:a≠p:=fun z => by
   subst z
   have h1:=List.getElem?_eq_some_iff.mp e
   have h2:=List.getElem?_eq_some_iff.mp e1
   exact hj ((List.getElem_inj w.nd).mp (h1.2.trans h2.2.symm))
  exact (w.obj j a ob e1 e2).le' (.put hp) (upd_ne na) fun x ex => upd_ne fun z => by
   rw [z] at ex; exact w.not_own hp ex
def EnvR (A:Addr→Prop) (ι:List Addr) (H:Hp):St→UEnv→Prop:=Paired fun (s:Option V) (r:Option U) => ∀ u,r = some u→∃ v,s = some v∧RepU A ι H v u
theorem EnvR.le (l:Le ι H ι' H') (r:EnvR A ι H σ ρ):EnvR A ι' H' σ ρ:=Paired.mapP r fun _ _ q u e => by
 obtain ⟨v,h1,h2⟩:=q u e
 exact ⟨v,h1,h2.le l⟩
theorem EnvR.get (r:EnvR A ι H σ ρ) {i:Nat} {u:U} (e:ρ[i]? = some (some u)):∃ v,σ[i]? = some (some v)∧RepU A ι H v u:=by
 obtain ⟨s,h1,h2⟩:=Paired.getR r e
 obtain ⟨v,rfl,h3⟩:=h2 u rfl
 exact ⟨v,h1,h3⟩
theorem EnvR.put (r:EnvR A ι H σ ρ) (i:Nat) (q:RepU A ι H v u):EnvR A ι H (σ.set i (some v)) (ρ.set i (some u)):=Paired.put (fun w e => by cases e; exact ⟨v,rfl,q⟩) i r
def Kq (bs:List Bool) (n:Nat) (ρ:UEnv):UEnv:=(bs.zip ρ).map (fun p => if p.1 then p.2 else none) ++ List.replicate n none
theorem EnvR.mask {bs:List Bool} {n:Nat} (r:EnvR A ι H σ ρ):EnvR A ι H (vE bs n σ) (Kq bs n ρ):=by
 refine Paired.app ?_ ?_
 ·induction r generalizing bs with
  | nil => simp; exact .nil
  | cons q t ih =>
   cases bs with
   | nil => exact .nil
   | cons b bs =>
    refine .cons ?_ ih
    cases b
    ·intro u e; simp at e
    ·simpa using q
 ·induction n with
  | zero => exact .nil
  | succ n ih => exact .cons (fun u e => by cases e) ih
end
abbrev UK:=U→MM→Prop
abbrev UE:=UEnv→MM→UK→Prop
abbrev UT:=UEnv→MM→(Bool→MM→Prop)→Prop
abbrev UA:=UEnv→MM→(List U→MM→Prop)→Prop
def LE (te:TE) (ue:UE):Prop:=∀ (A:Addr→Prop) (ι:List Addr) (σ:St) (H:Hp) (ρ:UEnv) (M:MM) (Qu:UK) (Q:VK),Wd A ι H M→EnvR A ι H σ ρ→ue ρ M Qu →
 (∀ u M' ι' v H',Le ι H ι' H'→Wd A ι' H' M'→RepU A ι' H' v u→Qu u M'→Q v H')→te σ H Q
def LT (tt:TT) (ut:UT):Prop:=∀ (A:Addr→Prop) (ι:List Addr) (σ:St) (H:Hp) (ρ:UEnv) (M:MM) (Qu:Bool→MM→Prop) (Q:Bool→Hp→Prop),Wd A ι H M→EnvR A ι H σ ρ→ut ρ M Qu →
 (∀ b M' ι' H',Le ι H ι' H'→Wd A ι' H' M'→Qu b M'→Q b H')→tt σ H Q
def LA (n:Nat) (ta:TA) (ua:UA):Prop:=∀ (A:Addr→Prop) (ι:List Addr) (σ:St) (H:Hp) (ρ:UEnv) (M:MM) (Qu:List U→MM→Prop) (Q:List V→Hp→Prop),Wd A ι H M→EnvR A ι H σ ρ→ua ρ M Qu →
 (∀ us M' ι' vs H',Le ι H ι' H'→Wd A ι' H' M'→us.length = n→RepUs A ι' H' vs us→Qu us M'→Q vs H')→ta σ H Q
section
variable {ta tb tc:TE} {ua ub uc:UE} {tt tt':TT} {ut ut':UT} {tl:TA} {ul:UA} {n:Nat}
def uVar (i:Nat):UE:=fun ρ M Q => ∃ u,ρ[i]? = some (some u)∧Q u M
theorem le_var (i:Nat):LE (tVar i) (uVar i):=fun A ι σ H ρ M Qu Q w e ⟨u,h,q⟩ k => by
 obtain ⟨v,h1,h2⟩:=e.get h
 exact ⟨v,h1,k u M ι v H (.refl _ _) w h2 q⟩
inductive Sc:V→T→Prop
 | non:Sc .non .non
 | bl (b:Bool):Sc (.bl b) (.bl b)
 | int (i:Int):Sc (.int i) (.int i)
 | str (x:Str):Sc (.str x) (.str x)
theorem Sc.rep {A:Addr→Prop} {H:Hp} {v:V} {t:T} (h:Sc v t):RepT A H v t:=by cases h <;> constructor
def uC (t:T):UE:=fun _ M Q => Q (.p t) M
theorem le_c {v:V} {t:T} (h:Sc v t):LE (tC v) (uC t):=fun A ι σ H ρ M Qu Q w e q k => k _ M ι v H (.refl _ _) w (.p h.rep) q
def uNil:UA:=fun _ M Q => Q [] M
def uCons (ua:UE) (ul:UA):UA:=fun ρ M Q => ua ρ M fun x M1 => ul ρ M1 fun xs M2 => Q (x :: xs) M2
theorem la_nil:LA 0 tNil uNil:=fun A ι σ H ρ M Qu Q w e q k => k [] M ι [] H (.refl _ _) w rfl .nil q
theorem la_cons (ha:LE ta ua) (hl:LA n tl ul):LA (n + 1) (vH ta tl) (uCons ua ul):=fun A ι σ H ρ M Qu Q w e q k =>
 ha A ι σ H ρ M _ _ w e q fun x M1 ι1 v H1 l1 w1 r1 q1 => hl A ι1 σ H1 ρ M1 _ _ w1 (e.le l1) q1 fun xs M2 ι2 vs H2 l2 w2 hn r2 q2 =>
  k (x :: xs) M2 ι2 (v :: vs) H2 (l1.trans l2) w2 (by rw [List.length_cons,hn]) (.cons (r1.le l2) r2) q2
def za:List U→Option (List T)
 | [] => some []
 | .p t :: r => (za r).map (t :: ·)
 | .m _ :: _ => none
 | .x _ _ _ :: _ => none
@[simp] theorem zN:∀ ts:List T,za (ts.map U.p) = some ts
 | [] => rfl
 | t :: r => by simp [za,zN r]
theorem v8:∀ {us:List U} {ts:List T},za us = some ts→us = ts.map U.p
 | [],_,h => by simp [za] at h; subst h; rfl
 | .p t :: r,ts,h => by
  simp [za] at h
  obtain ⟨a,h1,rfl⟩:=h
  rw [List.map_cons, ← v8 h1]
 | .m _ :: _,_,h => by simp [za] at h
 | .x _ _ _ :: _,_,h => by simp [za] at h
def sn (M:MM):U→Option T
 | .p t => some t
 | .m k => match M[k]? with
  | some (.lst us) => (za us).map T.lst
  | some (.tup us) => (za us).map T.tup
  | _ => none
 | .x _ _ _ => none
def sns (M:MM):List U→Option (List T)
 | [] => some []
 | u :: r => match sn M u,sns M r with
  | some t,some ts => some (t :: ts)
  | _,_ => none
inductive RepV (A:Addr→Prop) (H:Hp):V→T→Prop
 | of {v:V} {t:T} (r:RepT A H v t):RepV A H v t
 | lst {p:Addr} {vs:List V} {ts:List T} (e:H p = some (.lst vs)) (r:RepTs A H vs ts):RepV A H (.ref p) (.lst ts)
 | tup {p:Addr} {vs:List V} {ts:List T} (e:H p = some (.tup vs)) (r:RepTs A H vs ts):RepV A H (.ref p) (.tup ts)
variable {A:Addr→Prop} {H H':Hp} {ι:List Addr} {M:MM} {v:V} {u:U} {t:T}
theorem RepV.lst_inv {ts:List T} (r:RepV A H v (.lst ts)):∃ p vs,v = .ref p∧H p = some (.lst vs)∧RepTs A H vs ts:=by
 cases r with
 | of r => obtain ⟨p,vs,h1,_,h2,h3⟩:=r.lst_inv; exact ⟨p,vs,h1,h2,h3⟩
 | lst e r => exact ⟨_,_,rfl,e,r⟩
theorem RepV.tup_inv {ts:List T} (r:RepV A H v (.tup ts)):∃ p vs,v = .ref p∧H p = some (.tup vs)∧RepTs A H vs ts:=by
 cases r with
 | of r => obtain ⟨p,vs,h1,_,h2,h3⟩:=r.tup_inv; exact ⟨p,vs,h1,h2,h3⟩
 | tup e r => exact ⟨_,_,rfl,e,r⟩
theorem RepV.int_inv {i:Int} (r:RepV A H v (.int i)):v = .int i:=by cases r with | of r => cases r; rfl
theorem RepV.bl_inv {i:Bool} (r:RepV A H v (.bl i)):v = .bl i:=by cases r with | of r => cases r; rfl
theorem RepV.str_inv {i:Str} (r:RepV A H v (.str i)):v = .str i:=by cases r with | of r => cases r; rfl
theorem RepV.non_inv (r:RepV A H v .non):v = .non:=by cases r with | of r => cases r; rfl
theorem RepUs.pures {vs:List V} {ts:List T} (r:RepUs A ι H vs (ts.map U.p)):RepTs (Av A ι) H vs ts:=Paired.unmapR (fun a b q => by cases q with | p r => exact r) r
theorem RepTs.ups {vs:List V} {ts:List T} (r:RepTs (Av A ι) H vs ts):RepUs A ι H vs (ts.map U.p):=Paired.mapR (fun a b q => .p q) r
theorem RepU.sn (w:Wd A ι H M) (r:RepU A ι H v u) (e:sn M u = some t):RepV (Av A ι) H v t:=by
 cases r with
 | p r => simp [L2.sn] at e; subst e; exact .of r
 | m q =>
  obtain ⟨o,h1,h2⟩:=w.al q
  simp only [L2.sn,h1] at e
  cases o with
  | lst us =>
   simp at e
   obtain ⟨ts,e1,rfl⟩:=e
   obtain ⟨vs,h3,h4⟩:=h2
   rw [v8 e1] at h4
   exact .lst h3 h4.pures
  | tup us =>
   simp at e
   obtain ⟨ts,e1,rfl⟩:=e
   obtain ⟨vs,h3,h4⟩:=h2
   rw [v8 e1] at h4
   exact .tup h3 h4.pures
  | ins => simp at e
  | dK => simp at e
 | x h => simp [L2.sn] at e
theorem RepUs.sns (w:Wd A ι H M):∀ {vs:List V} {us:List U} {ts:List T},RepUs A ι H vs us→sns M us = some ts→Paired (RepV (Av A ι) H) vs ts
 | _,_,ts, .nil,e => by simp [L2.sns] at e; subst e; exact .nil
 | _,_,ts, .cons r q,e => by
  simp only [L2.sns] at e
  split at e
  ·rename_i h1 h2
   simp at e; subst e
   exact .cons (r.sn w h1) (RepUs.sns w q h2)
  ·cases e
def OpL (r:R2) (s:T→T→(T→Prop)→Prop):Prop:=∀ (A:Addr→Prop) (ι:List Addr) (H:Hp) (M:MM) (x y:V) (a b:T) (Qs:T→Prop) (Q:VK),Wd A ι H M→RepV (Av A ι) H x a→RepV (Av A ι) H y b→s a b Qs →
 (∀ t ι' v H',Le ι H ι' H'→Wd A ι' H' M→RepT (Av A ι') H' v t→Qs t→Q v H')→r x y H Q
def uOp (s:T→T→(T→Prop)→Prop) (ua ub:UE):UE:=fun ρ M Q => ua ρ M fun x M1 => ub ρ M1 fun y M2 => ∃ a b,sn M2 x = some a∧sn M2 y = some b∧s a b fun t => Q (.p t) M2
theorem le_op {r:R2} {s:T→T→(T→Prop)→Prop} (h:OpL r s) (ha:LE ta ua) (hb:LE tb ub):LE (tOp r ta tb) (uOp s ua ub):=fun A ι σ H ρ M Qu Q w e q k =>
 ha A ι σ H ρ M _ _ w e q fun x M1 ι1 v H1 l1 w1 r1 q1 => hb A ι1 σ H1 ρ M1 _ _ w1 (e.le l1) q1 fun y M2 ι2 v2 H2 l2 w2 r2 ⟨a,b,e1,e2,q2⟩ =>
  h A ι2 H2 M2 v v2 a b _ Q w2 ((r1.le l2).sn w2 e1) (r2.sn w2 e2) q2 fun t ι3 z H3 l3 w3 r3 q3 => k _ M2 ι3 z H3 ((l1.trans l2).trans l3) w3 (.p r3) q3
def sI (C:Int→Int→Prop) (g:Int→Int→T):T→T→(T→Prop)→Prop:=fun a b Q => ∃ i j,a = .int i∧b = .int j∧C i j∧Q (g i j)
def sI0 (g:Int→Int→T):T→T→(T→Prop)→Prop:=fun a b Q => ∃ i j,a = .int i∧b = .int j∧Q (g i j)
theorem zS {C:Int→Int→Prop} {gv:Int→Int→V} {g:Int→Int→T} (hg:∀ i j,Sc (gv i j) (g i j)):OpL (rI C gv) (sI C g):=fun A ι H M x y a b Qs Q w r1 r2 ⟨i,j,ea,eb,c,q⟩ k => by
 subst ea eb
 exact ⟨i,j,r1.int_inv,r2.int_inv,c,k _ ι _ H (.refl _ _) w (hg i j).rep q⟩
theorem qD {gv:Int→Int→V} {g:Int→Int→T} (hg:∀ i j,Sc (gv i j) (g i j)):OpL (rI0 gv) (sI0 g):=fun A ι H M x y a b Qs Q w r1 r2 ⟨i,j,ea,eb,q⟩ k => by
 subst ea eb
 exact ⟨i,j,r1.int_inv,r2.int_inv,k _ ι _ H (.refl _ _) w (hg i j).rep q⟩
def vt:T→Option V
 | .non => some .non
 | .bl b => some (.bl b)
 | .int i => some (.int i)
 | .str x => some (.str x)
 | _ => none
theorem Qo {x:V} (e:vt t = some x):Sc x t:=by
 cases t <;> simp [vt] at e <;> subst e <;> constructor
theorem RepV.sc {x y:V} (r:RepV A H v t) (e:vt t = some x):v = x:=by
 cases Qo e with
 | non => exact r.non_inv
 | bl => exact r.bl_inv
 | int => exact r.int_inv
 | str => exact r.str_inv
def sEq (neg:Bool):T→T→(T→Prop)→Prop:=fun a b Q => ∃ x y,vt a = some x∧vt b = some y∧scal x y = true∧Q (.bl (if neg then !decide (x = y) else decide (x = y)))
theorem vQ:OpL rEq (sEq false):=fun A ι H M x y a b Qs Q w r1 r2 ⟨x',y',e1,e2,sc,q⟩ k => by
 cases r1.sc (y:=.non) e1; cases r2.sc (y:=.non) e2
 exact ⟨sc,k _ ι _ H (.refl _ _) w (.bl _) q⟩
theorem opl_ne:OpL rNe (sEq true):=fun A ι H M x y a b Qs Q w r1 r2 ⟨x',y',e1,e2,sc,q⟩ k => by
 cases r1.sc (y:=.non) e1; cases r2.sc (y:=.non) e2
 exact ⟨sc,k _ ι _ H (.refl _ _) w (.bl _) q⟩
def sStr:T→T→(T→Prop)→Prop:=fun a b Q => ∃ i j,a = .str i∧b = .str j∧i.length + j.length≤sizeLine∧Q (.str (i ++ j))
def seqT:T→Option (List T)
 | .lst ts => some ts
 | .tup ts => some ts
 | _ => none
theorem zO (w:Wd A ι H M) {p:Addr} {vs:List V} {ts:List T} (h:H p = none) (r:RepTs (Av A ι) H vs ts):RepT (Av A ι) (upd H p (.lst vs)) (.ref p) (.lst ts) :=
 .lstP (w.nA h) upd_same (Paired.mapP r fun _ _ q => q.le (.fresh h))
theorem K3 (w:Wd A ι H M) {p:Addr} {vs:List V} {ts:List T} (h:H p = none) (r:RepTs (Av A ι) H vs ts):RepT (Av A ι) (upd H p (.tup vs)) (.ref p) (.tup ts) :=
 .tupP (w.nA h) upd_same (Paired.mapP r fun _ _ q => q.le (.fresh h))
def sCat:T→T→(T→Prop)→Prop:=fun a b Q => ∃ xs ys,a = .lst xs∧b = .lst ys∧xs.length + ys.length≤sizeLine∧Q (.lst (xs ++ ys))
theorem kK:OpL rCat sCat:=fun A ι H M x y a b Qs Q w r1 r2 ⟨xs,ys,ea,eb,hz,q⟩ k => by
 subst ea eb
 obtain ⟨p,vs,rfl,h1,q1⟩:=r1.lst_inv
 obtain ⟨p2,vs2,rfl,h2,q2⟩:=r2.lst_inv
 exact ⟨p,p2,vs,vs2,rfl,rfl,h1,h2,by rw [q1.len,q2.len]; exact hz,fun p hp => k _ ι _ _ (.fresh hp) (w.fresh hp) (zO w hp (q1.app q2)) q⟩
theorem ju {α β:Type} {F:α→β→Prop} {l:List α} {m:List β} (h:Paired F l m):∀ n:Nat,Paired F (List.replicate n l).flatten (List.replicate n m).flatten
 | 0 => .nil
 | n + 1 => by rw [List.replicate_succ,List.replicate_succ,List.flatten_cons,List.flatten_cons]; exact h.app (ju h n)
def Q6:U→Bool
 | .p .non => true
 | _ => false
theorem KI (r:RepU A ι H v u):decide (v = .non) = Q6 u:=by
 cases r with
 | p r => cases r <;> simp [Q6]
 | m e => simp [Q6]
 | x h => simp [Q6]
def uIsN (neg:Bool) (ua:UE):UE:=fun ρ M Q => ua ρ M fun x M1 => Q (.p (.bl (if neg then !Q6 x else Q6 x))) M1
theorem le_isN (ha:LE ta ua):LE (tOp (fun x y H Q => y = .non∧Q (.bl (decide (x = .non))) H) ta (tC .non)) (uIsN false ua):=fun A ι σ H ρ M Qu Q w e q k =>
 ha A ι σ H ρ M _ _ w e q fun x M1 ι1 v H1 l1 w1 r1 q1 => ⟨rfl,by rw [KI r1]; exact k _ M1 ι1 _ H1 l1 w1 (.p (.bl _)) q1⟩
def uNeg (ua:UE):UE:=fun ρ M Q => ua ρ M fun x M1 => ∃ i,x = .p (.int i)∧Q (.p (.int (-i))) M1
theorem le_neg (ha:LE ta ua):LE (tUn (rU fun i => .int (-i)) ta) (uNeg ua):=fun A ι σ H ρ M Qu Q w e q k =>
 ha A ι σ H ρ M _ _ w e q fun x M1 ι1 v H1 l1 w1 r1 ⟨i,ex,q1⟩ => by
  subst ex
  cases r1 with
  | p r => cases r; exact ⟨i,rfl,k _ M1 ι1 _ H1 l1 w1 (.p (.int _)) q1⟩
def uB (ua:UE):UT:=fun ρ M Q => ua ρ M fun x M1 => ∃ b,x = .p (.bl b)∧Q b M1
theorem lt_b (ha:LE ta ua):LT (tB ta) (uB ua):=fun A ι σ H ρ M Qu Q w e q k =>
 ha A ι σ H ρ M _ _ w e q fun x M1 ι1 v H1 l1 w1 r1 ⟨b,ex,q1⟩ => by
  subst ex
  cases r1 with
  | p r => cases r; exact ⟨b,rfl,k b M1 ι1 H1 l1 w1 q1⟩
theorem lt_test (ha:LE ta ua):LT (zm ta) (uB ua):=lt_b ha
def truU (M:MM):U→Option Bool
 | .p .non => some false
 | .p (.bl b) => some b
 | .p (.int i) => some (i != 0)
 | .p (.lst ts) => some (!ts.isEmpty)
 | .p (.tup ts) => some (!ts.isEmpty)
 | .m k => match M[k]? with
  | some (.lst us) => some (!us.isEmpty)
  | some (.tup us) => some (!us.isEmpty)
  | some (.dK us) => some (!us.isEmpty)
  | _ => none
 | _ => none
theorem tru_rep {K:PySem.W.Frag} {b:Bool} (w:Wd A ι H M) (r:RepU A ι H v u) (e:truU M u = some b):TruV K v H b:=by
 cases r with
 | p r =>
  cases r with
  | non => simp [truU] at e; subst e; rfl
  | bl => simp [truU] at e; subst e; rfl
  | int => simp [truU] at e; subst e; simp [TruV]
  | str => simp [truU] at e
  | tup na e1 l r => simp only [truU,Option.some.injEq] at e; subst e; exact .inr (.inl ⟨_,SqT.of e1,by rw [(Paired.of_get l r).empt]⟩)
  | lst na e1 l r => simp only [truU,Option.some.injEq] at e; subst e; exact .inl ⟨_,SqL.of e1,by rw [(Paired.of_get l r).empt]⟩
 | m q =>
  obtain ⟨o,h1,h2⟩:=w.al q
  simp only [truU,h1] at e
  cases o with
  | lst us => simp only [Option.some.injEq] at e; subst e; obtain ⟨vs,h3,h4⟩:=h2; exact .inl ⟨_,SqL.of h3,by rw [h4.empt]⟩
  | tup us => simp only [Option.some.injEq] at e; subst e; obtain ⟨vs,h3,h4⟩:=h2; exact .inr (.inl ⟨_,SqT.of h3,by rw [h4.empt]⟩)
  | ins => simp at e
  | dK us => simp only [Option.some.injEq] at e; subst e; obtain ⟨vs,h3,h4⟩:=h2; exact .inr (.inr ⟨_,h3,by rw [h4.empt]⟩)
 | x h => simp [truU] at e
def uTru (ua:UE):UT:=fun ρ M Q => ua ρ M fun x M1 => ∃ b,truU M1 x = some b∧Q b M1
theorem lt_tru {K:PySem.W.Frag} (ha:LE ta ua):LT (tTru K ta) (uTru ua):=fun A ι σ H ρ M Qu Q w e q k =>
 ha A ι σ H ρ M _ _ w e q fun x M1 ι1 v H1 l1 w1 r1 ⟨b,eb,q1⟩ => ⟨b,tru_rep w1 r1 eb,k b M1 ι1 H1 l1 w1 q1⟩
def uAnd (t s:UT):UT:=fun ρ M Q => t ρ M fun c M1 => if c = true then s ρ M1 Q else Q false M1
def uOr (t s:UT):UT:=fun ρ M Q => t ρ M fun c M1 => if c = true then Q true M1 else s ρ M1 Q
def uNot (t:UT):UT:=fun ρ M Q => t ρ M fun c M1 => Q (!c) M1
theorem lt_and (ha:LT tt ut) (hb:LT tt' ut'):LT (tAnd tt tt') (uAnd ut ut'):=fun A ι σ H ρ M Qu Q w e q k =>
 ha A ι σ H ρ M _ _ w e q fun c M1 ι1 H1 l1 w1 q1 => by
  cases c with
  | false => exact k false M1 ι1 H1 l1 w1 q1
  | true => exact hb A ι1 σ H1 ρ M1 _ _ w1 (e.le l1) q1 fun b M2 ι2 H2 l2 w2 q2 => k b M2 ι2 H2 (l1.trans l2) w2 q2
theorem lt_not (ha:LT tt ut):LT (tNot tt) (uNot ut):=fun A ι σ H ρ M Qu Q w e q k =>
 ha A ι σ H ρ M _ _ w e q fun c M1 ι1 H1 l1 w1 q1 => k _ M1 ι1 H1 l1 w1 q1
def uAndV (ua ub:UE):UE:=fun ρ M Q => ua ρ M fun x M1 => ∃ c,x = .p (.bl c)∧if c = true then ub ρ M1 Q else Q (.p (.bl false)) M1
def uOrV (ua ub:UE):UE:=fun ρ M Q => ua ρ M fun x M1 => ∃ c,x = .p (.bl c)∧if c = true then Q (.p (.bl true)) M1 else ub ρ M1 Q
def uNotV (ua:UE):UE:=fun ρ M Q => ua ρ M fun x M1 => ∃ c,x = .p (.bl c)∧Q (.p (.bl (!c))) M1
theorem le_andV (ha:LE ta ua) (hb:LE tb ub):LE (zz ta tb) (uAndV ua ub):=fun A ι σ H ρ M Qu Q w e q k =>
 ha A ι σ H ρ M _ _ w e q fun x M1 ι1 v H1 l1 w1 r1 ⟨c,ex,q1⟩ => by
  subst ex
  cases r1 with
  | p r =>
   cases r
   refine ⟨c,rfl, ?_⟩
   cases c with
   | false => exact k _ M1 ι1 _ H1 l1 w1 (.p (.bl _)) q1
   | true => exact hb A ι1 σ H1 ρ M1 _ _ w1 (e.le l1) q1 fun b M2 ι2 v2 H2 l2 w2 r2 q2 => k b M2 ι2 v2 H2 (l1.trans l2) w2 r2 q2
def uIf (t:UT) (ua ub:UE):UE:=fun ρ M Q => t ρ M fun c M1 => if c = true then ua ρ M1 Q else ub ρ M1 Q
theorem le_if (hc:LT tt ut) (ha:LE ta ua) (hb:LE tb ub):LE (tIf tt ta tb) (uIf ut ua ub):=fun A ι σ H ρ M Qu Q w e q k =>
 hc A ι σ H ρ M _ _ w e q fun c M1 ι1 H1 l1 w1 q1 => by
  cases c with
  | true => exact ha A ι1 σ H1 ρ M1 _ _ w1 (e.le l1) q1 fun b M2 ι2 v2 H2 l2 w2 r2 q2 => k b M2 ι2 v2 H2 (l1.trans l2) w2 r2 q2
  | false => exact hb A ι1 σ H1 ρ M1 _ _ w1 (e.le l1) q1 fun b M2 ι2 v2 H2 l2 w2 r2 q2 => k b M2 ι2 v2 H2 (l1.trans l2) w2 r2 q2
def Zj (s s':T→T→(T→Prop)→Prop) (ua ub uc:UE):UE:=fun ρ M Q => ua ρ M fun x M1 => ub ρ M1 fun y M2 => ∃ a b,sn M2 x = some a∧sn M2 y = some b∧s a b fun z => ∃ k,z = .bl k ∧
 if k = true then uc ρ M2 fun c M3 => ∃ b' c',sn M3 y = some b'∧sn M3 c = some c'∧s' b' c' fun t => Q (.p t) M3 else Q (.p (.bl false)) M2
theorem le_chain {r r':R2} {s s':T→T→(T→Prop)→Prop} (h:OpL r s) (h':OpL r' s') (ha:LE ta ua) (hb:LE tb ub) (hc:LE tc uc):LE (vF r r' ta tb tc) (Zj s s' ua ub uc):=by
 intro A ι σ H ρ M Qu Q w e q k
 refine ha A ι σ H ρ M _ _ w e q fun x M1 ι1 v H1 l1 w1 r1 q1 => ?_
 refine hb A ι1 σ H1 ρ M1 _ _ w1 (e.le l1) q1 fun y M2 ι2 v2 H2 l2 w2 r2 q2 => ?_
 obtain ⟨a,b,e1,e2,q2⟩:=q2
 refine h A ι2 H2 M2 v v2 a b _ _ w2 ((r1.le l2).sn w2 e1) (r2.sn w2 e2) q2 fun t ι3 z H3 l3 w3 r3 q3 => ?_
 obtain ⟨kk,et,q3⟩:=q3
 subst et
 cases r3
 refine ⟨kk,rfl, ?_⟩
 cases kk with
 | false => exact k _ M2 ι3 _ H3 ((l1.trans l2).trans l3) w3 (.p (.bl _)) q3
 | true =>
  refine hc A ι3 σ H3 ρ M2 _ _ w3 (e.le ((l1.trans l2).trans l3)) q3 fun c M4 ι4 v4 H4 l4 w4 r4 q4 => ?_
  obtain ⟨b',c',e3,e4,q4⟩:=q4
  exact h' A ι4 H4 M4 v2 v4 b' c' _ Q w4 ((r2.le (l3.trans l4)).sn w4 e3) (r4.sn w4 e4) q4 fun t ι5 z H5 l5 w5 r5 q5 => k _ M4 ι5 z H5 ((((l1.trans l2).trans l3).trans l4).trans l5) w5 (.p r5) q5
def uTup (ul:UA):UE:=fun ρ M Q => ul ρ M fun us M1 => ∃ ts,za us = some ts∧Q (.p (.tup ts)) M1
def uLst (ul:UA):UE:=fun ρ M Q => ul ρ M fun us M1 => ∃ ts,za us = some ts∧Q (.p (.lst ts)) M1
def uNew (ul:UA):UE:=fun ρ M Q => ul ρ M fun us M1 => Q (.m M1.length) (M1 ++ [.lst us])
def uNewT (ul:UA):UE:=fun ρ M Q => ul ρ M fun us M1 => Q (.m M1.length) (M1 ++ [.tup us])
theorem le_tup (ha:LA n tl ul) (hn:n≤1000:=by decide):LE (tTup tl) (uTup ul):=fun A ι σ H ρ M Qu Q w e q k =>
 ha A ι σ H ρ M _ _ w e q fun us M1 ι1 vs H1 l1 w1 hl r1 ⟨ts,et,q1⟩ => by
  have r2:=r1
  rw [v8 et] at r2
  exact ⟨by rw [r1.len,hl]; exact Nat.le_of_lt (vb hn),fun p hp => k _ M1 ι1 _ _ (l1.trans (.fresh hp)) (w1.fresh hp) (.p (K3 w1 hp r2.pures)) q1⟩
theorem le_lst (ha:LA n tl ul) (hn:n≤1000:=by decide):LE (tLst tl) (uLst ul):=fun A ι σ H ρ M Qu Q w e q k =>
 ha A ι σ H ρ M _ _ w e q fun us M1 ι1 vs H1 l1 w1 hl r1 ⟨ts,et,q1⟩ => by
  have r2:=r1
  rw [v8 et] at r2
  exact ⟨by rw [r1.len,hl]; exact Nat.le_of_lt (vb hn),fun p hp => k _ M1 ι1 _ _ (l1.trans (.fresh hp)) (w1.fresh hp) (.p (zO w1 hp r2.pures)) q1⟩
theorem kS {α:Type} {l:List α} {x:α}:(l ++ [x])[l.length]? = some x:=by rw [List.getElem?_append_right (Nat.le_refl _),Nat.sub_self]; rfl
theorem VS (w:Wd A ι H M) {p:Addr} {vs:List V} {us:List U} (h:H p = none) (r:RepUs A ι H vs us):Wd A (ι ++ [p]) (upd H p (.lst vs)) (M ++ [.lst us])∧RepU A (ι ++ [p]) (upd H p (.lst vs)) (.ref p) (.m M.length) :=
 ⟨w.push h ⟨vs,upd_same,r.le (.push h)⟩, .m (by rw [← w.len]; exact kS)⟩
theorem le_new (ha:LA n tl ul) (hn:n≤1000:=by decide):LE (tLst tl) (uNew ul):=fun A ι σ H ρ M Qu Q w e q k =>
 ha A ι σ H ρ M _ _ w e q fun us M1 ι1 vs H1 l1 w1 hl r1 q1 => ⟨by rw [r1.len,hl]; exact Nat.le_of_lt (vb hn),fun p hp => k _ _ _ _ _ (l1.trans (.push hp)) (VS w1 hp r1).1 (VS w1 hp r1).2 q1⟩
def qM (M:MM):U→Option (List U)
 | .p (.lst ts) => some (ts.map .p)
 | .m k => match M[k]? with
  | some (.lst us) => some us
  | _ => none
 | _ => none
def zb (M:MM):U→Option (List U)
 | .p (.tup ts) => some (ts.map .p)
 | .m k => match M[k]? with
  | some (.tup us) => some us
  | _ => none
 | _ => none
theorem xE {us:List U} (w:Wd A ι H M) (r:RepU A ι H v u) (e:qM M u = some us):∃ p vs,v = .ref p∧H p = some (.lst vs)∧RepUs A ι H vs us:=by
 cases r with
 | p r =>
  cases r with
  | lst na e1 l r => simp [qM] at e; subst e; exact ⟨_,_,rfl,e1,RepTs.ups (Paired.of_get l r)⟩
  | _ => simp [qM] at e
 | m q =>
  obtain ⟨o,h1,h2⟩:=w.al q
  simp only [qM,h1] at e
  cases o with
  | lst us => simp at e; subst e; obtain ⟨vs,h3,h4⟩:=h2; exact ⟨_,_,rfl,h3,h4⟩
  | _ => simp at e
 | x h => simp [qM] at e
theorem xD {us:List U} (w:Wd A ι H M) (r:RepU A ι H v u) (e:zb M u = some us):∃ p vs,v = .ref p∧H p = some (.tup vs)∧RepUs A ι H vs us:=by
 cases r with
 | p r =>
  cases r with
  | tup na e1 l r => simp [zb] at e; subst e; exact ⟨_,_,rfl,e1,RepTs.ups (Paired.of_get l r)⟩
  | _ => simp [zb] at e
 | m q =>
  obtain ⟨o,h1,h2⟩:=w.al q
  simp only [zb,h1] at e
  cases o with
  | tup us => simp at e; subst e; obtain ⟨vs,h3,h4⟩:=h2; exact ⟨_,_,rfl,h3,h4⟩
  | _ => simp at e
 | x h => simp [zb] at e
theorem Yz {vs:List V} {us:List U} {i:Int} {z:U} (r:RepUs A ι H vs us) (e:atI us i = some z):∃ x,atI vs i = some x∧RepU A ι H x z:=by
 unfold atI at e ⊢
 rw [r.len]
 cases q:ixN us.length i with
 | none => rw [q] at e; cases e
 | some j =>
  rw [q] at e
  exact Paired.getR r e
def uIx (it:MM→U→Option (List U)) (ua ub:UE):UE:=fun ρ M Q => ua ρ M fun x M1 => ub ρ M1 fun y M2 => ∃ us i z,it M2 x = some us∧y = .p (.int i)∧atI us i = some z∧Q z M2
theorem le_ixL {K:PySem.W.Frag} (ha:LE ta ua) (hb:LE tb ub):LE (tOp (rIxL K) ta tb) (uIx qM ua ub):=fun A ι σ H ρ M Qu Q w e q k =>
 ha A ι σ H ρ M _ _ w e q fun x M1 ι1 v H1 l1 w1 r1 q1 => hb A ι1 σ H1 ρ M1 _ _ w1 (e.le l1) q1 fun y M2 ι2 v2 H2 l2 w2 r2 ⟨us,i,z,e1,e2,e3,q2⟩ => by
  subst e2
  obtain ⟨p,vs,rfl,h1,h2⟩:=xE w2 (r1.le l2) e1
  obtain ⟨x',h3,h4⟩:=Yz h2 e3
  cases r2 with
  | p r => cases r; exact ⟨p,vs,i,x',rfl,rfl,SqL.of h1,h3,k z M2 ι2 x' H2 (l1.trans l2) w2 h4 q2⟩
theorem le_ixT {K:PySem.W.Frag} (ha:LE ta ua) (hb:LE tb ub):LE (tOp (rIxT K) ta tb) (uIx zb ua ub):=fun A ι σ H ρ M Qu Q w e q k =>
 ha A ι σ H ρ M _ _ w e q fun x M1 ι1 v H1 l1 w1 r1 q1 => hb A ι1 σ H1 ρ M1 _ _ w1 (e.le l1) q1 fun y M2 ι2 v2 H2 l2 w2 r2 ⟨us,i,z,e1,e2,e3,q2⟩ => by
  subst e2
  obtain ⟨p,vs,rfl,h1,h2⟩:=xD w2 (r1.le l2) e1
  obtain ⟨x',h3,h4⟩:=Yz h2 e3
  cases r2 with
  | p r => cases r; exact ⟨p,vs,i,x',rfl,rfl,SqT.of h1,h3,k z M2 ι2 x' H2 (l1.trans l2) w2 h4 q2⟩
def CbL (r:List V→Hp→VK→Prop) (s:List T→(T→Prop)→Prop):Prop:=∀ (A:Addr→Prop) (ι:List Addr) (H:Hp) (M:MM) (vs:List V) (ts:List T) (Qs:T→Prop) (Q:VK),Wd A ι H M→Paired (RepV (Av A ι) H) vs ts→s ts Qs →
 (∀ t ι' v H',Le ι H ι' H'→Wd A ι' H' M→RepT (Av A ι') H' v t→Qs t→Q v H')→r vs H Q
def uCb (s:List T→(T→Prop)→Prop) (ul:UA):UE:=fun ρ M Q => ul ρ M fun us M1 => ∃ ts,sns M1 us = some ts∧s ts fun t => Q (.p t) M1
theorem le_cb {r:List V→Hp→VK→Prop} {s:List T→(T→Prop)→Prop} (h:CbL r s) (ha:LA n tl ul):LE (tCB r tl) (uCb s ul):=fun A ι σ H ρ M Qu Q w e q k =>
 ha A ι σ H ρ M _ _ w e q fun us M1 ι1 vs H1 l1 w1 hl r1 ⟨ts,e1,q1⟩ => h A ι1 H1 M1 vs ts _ Q w1 (r1.sns w1 e1) q1 fun t ι2 z H2 l2 w2 r2 q2 => k _ M1 ι2 z H2 (l1.trans l2) w2 (.p r2) q2
theorem pv1 {vs:List V} {t:T} (r:Paired (RepV A H) vs [t]):∃ v,vs = [v]∧RepV A H v t:=by
 cases r with
 | cons r q => cases q; exact ⟨_,rfl,r⟩
theorem pv2 {vs:List V} {t s:T} (r:Paired (RepV A H) vs [t,s]):∃ v z,vs = [v,z]∧RepV A H v t∧RepV A H z s:=by
 cases r with
 | cons r q =>
  obtain ⟨v,rfl,r2⟩:=pv1 q
  exact ⟨_,_,rfl,r,r2⟩
def sAbs:List T→(T→Prop)→Prop:=fun ts Q => ∃ i,ts = [.int i]∧Q (.int (if i < 0 then -i else i))
def sMin:List T→(T→Prop)→Prop:=fun ts Q => ∃ i j,ts = [.int i, .int j]∧Q (.int (if j < i then j else i))
theorem Yp:CbL (fun xs H Q => ∃ i j,xs = [.int i, .int j]∧Q (.int (if j < i then j else i)) H) sMin:=fun A ι H M vs ts Qs Q w r ⟨i,j,e,q⟩ k => by
 subst e
 obtain ⟨v,z,ev,r1,r2⟩:=pv2 r
 subst ev
 cases r1.int_inv; cases r2.int_inv
 exact ⟨i,j,rfl,k _ ι _ H (.refl _ _) w (.int _) q⟩
def sMax:List T→(T→Prop)→Prop:=fun ts Q => ∃ i j,ts = [.int i, .int j]∧Q (.int (if j > i then j else i))
theorem cbl_max:CbL (fun xs H Q => ∃ i j,xs = [.int i, .int j]∧Q (.int (if j > i then j else i)) H) sMax:=fun A ι H M vs ts Qs Q w r ⟨i,j,e,q⟩ k => by
 subst e
 obtain ⟨v,z,ev,r1,r2⟩:=pv2 r
 subst ev
 cases r1.int_inv; cases r2.int_inv
 exact ⟨i,j,rfl,k _ ι _ H (.refl _ _) w (.int _) q⟩
def sInt:List T→(T→Prop)→Prop:=fun ts Q => (∃ i,ts = [.int i]∧Q (.int i))∨∃ k,ts = [.bl k]∧Q (.int (if k then 1 else 0))
theorem cbl_int:CbL (fun xs H Q => (∃ i,xs = [.int i]∧Q (.int i) H)∨∃ k,xs = [.bl k]∧Q (.int (if k then 1 else 0)) H) sInt:=fun A ι H M vs ts Qs Q w r h k => by
 rcases h with ⟨i,e,q⟩ | ⟨b,e,q⟩
 ·subst e
  obtain ⟨v,ev,r1⟩:=pv1 r
  subst ev
  cases r1.int_inv
  exact .inl ⟨i,rfl,k _ ι _ H (.refl _ _) w (.int _) q⟩
 ·subst e
  obtain ⟨v,ev,r1⟩:=pv1 r
  subst ev
  cases r1.bl_inv
  exact .inr ⟨b,rfl,k _ ι _ H (.refl _ _) w (.int _) q⟩
def bls:List T→Option (List Bool)
 | [] => some []
 | .bl b :: r => (bls r).map (b :: ·)
 | _ => none
@[simp] theorem bls_map:∀ bs:List Bool,bls (bs.map T.bl) = some bs
 | [] => rfl
 | b :: r => by simp [bls,bls_map r]
def sListOf:List T→(T→Prop)→Prop:=fun ts Q => ∃ a xs,ts = [a]∧seqT a = some xs∧Q (.lst xs)
theorem Qj {K:PySem.W.Frag}:CbL (fun xs H Q => ∃ p ys,xs = [.ref p]∧(SqL K H p ys∨SqT K H p ys)∧∀ l,H l = none→Q (.ref l) (upd H l (.lst ys))) sListOf:=fun A ι H M vs ts Qs Q w r ⟨a,xs,e,ea,q⟩ k => by
 subst e
 obtain ⟨v,ev,r1⟩:=pv1 r
 subst ev
 cases a <;> simp [seqT] at ea
 ·subst ea
  obtain ⟨p,zs,rfl,h1,h2⟩:=r1.tup_inv
  exact ⟨p,zs,rfl, .inr (SqT.of h1),fun l hl => k _ ι _ _ (.fresh hl) (w.fresh hl) (zO w hl h2) q⟩
 ·subst ea
  obtain ⟨p,zs,rfl,h1,h2⟩:=r1.lst_inv
  exact ⟨p,zs,rfl, .inl (SqL.of h1),fun l hl => k _ ι _ _ (.fresh hl) (w.fresh hl) (zO w hl h2) q⟩
def uLen (it:MM→U→Option (List U)) (ul:UA):UE:=fun ρ M Q => ul ρ M fun us M1 => ∃ x ys,us = [x]∧it M1 x = some ys∧Q (.p (.int ys.length)) M1
theorem le_len (ha:LA n tl ul):LE (tCB rLenL tl) (uLen qM ul):=fun A ι σ H ρ M Qu Q w e q k =>
 ha A ι σ H ρ M _ _ w e q fun us M1 ι1 vs H1 l1 w1 hl r1 ⟨x,ys,e1,e2,q1⟩ => by
  subst e1
  cases r1 with
  | cons r q =>
   cases q
   obtain ⟨p,zs,rfl,h1,h2⟩:=xE w1 r e2
   exact ⟨p,zs,rfl,h1,by rw [h2.len]; exact k _ M1 ι1 _ H1 l1 w1 (.p (.int _)) q1⟩
def uBits (ua:UE):UE:=fun ρ M Q => ua ρ M fun x M1 => ∃ i,x = .p (.int i)∧Q (.p (.int (Builtin.Int.intBits i))) M1
def cutT (xs:List T) (lo hi:Option Int):List T:=(xs.drop (HT.sIx xs.length 0 lo)).take (HT.sIx xs.length xs.length hi - HT.sIx xs.length 0 lo)
theorem cut_rep {vs:List V} {ts:List T} {lo hi:Option Int} (r:RepTs A H vs ts):RepTs A H (cutV vs lo hi) (cutT ts lo hi):=by
 unfold cutV cutT
 rw [r.len]
 exact (r.dr _).tk _
abbrev UO:=UEnv→MM→(Option Int→MM→Prop)→Prop
def LO (to:TO) (uo:UO):Prop:=∀ (A:Addr→Prop) (ι:List Addr) (σ:St) (H:Hp) (ρ:UEnv) (M:MM) (Qu:Option Int→MM→Prop) (Q:Option Int→Hp→Prop),Wd A ι H M→EnvR A ι H σ ρ→uo ρ M Qu →
 (∀ b M' ι' H',Le ι H ι' H'→Wd A ι' H' M'→Qu b M'→Q b H')→to σ H Q
def Vu:UO:=fun _ M Q => Q none M
def uPart (ua:UE):UO:=fun ρ M Q => ua ρ M fun x M1 => ∃ i,x = .p (.int i)∧Q (some i) M1
theorem lo_none:LO va Vu:=fun A ι σ H ρ M Qu Q w e q k => k _ M ι H (.refl _ _) w q
theorem lo_some (ha:LE ta ua):LO (zx ta) (uPart ua):=fun A ι σ H ρ M Qu Q w e q k =>
 ha A ι σ H ρ M _ _ w e q fun x M1 ι1 v H1 l1 w1 r1 ⟨i,ex,q1⟩ => by
  subst ex
  cases r1 with
  | p r => cases r; exact ⟨i,rfl,k _ M1 ι1 H1 l1 w1 q1⟩
def uSl (ua:UE) (ul uh:UO):UE:=fun ρ M Q => ua ρ M fun x M1 => ul ρ M1 fun l M2 => uh ρ M2 fun h M3 => ∃ ts,sn M3 x = some (.lst ts)∧Q (.p (.lst (cutT ts l h))) M3
theorem le_sl {K:PySem.W.Frag} {t1 t2:TO} {u1 u2:UO} (ha:LE ta ua) (h1:LO t1 u1) (h2:LO t2 u2):LE (tSl (rSlL K) ta t1 t2) (uSl ua u1 u2):=fun A ι σ H ρ M Qu Q w e q k =>
 ha A ι σ H ρ M _ _ w e q fun x M1 ι1 v H1 l1 w1 r1 q1 => h1 A ι1 σ H1 ρ M1 _ _ w1 (e.le l1) q1 fun lo M2 ι2 H2 l2 w2 q2 => h2 A ι2 σ H2 ρ M2 _ _ w2 (e.le (l1.trans l2)) q2 fun hi M3 ι3 H3 l3 w3 ⟨ts,es,q3⟩ => by
  obtain ⟨p,vs,rfl,h4,h5⟩:=((r1.le (l2.trans l3)).sn w3 es).lst_inv
  exact ⟨p,vs,rfl,SqL.of h4,fun r hr => k _ M3 ι3 _ _ (((l1.trans l2).trans l3).trans (.fresh hr)) (w3.fresh hr) (.p (zO w3 hr (cut_rep h5))) q3⟩
end
section
variable {te ta tb:TE} {ue ua ub:UE} {tt:TT} {ut:UT} {tl:TA} {ul:UA} {n:Nat} {A A' A2:Addr→Prop} {H H' H1 H2:Hp} {ι ι' ι1 ι2:List Addr} {M M':MM} {v:V} {u:U} {t:T} {σ:St} {ρ:UEnv} {K:PySem.W.Frag}
structure Lea (A:Addr→Prop) (ι:List Addr) (H:Hp) (A':Addr→Prop) (ι':List Addr) (H':Hp):Prop where
 ext:∃ n,ι' = ι ++ n
 av:∀ x o,¬ Av A ι x→H x = some o→H' x = some o∧¬ Av A' ι' x
 xd:∀ x fs,x ∉ ι→H x = some (.xd fs)→x ∉ ι'∧H' x = some (.xd fs)
theorem Le.xd (l:Le ι H ι' H'):∀ x fs,x ∉ ι→H x = some (.xd fs)→x ∉ ι'∧H' x = some (.xd fs):=fun x fs hx e => by
 obtain ⟨m,rfl,hm⟩:=l.ext
 refine ⟨fun z => ?_,l.fr x _ e hx⟩
 rcases List.mem_append.mp z with z | z
 ·exact hx z
 ·rw [hm x z] at e; cases e
theorem Le.lea (l:Le ι H ι' H'):Lea A ι H A ι' H':=⟨let ⟨n,e,_⟩:=l.ext; ⟨n,e⟩,fun _ _ h e => l.av h e,l.xd⟩
theorem Lea.trans (a:Lea A ι H A' ι' H') (b:Lea A' ι' H' A2 ι2 H2):Lea A ι H A2 ι2 H2:=by
 obtain ⟨n,rfl⟩:=a.ext
 obtain ⟨m,rfl⟩:=b.ext
 exact ⟨⟨n ++ m,by rw [List.append_assoc]⟩,fun x o h e => b.av x o (a.av x o h e).2 (a.av x o h e).1,fun x fs h e => b.xd x fs (a.xd x fs h e).1 (a.xd x fs h e).2⟩
theorem RepU.lea (l:Lea A ι H A' ι' H') (r:RepU A ι H v u):RepU A' ι' H' v u:=by
 cases r with
 | p r => exact .p (r.mono l.av)
 | m e =>
  obtain ⟨n,rfl⟩:=l.ext
  exact .m (by rw [List.getElem?_append_left (List.getElem?_eq_some_iff.mp e).1]; exact e)
 | @x a d q h =>
  refine .x ?_
  cases q with
  | none => exact h
  | some n =>
   obtain ⟨x0,e,ni,hx⟩:=h
   have:=l.xd x0 _ ni hx
   exact ⟨x0,e,this.1,this.2⟩
theorem EnvR.lea (l:Lea A ι H A' ι' H') (r:EnvR A ι H σ ρ):EnvR A' ι' H' σ ρ:=Paired.mapP r fun _ _ q u e => by
 obtain ⟨v,h1,h2⟩:=q u e
 exact ⟨v,h1,h2.lea l⟩
structure UIt where
 n:Nat
 ok:MM→Prop
 item:Nat→U→Prop
def ItR (A:Addr→Prop) (ι1:List Addr) (H1:Hp) (J:It) (it:UIt):Prop:=∀ (A':Addr→Prop) (ι:List Addr) (H:Hp) (M:MM) (i:Nat),Lea A ι1 H1 A' ι H→Wd A' ι H M→it.ok M →
 (i < it.n→J.go i H∧∀ x H',J.yld i H x H'→∃ u,it.item i u∧Le ι H ι H'∧Wd A' ι H' M∧RepU A' ι H' x u)∧(i = it.n→J.stop i H)
abbrev UI:=UEnv→MM→(UIt→MM→Prop)→Prop
def LI (wi:TI) (ui:UI):Prop:=∀ (A:Addr→Prop) (ι:List Addr) (σ:St) (H:Hp) (ρ:UEnv) (M:MM) (Qu:UIt→MM→Prop) (R:It→Hp→Prop),Wd A ι H M→EnvR A ι H σ ρ→ui ρ M Qu →
 (∀ it M' ι' J H',Le ι H ι' H'→Wd A ι' H' M'→ItR A ι' H' J it→Qu it M'→R J H')→wi σ H R
def uIter (ua:UE):UI:=fun ρ M Q => ua ρ M fun x M1 => ∃ us,qM M1 x = some us∧Q ⟨us.length,fun M => qM M x = some us,fun i z => us[i]? = some z⟩ M1
theorem li_list (ha:LE ta ua):LI (XQ K ta) (uIter ua):=fun A ι σ H ρ M Qu R w e q k =>
 ha A ι σ H ρ M _ _ w e q fun x M1 ι1 v H1 l1 w1 r1 ⟨us,eu,q1⟩ => by
  obtain ⟨p,vs,rfl,h1,h2⟩:=xE w1 r1 eu
  refine ⟨p,rfl,⟨vs,SqL.of h1⟩,k _ M1 ι1 _ H1 l1 w1 ?_ q1⟩
  intro A' ι2 H2 M2 i l w2 ok
  obtain ⟨p',vs2,e2,h3,h4⟩:=xE w2 (r1.lea l) ok
  cases e2
  have hl:=h4.len
  refine ⟨fun hi => ?_,fun hi => ⟨vs2,SqL.of h3,by rw [hl]; exact Nat.le_of_eq hi.symm⟩⟩
  have hx:vs2[i]? = some (vs2[i]'(by rw [hl]; exact hi)):=List.getElem?_eq_getElem _
  refine ⟨⟨vs2,_,SqL.of h3,hx⟩,fun x H' y => ?_⟩
  obtain ⟨rfl,y⟩:=y
  have hx2:=y vs2 (SqL.of h3)
  obtain ⟨z,hz,rz⟩:=Paired.getL h4 hx2
  exact ⟨z,hz, .refl _ _,w2,rz⟩
def uRev (ul:UA):UI:=fun ρ M Q => ul ρ M fun xs M1 => ∃ x us,xs = [x]∧qM M1 x = some us∧Q ⟨us.length,fun M => qM M x = some us,fun i z => us[us.length - 1 - i]? = some z⟩ M1
def uRng1 (ul:UA):UI:=fun ρ M Q => ul ρ M fun xs M1 => ∃ j:Int,xs = [.p (.int j)] ∧ -(2 ^ 62)≤j∧j < 2 ^ 62∧Q ⟨j.toNat,fun _ => True,fun i z => z = .p (.int i)⟩ M1
theorem itr_ok {lo:Int} {n:Nat}:ItR A ι H (Itr lo n) ⟨n,fun _ => True,fun i z => z = .p (.int (lo + i))⟩:=fun A' ι2 H2 M2 i l w2 _ =>
 ⟨fun hi => ⟨hi,fun x H' y => by
  obtain ⟨rfl,rfl⟩:=y
  exact ⟨_,rfl, .refl _ _,w2, .p (.int _)⟩⟩,fun hi => Nat.le_of_eq hi.symm⟩
theorem li_rng1 (ha:LA n tl ul):LI (KM tl) (uRng1 ul):=fun A ι σ H ρ M Qu R w e q k =>
 ha A ι σ H ρ M _ _ w e q fun xs M1 ι1 vs1 H1 l1 w1 hn r0 ⟨j,ex,j0,j1,q1⟩ => by
  subst ex
  cases r0 with
  | cons r1 r0 =>
  cases r0
  cases r1 with
  | p r =>
  cases r
  have:=itr_ok (A:=A) (ι:=ι1) (H:=H1) (lo:=0) (n:=j.toNat)
  simp only [Int.zero_add] at this
  exact ⟨j,rfl,j0,j1,k _ M1 ι1 _ H1 l1 w1 this q1⟩
abbrev UG:=U→UEnv→MM→(UEnv→MM→Prop)→Prop
def LG (g:TG) (ug:UG):Prop:=∀ (A:Addr→Prop) (ι:List Addr) (σ:St) (H:Hp) (ρ:UEnv) (M:MM) (v:V) (u:U) (Qu:UEnv→MM→Prop) (Q:St→Hp→Prop),Wd A ι H M→EnvR A ι H σ ρ→RepU A ι H v u→ug u ρ M Qu →
 (∀ ρ' M' ι' σ' H',Le ι H ι' H'→Wd A ι' H' M'→EnvR A ι' H' σ' ρ'→Qu ρ' M'→Q σ' H')→g v σ H Q
def Xf (i:Nat):UG:=fun u ρ M Q => Q (ρ.set i (some u)) M
def X1 (i j:Nat):UG:=fun u ρ M Q => ∃ a b,zb M u = some [a,b]∧Q ((ρ.set i (some a)).set j (some b)) M
def Qv (i j k:Nat):UG:=fun u ρ M Q => ∃ a b c,zb M u = some [a,b,c]∧Q (((ρ.set i (some a)).set j (some b)).set k (some c)) M
theorem lg_name (i:Nat):LG (qE i) (Xf i):=fun A ι σ H ρ M v u Qu Q w e r q k => k _ M ι _ H (.refl _ _) w (e.put i r) q
theorem rep2 {vs:List V} {a b:U} (r:RepUs A ι H vs [a,b]):∃ x y,vs = [x,y]∧RepU A ι H x a∧RepU A ι H y b:=by
 cases r with
 | cons r q => cases q with | cons r2 q => cases q; exact ⟨_,_,rfl,r,r2⟩
theorem rep3 {vs:List V} {a b c:U} (r:RepUs A ι H vs [a,b,c]):∃ x y z,vs = [x,y,z]∧RepU A ι H x a∧RepU A ι H y b∧RepU A ι H z c:=by
 cases r with
 | cons r q =>
  obtain ⟨y,z,rfl,r2,r3⟩:=rep2 q
  exact ⟨_,_,_,rfl,r,r2,r3⟩
theorem lg_name2 (i j:Nat):LG (gTup K 2 (vq (qE i) (vq (qE j) gNil))) (X1 i j):=fun A ι σ H ρ M v u Qu Q w e r ⟨a,b,ei,q⟩ k => by
 obtain ⟨p,vs,rfl,h1,h2⟩:=xD w r ei
 obtain ⟨x,y,rfl,r1,r2⟩:=rep2 h2
 exact vf h1 (k _ M ι _ H (.refl _ _) w ((e.put i r1).put j r2) q)
theorem lg_name3 (i j l:Nat):LG (gTup K 3 (vq (qE i) (vq (qE j) (vq (qE l) gNil)))) (Qv i j l):=fun A ι σ H ρ M v u Qu Q w e r ⟨a,b,c,ei,q⟩ k => by
 obtain ⟨p,vs,rfl,h1,h2⟩:=xD w r ei
 obtain ⟨x,y,z,rfl,r1,r2,r3⟩:=rep3 h2
 exact vc h1 (k _ M ι _ H (.refl _ _) w (((e.put i r1).put j r2).put l r3) q)
def uSub (uo ui:UE):UG:=fun u ρ M Q => uo ρ M fun o M1 => ui ρ M1 fun i M2 => ∃ k us z j,o = .m k∧M2[k]? = some (.lst us)∧i = .p (.int z)∧ixN us.length z = some j∧Q ρ (M2.set k (.lst (us.set j u)))
theorem lg_sub (ha:LE ta ua) (hb:LE tb ub):LG (gSub ta tb rSetL) (uSub ua ub):=fun A ι σ H ρ M v u Qu Q w e r q k =>
 ha A ι σ H ρ M _ _ w e q fun o M1 ι1 v1 H1 l1 w1 r1 q1 => hb A ι1 σ H1 ρ M1 _ _ w1 (e.le l1) q1 fun i M2 ι2 v2 H2 l2 w2 r2 ⟨kk,us,z,j,eo,em,ei,ej,q2⟩ => by
  subst eo ei
  cases r2 with
  | p r2 =>
  cases r2
  have r1':=r1.le l2
  cases r1' with
  | m ek =>
  obtain ⟨vs,h1,h2⟩:=w2.obj kk _ _ ek em
  have hm:=List.mem_of_getElem? ek
  refine ⟨_,vs,z,j,rfl,rfl,h1,by rw [h2.len]; exact ej,k _ _ ι2 _ _ ((l1.trans l2).trans (.put hm)) (w2.put (mo:=.lst (us.set j u)) ek ⟨_,upd_same, ?_⟩) (e.le ((l1.trans l2).trans (.put hm))) q2⟩
  exact RepUs.le (.put hm) (Paired.put (r.le (l1.trans l2)) j h2)
def xH (bs:List Bool) (n i:Nat):Bool:=match bs[i]? with
 | some b => !b
 | none => decide (i < bs.length + n)
theorem jd {bs:List Bool} {n i:Nat} {σ:St} (hl:σ.length = bs.length) (h:xH bs n i = true):(vE bs n σ)[i]? = some none:=by
 unfold xH at h
 unfold vE
 have hz:((bs.zip σ).map (fun p => if p.1 then p.2 else none)).length = bs.length:=by simp [hl]
 cases e:bs[i]? with
 | some b =>
  rw [e] at h
  have hi:=(List.getElem?_eq_some_iff.mp e).1
  rw [List.getElem?_append_left (by rw [hz]; exact hi),List.getElem?_map]
  have hb:b = false:=by simpa using h
  have e2:(bs.zip σ)[i]? = some (b,σ[i]'(by omega)):=by
   rw [List.getElem?_eq_getElem (by simp [hl]; exact hi)]
   simp
   exact (List.getElem?_eq_some_iff.mp e).2
  rw [e2,hb]
  rfl
 | none =>
  rw [e] at h
  have hi:=List.getElem?_eq_none_iff.mp e
  simp at h
  rw [List.getElem?_append_right (by rw [hz]; exact hi),hz,List.getElem?_replicate]
  rw [if_pos (by omega)]
def LGx (bs:List Bool) (n:Nat) (g:TG) (ug:UG):Prop:=∀ (A:Addr→Prop) (ι:List Addr) (σ:St) (H:Hp) (ρ:UEnv) (M:MM) (v:V) (u:U) (Qu:UEnv→MM→Prop) (Q:St→Hp→Prop),σ.length = bs.length→Wd A ι H M→EnvR A ι H (vE bs n σ) ρ→RepU A ι H v u→ug u ρ M Qu →
 (∀ ρ' σ',EnvR A ι H σ' ρ'→ExtS (vE bs n σ) σ'→σ'.length = (vE bs n σ).length→Qu ρ' M→Q σ' H)→g v (vE bs n σ) H Q
theorem lgx_name {bs:List Bool} (i:Nat) (h:xH bs n i = true:=by rfl):LGx bs n (qE i) (Xf i):=fun A ι σ H ρ M v u Qu Q hl w e r q k =>
 k _ _ (e.put i r) ((ExtS.refl _).put (jd hl h)) (by simp) q
theorem Kv {bs:List Bool} (i j l:Nat) (h:xH bs n i = true:=by rfl) (h2:xH bs n j = true:=by rfl) (h3:xH bs n l = true:=by rfl):LGx bs n (gTup K 3 (vq (qE i) (vq (qE j) (vq (qE l) gNil)))) (Qv i j l):=fun A ι σ H ρ M v u Qu Q hl w e r ⟨a,b,c,ei,q⟩ k => by
 obtain ⟨p,vs,rfl,h1,hh⟩:=xD w r ei
 obtain ⟨x,y,z,rfl,r1,r2,r3⟩:=rep3 hh
 exact vc h1 (k _ _ (((e.put i r1).put j r2).put l r3) ((((ExtS.refl _).put (jd hl h)).put (jd hl h2)).put (jd hl h3)) (by simp) q)
theorem lt_yes:LT tYes (fun _ M Q => Q true M):=fun A ι σ H ρ M Qu Q w e q k => k true M ι H (.refl _ _) w q
abbrev uYes:UT:=fun _ M Q => Q true M
def UComp (it:UIt) (ug:UG) (ut:UT) (ue:UE) (ρ0:UEnv) (M1:MM) (Q:UK):Prop:=it.n≤sizeLine∧∃ Iv:Nat→List T→MM→Prop,Iv 0 [] M1 ∧
 (∀ i acc M2,i < it.n→acc.length≤i→Iv i acc M2→it.ok M2∧∀ u,it.item i u→ug u ρ0 M2 fun ρ4 M4 => ut ρ4 M4 fun b M5 => if b = true then ue ρ4 M5 fun z M6 => ∃ t,z = .p t∧Iv (i + 1) (acc ++ [t]) M6 else Iv (i + 1) acc M5) ∧
 (∀ acc M2,Iv it.n acc M2→it.ok M2∧Q (.p (.lst acc)) M2)
def uComp (ui:UI) (bs:List Bool) (n:Nat) (ug:UG) (ut:UT) (ue:UE):UE:=fun ρ M Q => ui ρ M fun it M1 => ρ.length = bs.length∧UComp it ug ut ue (Kq bs n ρ) M1 Q
theorem Wd.addA (w:Wd A ι H M) {p:Addr} {o:HO} (h:H p = none):Wd (fun x => A x∨x = p) ι (upd H p o) M:=by
 have w2:=w.fresh (o:=o) h
 have hm:∀ x o',¬ Av A ι x→(upd H p o) x = some o'→H x≠none→(upd H p o) x = some o'∧¬ Av (fun x => A x∨x = p) ι x:=fun x o' hx e hs => ⟨e,fun z => by
  rcases z with (z | z) | z
  ·exact hx (.inl z)
  ·subst z; exact hs h
  ·exact hx (.inr z)⟩
 have hl:Lea A ι H (fun x => A x∨x = p) ι (upd H p o):=⟨⟨[],by simp⟩,fun x o' hx e => hm x o' hx (xL h e) (by rw [e]; simp),fun x fs hx e => ⟨hx,xL h e⟩⟩
 refine ⟨w.nd,w.len,fun x hx => ?_,fun x hx z => ?_,fun k a ob e1 e2 => ?_⟩
 ·rcases hx with hx | hx
  ·exact w2.dom x hx
  ·rw [hx,upd_same]; simp
 ·rcases z with z | z
  ·exact w.na x hx z
  ·exact w.nin h (by rw [← z]; exact hx)
 ·have r:=w.obj k a ob e1 e2
  have ea:upd H p o a = H a:=upd_ne fun z => by
   obtain ⟨q,hq⟩:=r.some
   rw [z,h] at hq; cases hq
  cases ob with
  | lst => obtain ⟨vs,e,r⟩:=r; exact ⟨vs,by rw [ea]; exact e,Paired.mapP r fun _ _ q => q.lea hl⟩
  | tup => obtain ⟨vs,e,r⟩:=r; exact ⟨vs,by rw [ea]; exact e,Paired.mapP r fun _ _ q => q.lea hl⟩
  | ins =>
   obtain ⟨dx,gs,e,ed,nd,r⟩:=r
   exact ⟨dx,gs,by rw [ea]; exact e,xL h ed,nd,Paired.mapP r fun _ _ q => ⟨q.1,q.2.lea hl⟩⟩
  | dK => obtain ⟨gs,e,r⟩:=r; exact ⟨gs,by rw [ea]; exact e,Paired.mapP r fun _ _ q => ⟨q.1,q.2.lea hl⟩⟩
theorem Wd.lessA (w:Wd A' ι H M) (h:∀ x,A x→A' x):Wd A ι H M:=by
 have hl:Lea A' ι H A ι H:=⟨⟨[],by simp⟩,fun x o hx e => ⟨e,fun z => hx (z.elim (fun z => .inl (h x z)) .inr)⟩,fun x fs hx e => ⟨hx,e⟩⟩
 refine ⟨w.nd,w.len,fun x hx => w.dom x (h x hx),fun x hx z => w.na x hx (h x z),fun k a ob e1 e2 => ?_⟩
 have r:=w.obj k a ob e1 e2
 cases ob with
 | lst => obtain ⟨vs,e,r⟩:=r; exact ⟨vs,e,Paired.mapP r fun _ _ q => q.lea hl⟩
 | tup => obtain ⟨vs,e,r⟩:=r; exact ⟨vs,e,Paired.mapP r fun _ _ q => q.lea hl⟩
 | ins => obtain ⟨dx,gs,e,ed,nd,r⟩:=r; exact ⟨dx,gs,e,ed,nd,Paired.mapP r fun _ _ q => ⟨q.1,q.2.lea hl⟩⟩
 | dK => obtain ⟨gs,e,r⟩:=r; exact ⟨gs,e,Paired.mapP r fun _ _ q => ⟨q.1,q.2.lea hl⟩⟩
theorem Wd.updA (w:Wd A ι H M) {p:Addr} {o:HO} {ys:List V} (ha:A p) (hp:H p = some (.lst ys)):Lea A ι H A ι (upd H p o)∧Wd A ι (upd H p o) M:=by
 have hl:Lea A ι H A ι (upd H p o):=⟨⟨[],by simp⟩,fun x o' hx e => ⟨by rw [upd_ne fun z => hx (.inl (by rw [z]; exact ha))]; exact e,hx⟩,fun x fs hx e => ⟨hx,by rw [upd_ne fun z => by rw [z,hp] at e; cases e]; exact e⟩⟩
 refine ⟨hl,w.nd,w.len,fun x hx => ?_,w.na,fun k a ob e1 e2 => ?_⟩
 ·by_cases z:x = p
  ·rw [z,upd_same]; simp
  ·rw [upd_ne z]; exact w.dom x hx
 ·have r:=w.obj k a ob e1 e2
  have ea:upd H p o a = H a:=upd_ne fun z => w.na a (List.mem_of_getElem? e1) (by rw [z]; exact ha)
  cases ob with
  | lst => obtain ⟨vs,e,r⟩:=r; exact ⟨vs,by rw [ea]; exact e,Paired.mapP r fun _ _ q => q.lea hl⟩
  | tup => obtain ⟨vs,e,r⟩:=r; exact ⟨vs,by rw [ea]; exact e,Paired.mapP r fun _ _ q => q.lea hl⟩
  | ins =>
   obtain ⟨dx,gs,e,ed,nd,r⟩:=r
   exact ⟨dx,gs,by rw [ea]; exact e,by rw [upd_ne fun z => by rw [z,hp] at ed; cases ed]; exact ed,nd,Paired.mapP r fun _ _ q => ⟨q.1,q.2.lea hl⟩⟩
  | dK => obtain ⟨gs,e,r⟩:=r; exact ⟨gs,by rw [ea]; exact e,Paired.mapP r fun _ _ q => ⟨q.1,q.2.lea hl⟩⟩
theorem Le.updF {p:Addr} {o:HO} (l:Le ι H ι' H') (h:H p = none):Le ι H ι' (upd H' p o):=⟨l.ext,fun x o' e n => by rw [upd_ne (qO e h)]; exact l.fr x o' e n,fun x e => by
 by_cases z:x = p
 ·rw [z,upd_same]; simp
 ·rw [upd_ne z]; exact l.al x e⟩
theorem le_comp {wi:TI} {ui:UI} {bs:List Bool} {g:TG} {ug:UG} (hi:LI wi ui) (hg:LGx bs n g ug) (ht:LT tt ut) (he:LE te ue):LE (vV wi bs n g tt te) (uComp ui bs n ug ut ue):=by
 intro A ι σ H ρ M Qu Q w e q k
 refine hi A ι σ H ρ M _ _ w e q fun it M1 ι1 J H1 l1 w1 hJ q1 acc hacc => ?_
 obtain ⟨hlen,hsz,Iv,I0,It,Id⟩:=q1
 have hσ:σ.length = bs.length:=by rw [← hlen]; exact e.len
 have e1:=e.le l1
 have na:¬ Av A ι1 acc:=w1.nA hacc
 have key:∀ ι2 H2,Le ι1 H1 ι2 H2→(∀ x ∈ ι2,¬ (A x∨x = acc))→Lea A ι1 H1 (fun x => A x∨x = acc) ι2 H2:=fun ι2 H2 l h => by
  refine ⟨let ⟨n,e,_⟩:=l.ext; ⟨n,e⟩,fun x o hx ex => ?_,l.xd⟩
  obtain ⟨a1,a2⟩:=l.av hx ex
  refine ⟨a1,fun z => ?_⟩
  rcases z with (z | z) | z
  ·exact a2 (.inl z)
  ·rw [z,hacc] at ex; cases ex
  ·exact a2 (.inr z)
 refine ⟨fun i m H2 => m = it.n - i∧i≤it.n∧∃ ι2 M2 at' ys,Le ι1 H1 ι2 H2∧Wd (fun x => A x∨x = acc) ι2 H2 M2∧H2 acc = some (.lst ys)∧RepTs (Av (fun x => A x∨x = acc) ι2) H2 ys at'∧at'.length≤i∧Iv i at' M2,
  ⟨it.n,by simp,Nat.zero_le _,ι1,M1, [], [], .fresh hacc,w1.addA hacc,upd_same, .nil,Nat.le_refl _,I0⟩, ?_⟩
 rintro i m H2 ⟨rfl,hin,ι2,M2,at',ys,l2,w2,hys,rys,hat,I2⟩
 have lea:=key ι2 H2 l2 w2.na
 by_cases hlt:i < it.n
 ·obtain ⟨ok,step⟩:=It i at' M2 hlt hat I2
  obtain ⟨jgo,jy⟩:=(hJ _ ι2 H2 M2 i lea w2 ok).1 hlt
  refine .inr ⟨jgo,fun H' => ∃ ι2 M2 at' ys,Le ι1 H1 ι2 H'∧Wd (fun x => A x∨x = acc) ι2 H' M2∧H' acc = some (.lst ys)∧RepTs (Av (fun x => A x∨x = acc) ι2) H' ys at'∧at'.length≤i + 1∧Iv (i + 1) at' M2,fun H' h => ⟨it.n - (i + 1),by omega,rfl,hlt,h⟩,fun x H3 y => ?_⟩
  obtain ⟨u,hu,l3,w3,r3⟩:=jy x H3 y
  have l13:=l2.trans l3
  have nacc:∀ {ι':List Addr} {H':Hp} {M':MM},Wd (fun x => A x∨x = acc) ι' H' M'→acc ∉ ι':=fun w z => w.na acc z (.inr rfl)
  have ys3:H3 acc = some (.lst ys):=l3.fr _ _ hys (nacc w2)
  have env3:EnvR (fun x => A x∨x = acc) ι2 H3 (vE bs n σ) (Kq bs n ρ):=(e1.mask).lea (key ι2 H3 l13 w3.na)
  refine hg _ ι2 σ H3 _ M2 x u _ _ hσ w3 env3 r3 (step u hu) fun ρ4 σ4 e4 x4 len4 q4 => ⟨⟨x4,len4⟩, ?_⟩
  refine ht _ ι2 σ4 H3 ρ4 M2 _ _ w3 e4 q4 fun b M5 ι5 H5 l5 w5 q5 => ?_
  have ys5:H5 acc = some (.lst ys):=l5.fr _ _ ys3 (nacc w3)
  have rys5:RepTs (Av (fun x => A x∨x = acc) ι5) H5 ys at':=Paired.mapP rys fun _ _ q => (q.le l3).le l5
  cases b with
  | false => exact ⟨ι5,M5,at',ys,l13.trans l5,w5,ys5,rys5,Nat.le_succ_of_le hat,q5⟩
  | true =>
   refine he _ ι5 σ4 H5 ρ4 M5 _ _ w5 (e4.le l5) q5 fun z M6 ι6 zv H6 l6 w6 r6 q6 => ?_
   obtain ⟨t,rfl,q6⟩:=q6
   have ys6:H6 acc = some (.lst ys):=l6.fr _ _ ys5 (nacc w5)
   refine ⟨ys,ys6, ?_,ι6,M6,at' ++ [t],ys ++ [zv],((l13.trans l5).trans l6).updF hacc,(w6.updA (.inr rfl) ys6).2,upd_same, ?_,by rw [List.length_append,List.length_singleton]; omega,q6⟩
   ·rw [rys.len]; omega
   ·have hl:=(w6.updA (o:=.lst (ys ++ [zv])) (.inr rfl) ys6).1
    cases r6 with
    | p r6 => exact Paired.app (Paired.mapP rys5 fun _ _ q => (q.le l6).mono hl.av) (.cons (r6.mono hl.av) .nil)
 ·have ei:i = it.n:=by omega
  subst ei
  obtain ⟨ok,fin⟩:=Id at' M2 I2
  refine .inl ⟨(hJ _ ι2 H2 M2 _ lea w2 ok).2 rfl,k _ M2 ι2 _ H2 (l1.trans l2) (w2.lessA fun x hx => .inl hx) (.p (.lstP (fun z => ?_) hys (Paired.mapP rys fun _ _ q => q.mono fun x o hx ex => ⟨ex,fun z => hx (z.elim (fun z => .inl (.inl z)) .inr)⟩))) fin⟩
  rcases z with z | z
  ·exact na (.inl z)
  ·exact w2.na acc z (.inr rfl)
end
section
variable {ta:TE} {ua ub uc:UE} {tt:TT} {ut:UT} {tl:TA} {ul:UA} {n:Nat} {A:Addr→Prop} {H H' H1 H2:Hp} {ι ι' ι1 ι2:List Addr} {M M':MM} {v:V} {u:U} {t:T} {σ:St} {ρ:UEnv}
structure UEnds where
 nx:UEnv→MM→Prop
 rt:UK
 bk:UEnv→MM→Prop:=fun _ _ => False
 ct:UEnv→MM→Prop:=fun _ _ => False
abbrev US:=UEnds→UEnv→MM→Prop
structure EndsR (A:Addr→Prop) (ι0:List Addr) (H0:Hp) (E:UEnds) (D:Ends):Prop where
 nx:∀ ι σ H ρ M,Le ι0 H0 ι H→Wd A ι H M→EnvR A ι H σ ρ→E.nx ρ M→D.nx σ H
 rt:∀ ι v H u M,Le ι0 H0 ι H→Wd A ι H M→RepU A ι H v u→E.rt u M→D.rt v H
 bk:∀ ι σ H ρ M,Le ι0 H0 ι H→Wd A ι H M→EnvR A ι H σ ρ→E.bk ρ M→D.bk σ H
 ct:∀ ι σ H ρ M,Le ι0 H0 ι H→Wd A ι H M→EnvR A ι H σ ρ→E.ct ρ M→D.ct σ H
theorem EndsR.le {E:UEnds} {D:Ends} (l:Le ι H ι' H') (r:EndsR A ι H E D):EndsR A ι' H' E D :=
 ⟨fun _ _ _ _ _ h => r.nx _ _ _ _ _ (l.trans h),fun _ _ _ _ _ h => r.rt _ _ _ _ _ (l.trans h),fun _ _ _ _ _ h => r.bk _ _ _ _ _ (l.trans h),fun _ _ _ _ _ h => r.ct _ _ _ _ _ (l.trans h)⟩
def LS (ts:TS) (us:US):Prop:=∀ (A:Addr→Prop) (ι:List Addr) (σ:St) (H:Hp) (ρ:UEnv) (M:MM) (D:Ends) (E:UEnds),Wd A ι H M→EnvR A ι H σ ρ→EndsR A ι H E D→us E ρ M→ts D σ H
variable {ts ts':TS} {us us':US}
def uNext:US:=fun E ρ M => E.nx ρ M
def uSeq (a b:US):US:=fun E ρ M => a { E with nx:=b E } ρ M
def uDrop (ua:UE):US:=fun E ρ M => ua ρ M fun _ M1 => E.nx ρ M1
def uRet (ua:UE):US:=fun E ρ M => ua ρ M E.rt
def uRetN:US:=fun E ρ M => E.rt (.p .non) M
def uIfS (c:UT) (a b:US):US:=fun E ρ M => c ρ M fun k M1 => if k = true then a E ρ M1 else b E ρ M1
def uAsg (ua:UE) (g:UG):US:=fun E ρ M => ua ρ M fun x M1 => g x ρ M1 E.nx
theorem ls_next:LS zn uNext:=fun A ι σ H ρ M D E w e r q => r.nx ι σ H ρ M (.refl _ _) w e q
theorem ls_seq (ha:LS ts us) (hb:LS ts' us'):LS (tSeq ts ts') (uSeq us us'):=fun A ι σ H ρ M D E w e r q =>
 ha A ι σ H ρ M _ { E with nx:=us' E } w e ⟨fun ι1 σ1 H1 ρ1 M1 l w1 e1 q1 => hb A ι1 σ1 H1 ρ1 M1 D E w1 e1 (r.le l) q1,r.rt,r.bk,r.ct⟩ q
theorem ls_drop (ha:LE ta ua):LS (zy ta) (uDrop ua):=fun A ι σ H ρ M D E w e r q =>
 ha A ι σ H ρ M _ _ w e q fun x M1 ι1 v H1 l1 w1 r1 q1 => r.nx ι1 σ H1 ρ M1 l1 w1 (e.le l1) q1
theorem ls_ret (ha:LE ta ua):LS (tRet ta) (uRet ua):=fun A ι σ H ρ M D E w e r q =>
 ha A ι σ H ρ M _ _ w e q fun x M1 ι1 v H1 l1 w1 r1 q1 => r.rt ι1 v H1 x M1 l1 w1 r1 q1
theorem ls_retN:LS zw uRetN:=fun A ι σ H ρ M D E w e r q => r.rt ι .non H _ M (.refl _ _) w (.p .non) q
theorem ls_if (hc:LT tt ut) (ha:LS ts us) (hb:LS ts' us'):LS (tIfS tt ts ts') (uIfS ut us us'):=fun A ι σ H ρ M D E w e r q =>
 hc A ι σ H ρ M _ _ w e q fun c M1 ι1 H1 l1 w1 q1 => by
  cases c with
  | true => exact ha A ι1 σ H1 ρ M1 D E w1 (e.le l1) (r.le l1) q1
  | false => exact hb A ι1 σ H1 ρ M1 D E w1 (e.le l1) (r.le l1) q1
theorem ls_asg {g:TG} {ug:UG} (ha:LE ta ua) (hg:LG g ug):LS (tAsg ta g) (uAsg ua ug):=fun A ι σ H ρ M D E w e r q =>
 ha A ι σ H ρ M _ _ w e q fun x M1 ι1 v H1 l1 w1 r1 q1 => hg A ι1 σ H1 ρ M1 v x _ _ w1 (e.le l1) r1 q1 fun ρ2 M2 ι2 σ2 H2 l2 w2 e2 q2 => r.nx ι2 σ2 H2 ρ2 M2 (l1.trans l2) w2 e2 q2
def UFor (it:UIt) (ug:UG) (ub:US) (E:UEnds) (ρ:UEnv) (M1:MM):Prop:=∃ Iv:Nat→UEnv→MM→Prop,Iv 0 ρ M1 ∧
 (∀ i ρ2 M2,i < it.n→Iv i ρ2 M2→it.ok M2∧∀ u,it.item i u→ug u ρ2 M2 fun ρ3 M3 => ub { E with nx:=Iv (i + 1),ct:=Iv (i + 1),bk:=E.nx } ρ3 M3) ∧
 (∀ ρ2 M2,Iv it.n ρ2 M2→it.ok M2∧E.nx ρ2 M2)
def uFor (ui:UI) (ug:UG) (ub:US):US:=fun E ρ M => ui ρ M fun it M1 => UFor it ug ub E ρ M1
theorem ls_for {wi:TI} {ui:UI} {g:TG} {ug:UG} (hi:LI wi ui) (hg:LG g ug) (hb:LS ts us):LS (tFor wi g ts) (uFor ui ug us):=by
 intro A ι σ H ρ M D E w e r q
 refine hi A ι σ H ρ M _ _ w e q fun it M1 ι1 J H1 l1 w1 hJ q1 => ?_
 obtain ⟨Iv,I0,It,Id⟩:=q1
 have r1:=r.le l1
 refine ⟨fun i m σ2 H2 => m = it.n - i∧i≤it.n∧∃ ι2 ρ2 M2,Le ι1 H1 ι2 H2∧Wd A ι2 H2 M2∧EnvR A ι2 H2 σ2 ρ2∧Iv i ρ2 M2,⟨it.n,by simp,Nat.zero_le _,ι1,ρ,M1, .refl _ _,w1,e.le l1,I0⟩, ?_⟩
 rintro i m σ2 H2 ⟨rfl,hin,ι2,ρ2,M2,l2,w2,e2,I2⟩
 by_cases hlt:i < it.n
 ·obtain ⟨ok,step⟩:=It i ρ2 M2 hlt I2
  obtain ⟨jgo,jy⟩:=(hJ A ι2 H2 M2 i l2.lea w2 ok).1 hlt
  refine .inr ⟨jgo,fun σ' H' => ∃ ι2 ρ2 M2,Le ι1 H1 ι2 H'∧Wd A ι2 H' M2∧EnvR A ι2 H' σ' ρ2∧Iv (i + 1) ρ2 M2,fun σ' H' h => ⟨it.n - (i + 1),by omega,rfl,hlt,h⟩,fun x H3 y => ?_⟩
  obtain ⟨u,hu,l3,w3,r3⟩:=jy x H3 y
  refine hg A ι2 σ2 H3 ρ2 M2 x u _ _ w3 (e2.le l3) r3 (step u hu) fun ρ4 M4 ι4 σ4 H4 l4 w4 e4 q4 => ?_
  have l14:=(l2.trans l3).trans l4
  exact hb A ι4 σ4 H4 ρ4 M4 _ { E with nx:=Iv (i + 1),ct:=Iv (i + 1),bk:=E.nx } w4 e4 ⟨fun ι5 σ5 H5 ρ5 M5 l5 w5 e5 q5 => ⟨ι5,ρ5,M5,l14.trans l5,w5,e5,q5⟩,(r1.le l14).rt,(r1.le l14).nx,fun ι5 σ5 H5 ρ5 M5 l5 w5 e5 q5 => ⟨ι5,ρ5,M5,l14.trans l5,w5,e5,q5⟩⟩ q4
 ·have ei:i = it.n:=by omega
  subst ei
  obtain ⟨ok,fin⟩:=Id ρ2 M2 I2
  exact .inl ⟨(hJ A ι2 H2 M2 _ l2.lea w2 ok).2 rfl,r1.nx ι2 σ2 H2 ρ2 M2 l2 w2 e2 fin⟩
def uWhile (uc:UT) (ub:US):US:=fun E ρ M => ∃ W:Nat→UEnv→MM→Prop,(∃ m,W m ρ M)∧∀ m ρ M,W m ρ M →
 uc ρ M fun b M1 => if b = true then ∃ N:UEnv→MM→Prop,(∀ ρ' M',N ρ' M'→∃ m',m' < m∧W m' ρ' M')∧ub { E with nx:=N,ct:=N,bk:=E.nx } ρ M1 else E.nx ρ M1
theorem ls_while (hc:LT tt ut) (hb:LS ts us):LS (Zl tt ts) (uWhile ut us):=by
 intro A ι σ H ρ M D E w e r q
 obtain ⟨W,⟨m0,W0⟩,step⟩:=q
 refine ⟨fun m σ2 H2 => ∃ ι2 ρ2 M2,Le ι H ι2 H2∧Wd A ι2 H2 M2∧EnvR A ι2 H2 σ2 ρ2∧W m ρ2 M2,⟨m0,ι,ρ,M, .refl _ _,w,e,W0⟩, ?_⟩
 rintro m σ2 H2 ⟨ι2,ρ2,M2,l2,w2,e2,W2⟩
 refine hc A ι2 σ2 H2 ρ2 M2 _ _ w2 e2 (step m ρ2 M2 W2) fun b M3 ι3 H3 l3 w3 q3 => ?_
 cases b with
 | false => exact r.nx ι3 σ2 H3 ρ2 M3 (l2.trans l3) w3 (e2.le l3) q3
 | true =>
  obtain ⟨N,hN,q3⟩:=q3
  have l13:=l2.trans l3
  refine ⟨fun σ' H' => ∃ ι4 ρ4 M4,Le ι H ι4 H'∧Wd A ι4 H' M4∧EnvR A ι4 H' σ' ρ4∧N ρ4 M4, ?_, ?_⟩
  ·rintro σ' H' ⟨ι4,ρ4,M4,l4,w4,e4,n4⟩
   obtain ⟨m',hm,W4⟩:=hN ρ4 M4 n4
   exact ⟨m',hm,ι4,ρ4,M4,l4,w4,e4,W4⟩
  ·exact hb A ι3 σ2 H3 ρ2 M3 _ { E with nx:=N,ct:=N,bk:=E.nx } w3 (e2.le l3) ⟨fun ι5 σ5 H5 ρ5 M5 l5 w5 e5 q5 => ⟨ι5,ρ5,M5,l13.trans l5,w5,e5,q5⟩,(r.le l13).rt,(r.le l13).nx,fun ι5 σ5 H5 ρ5 M5 l5 w5 e5 q5 => ⟨ι5,ρ5,M5,l13.trans l5,w5,e5,q5⟩⟩ q3
def MeL (r:V→List V→Hp→VK→Prop) (s:List U→List U→(U→List U→Prop)→Prop):Prop:=∀ (A:Addr→Prop) (ι:List Addr) (H:Hp) (M:MM) (k:Nat) (a:Addr) (xs ys:List V) (us ws:List U) (Qs:U→List U→Prop) (Q:VK),Wd A ι H M→ι[k]? = some a→H a = some (.lst xs)→M[k]? = some (.lst us)→RepUs A ι H xs us→RepUs A ι H ys ws→s us ws Qs →
 (∀ z us' v xs',RepUs A ι H xs' us'→RepU A ι H v z→Qs z us'→Q v (upd H a (.lst xs')))→r (.ref a) ys H Q
def uMe (s:List U→List U→(U→List U→Prop)→Prop) (uo:UE) (ul:UA):UE:=fun ρ M Q => uo ρ M fun o M1 => ∃ k,o = .m k∧(∃ zs,M1[k]? = some (.lst zs))∧ul ρ M1 fun ws M2 => ∃ us,M2[k]? = some (.lst us)∧s us ws fun z us' => Q z (M2.set k (.lst us'))
theorem le_me {r:V→List V→Hp→VK→Prop} {s:List U→List U→(U→List U→Prop)→Prop} (h:MeL r s) (ha:LE ta ua) (hl:LA n tl ul):LE (tLM r ta tl) (uMe s ua ul):=fun A ι σ H ρ M Qu Q w e q k =>
 ha A ι σ H ρ M _ _ w e q fun o M1 ι1 v H1 l1 w1 r1 ⟨kk,eo,⟨zs,hz⟩,q1⟩ => by
  subst eo
  cases r1 with
  | m ek =>
  rename_i a
  obtain ⟨xs1,h1,_⟩:=w1.obj kk a _ ek hz
  refine ⟨a,xs1,rfl,h1,hl A ι1 σ H1 ρ M1 _ _ w1 (e.le l1) q1 fun ws M2 ι2 ys H2 l2 w2 hn r2 q2 => ?_⟩
  obtain ⟨us,hus,q2⟩:=q2
  have ek2:ι2[kk]? = some a:=by
   obtain ⟨nn,rfl,_⟩:=l2.ext
   rw [List.getElem?_append_left (List.getElem?_eq_some_iff.mp ek).1]; exact ek
  obtain ⟨xs2,h3,h4⟩:=w2.obj kk a _ ek2 hus
  have hm:=List.mem_of_getElem? ek2
  exact h A ι2 H2 M2 kk a xs2 ys us ws _ Q w2 ek2 h3 hus h4 r2 q2 fun z us' zv xs' rx rz qz => k z _ ι2 zv _ ((l1.trans l2).trans (.put hm)) (w2.put (mo:=.lst us') ek2 ⟨xs',upd_same,RepUs.le (.put hm) rx⟩) (rz.le (.put hm)) qz
def Jj:List U→List U→(U→List U→Prop)→Prop:=fun us ws Q => ∃ y,ws = [y]∧us.length < sizeLine∧Q (.p .non) (us ++ [y])
theorem jw:MeL JN Jj:=fun A ι H M k a xs ys us ws Qs Q w ek h1 h2 rx ry ⟨y,ey,hz,q⟩ kk => by
 subst ey
 cases ry with
 | cons r q' =>
 cases q'
 exact ⟨a,xs,_,rfl,rfl,h1,by rw [rx.len]; exact hz,kk _ _ _ _ (rx.app (.cons r .nil)) (.p .non) q⟩
def spU (G:List U→MM→UK→Prop):Sp:=fun vs H Q _ => ∃ A ι M us Qu,Wd A ι H M∧RepUs A ι H vs us∧G us M Qu∧∀ u M' ι' v H',Le ι H ι' H'→Wd A ι' H' M'→RepU A ι' H' v u→Qu u M'→Q v H'
def uCall (G:List U→MM→UK→Prop) (ul:UA):UE:=fun ρ M Q => ul ρ M fun us M1 => G us M1 Q
theorem le_callU {G:List U→MM→UK→Prop} {E:XK} (ha:LA n tl ul):LE (vN (spU G) [] E tl) (uCall G ul):=fun A ι σ H ρ M Qu Q w e q k =>
 ha A ι σ H ρ M _ _ w e q fun us M1 ι1 vs H1 l1 w1 hn r1 q1 => by
  rw [List.append_nil]
  exact ⟨A,ι1,M1,us,_,w1,r1,q1,fun u M2 ι2 v H2 l2 w2 r2 q2 => k u M2 ι2 v H2 (l1.trans l2) w2 r2 q2⟩
def spP (G:List T→(T→Prop)→Prop):Sp:=fun vs H Q _ => ∃ A ts Qt,(∀ x,A x→H x≠none)∧RepTs A H vs ts∧G ts Qt∧∀ t v H',Same H H'→RepT A H' v t→Qt t→Q v H'
def X6 (G:List T→(T→Prop)→Prop) (ul:UA):UE:=fun ρ M Q => ul ρ M fun us M1 => ∃ ts,za us = some ts∧G ts fun t => Q (.p t) M1
def X5 (G:List T→(T→Prop)→Prop) (ul:UA):UE:=fun ρ M Q => ul ρ M fun us M1 => ∃ ts,sns M1 us = some ts∧G ts fun t => (∃ x,vt t = some x)∧Q (.p t) M1
theorem Same.le (s:Same H H'):Le ι H ι H':=⟨⟨[],by simp,by simp⟩,fun x o e _ => s x o e,fun x e => by
 cases q:H x with
 | none => exact absurd q e
 | some o => rw [s x o q]; simp⟩
theorem Wd.same (w:Wd A ι H M) (s:Same H H'):Wd A ι H' M :=
 ⟨w.nd,w.len,fun x hx => (Same.le (ι:=ι) s).al x (w.dom x hx),w.na,fun k a ob e1 e2 => (w.obj k a ob e1 e2).le' s.le (by
  obtain ⟨o,ho⟩:=(w.obj k a ob e1 e2).some
  rw [ho,s _ _ ho]) fun x ex => by rw [ex,s _ _ ex]⟩
theorem Wd.domAv (w:Wd A ι H M):∀ x,Av A ι x→H x≠none:=fun x h => by
 rcases h with h | h
 ·exact w.dom x h
 ·obtain ⟨o,ho⟩:=w.mem_some h
  rw [ho]; simp
theorem le_callP {G:List T→(T→Prop)→Prop} {E:XK} (ha:LA n tl ul):LE (vN (spP G) [] E tl) (X6 G ul):=fun A ι σ H ρ M Qu Q w e q k =>
 ha A ι σ H ρ M _ _ w e q fun us M1 ι1 vs H1 l1 w1 hn r1 ⟨ts,et,q1⟩ => by
  rw [List.append_nil]
  rw [v8 et] at r1
  exact ⟨Av A ι1,ts,_,w1.domAv,r1.pures,q1,fun t v H2 s r2 q2 => k _ M1 ι1 v H2 (l1.trans s.le) (w1.same s) (.p r2) q2⟩
theorem RepU.snT (w:Wd A ι H M) (r:RepU A ι H v u) (e:L2.sn M u = some t):RepT A H v t:=by
 have wk:∀ {v t},RepT (Av A ι) H v t→RepT A H v t:=fun r => r.mono fun x o hx ex => ⟨ex,fun z => hx (.inl z)⟩
 cases r with
 | p r => simp [L2.sn] at e; subst e; exact wk r
 | m q =>
  obtain ⟨o,h1,h2⟩:=w.al q
  have hna:=w.na _ (List.mem_of_getElem? q)
  simp only [L2.sn,h1] at e
  cases o with
  | lst us =>
   simp at e
   obtain ⟨ts,e1,rfl⟩:=e
   obtain ⟨vs,h3,h4⟩:=h2
   rw [v8 e1] at h4
   exact .lstP hna h3 (Paired.mapP h4.pures fun _ _ q => wk q)
  | tup us =>
   simp at e
   obtain ⟨ts,e1,rfl⟩:=e
   obtain ⟨vs,h3,h4⟩:=h2
   rw [v8 e1] at h4
   exact .tupP hna h3 (Paired.mapP h4.pures fun _ _ q => wk q)
  | ins => simp at e
  | dK => simp at e
 | x h => simp [L2.sn] at e
theorem RepUs.snsT (w:Wd A ι H M):∀ {vs:List V} {us:List U} {ts:List T},RepUs A ι H vs us→L2.sns M us = some ts→RepTs A H vs ts
 | _,_,ts, .nil,e => by simp [L2.sns] at e; subst e; exact .nil
 | _,_,ts, .cons r q,e => by
  simp only [L2.sns] at e
  split at e
  ·rename_i h1 h2
   simp at e; subst e
   exact .cons (r.snT w h1) (RepUs.snsT w q h2)
  ·cases e
theorem le_callS {G:List T→(T→Prop)→Prop} {E:XK} (ha:LA n tl ul):LE (vN (spP G) [] E tl) (X5 G ul):=fun A ι σ H ρ M Qu Q w e q k =>
 ha A ι σ H ρ M _ _ w e q fun us M1 ι1 vs H1 l1 w1 hn r1 ⟨ts,et,q1⟩ => by
  rw [List.append_nil]
  refine ⟨A,ts,_,w1.dom,r1.snsT w1 et,q1,fun t v H2 s r2 ⟨⟨x,hx⟩,q2⟩ => k _ M1 ι1 v H2 (l1.trans s.le) (w1.same s) (.p ?_) q2⟩
  cases (RepV.of r2).sc (y:=.non) hx
  exact (Qo hx).rep
def frzs (f:U→Option T):List U→Option (List T)
 | [] => some []
 | u :: r => match f u,frzs f r with
  | some t,some ts => some (t :: ts)
  | _,_ => none
def frzN:Nat→MM→U→Option T
 | _,_, .p t => some t
 | 0,_, .m _ => none
 | _,_, .x _ _ _ => none
 | n + 1,M, .m k => match M[k]? with
  | some (.lst us) => (frzs (frzN n M) us).map T.lst
  | some (.tup us) => (frzs (frzN n M) us).map T.tup
  | _ => none
theorem ZZ {f:U→Option T} {vs:List V} {us:List U} {ts:List T} (r:RepUs A ι H vs us) (h:∀ v u t,RepU A ι H v u→f u = some t→RepT A H v t) (e:frzs f us = some ts):RepTs A H vs ts:=by
 induction r generalizing ts with
 | nil => simp [frzs] at e; subst e; exact .nil
 | cons r q ih =>
  simp only [frzs] at e
  split at e
  ·rename_i h1 h2
   simp at e; subst e
   exact .cons (h _ _ _ r h1) (ih h2)
  ·cases e
theorem V7 (w:Wd A ι H M):∀ {n:Nat} {v:V} {u:U} {t:T},RepU A ι H v u→frzN n M u = some t→RepT A H v t
 | n,v, .p t',t, .p r,e => by
  cases n <;> simp [frzN] at e <;> subst e <;> exact r.mono fun x o hx ex => ⟨ex,fun z => hx (.inl z)⟩
 | 0,v, .m k,t,r,e => by simp [frzN] at e
 | n,v, .x a d q,t,r,e => by cases n <;> simp [frzN] at e
 | n + 1,v, .m k,t,r,e => by
  cases r with
  | m q =>
  obtain ⟨o,h1,h2⟩:=w.al q
  have hna:=w.na _ (List.mem_of_getElem? q)
  simp only [frzN,h1] at e
  cases o with
  | lst us =>
   simp at e
   obtain ⟨ts,e1,rfl⟩:=e
   obtain ⟨vs,h3,h4⟩:=h2
   exact .lstP hna h3 (ZZ h4 (fun v u t r e => V7 w r e) e1)
  | tup us =>
   simp at e
   obtain ⟨ts,e1,rfl⟩:=e
   obtain ⟨vs,h3,h4⟩:=h2
   exact .tupP hna h3 (ZZ h4 (fun v u t r e => V7 w r e) e1)
  | ins => simp at e
  | dK => simp at e
@[simp] theorem frzN_p {n:Nat} {M:MM} {t:T}:frzN n M (.p t) = some t:=by cases n <;> rfl
def xi (N:List Str) (us:List U):UEnv:=us.map some ++ List.replicate (N.length - us.length) none
theorem xX {N:List Str} {vs:List V} {us:List U} (r:RepUs A ι H vs us):EnvR A ι H (start N vs) (xi N us):=by
 unfold start xi
 refine Paired.app ?_ ?_
 ·exact Paired.mapR (f:=some) (F:=fun s u => ∃ v,s = some v∧RepU A ι H v u) (fun a b q u e => by cases e; exact q) (by
   induction r with
   | nil => exact .nil
   | cons r q ih => exact .cons ⟨_,rfl,r⟩ ih)
 ·rw [r.len]
  generalize N.length - us.length = m
  induction m with
  | zero => exact .nil
  | succ m ih => exact .cons (fun u e => by cases e) ih
end
section
variable {P:Program} {w:World} {K:PySem.W.Frag} {mg:Str→Option Value} {base:Heap}
theorem Fun.okU {x qual:Str} {st:Stmt} {f:Addr} {fd:FuncData} {N ps:List Str} {k:Nat} {G:List U→MM→UK→Prop} (F:Fun K x qual st f fd) (S:FnScope N ps (qc st)) (len:∀ us M Qu,G us M Qu→us.length = ps.length)
  (hbody:∀ (cdv:Value) (A:Around) (outer:List Env) (s:Shared) (H:Hp) (E:XK),Room k (A.deeper (envOfC qual (qc st) s.heap.objs.size f cdv)) →
   ∃ t,PSs (cxOf CX0 P w K mg base N qual (qc st) f cdv A outer s H E).nox (qg st) t∧∃ u,LS t u∧∀ us M Qu,G us M Qu→u { nx:=fun _ M' => Qu (.p .non) M',rt:=Qu } (xi N us) M):FnOk P w K mg base CX0 (k + 1) f fd ps (spU G):=by
 refine F.ok S (fun vs H Q E h => ?_) (fun cdv A outer s H vs Q E hr h => ?_)
 ·obtain ⟨A,ι,M,us,Qu,w1,r,g,_⟩:=h
  rw [r.len]; exact len us M Qu g
 ·obtain ⟨B,ι,M,us,Qu,w1,r,g,kk⟩:=h
  obtain ⟨t,ht,u,hu,hb⟩:=hbody cdv A outer s H E hr
  refine ⟨t,ht,hu B ι _ H _ M _ { nx:=fun _ M' => Qu (.p .non) M',rt:=Qu } w1 (xX r) ⟨fun ι1 σ1 H1 ρ1 M1 l1 w1 e1 q1 => kk _ M1 ι1 _ H1 l1 w1 (.p .non) q1,fun ι1 v H1 z M1 l1 w1 r1 q1 => kk z M1 ι1 v H1 l1 w1 r1 q1,fun _ _ _ _ _ _ _ _ q => q.elim,fun _ _ _ _ _ _ _ _ q => q.elim⟩ (hb us M Qu g)⟩
theorem Fun.okP {x qual:Str} {st:Stmt} {f:Addr} {fd:FuncData} {N ps:List Str} {k:Nat} {G:List T→(T→Prop)→Prop} (F:Fun K x qual st f fd) (S:FnScope N ps (qc st)) (len:∀ ts Qt,G ts Qt→ts.length = ps.length)
  (hbody:∀ (cdv:Value) (A:Around) (outer:List Env) (s:Shared) (H:Hp) (E:XK),Room k (A.deeper (envOfC qual (qc st) s.heap.objs.size f cdv)) →
   ∃ t,PSs (cxOf CX0 P w K mg base N qual (qc st) f cdv A outer s H E).nox (qg st) t∧∃ u,LS t u∧∀ ts Qt,G ts Qt→u { nx:=fun _ _ => Qt .non,rt:=fun z M' => ∃ t,frzN 4 M' z = some t∧Qt t } (xi N (ts.map U.p)) []):FnOk P w K mg base CX0 (k + 1) f fd ps (spP G):=by
 refine F.ok S (fun vs H Q E h => ?_) (fun cdv A outer s H vs Q E hr h => ?_)
 ·obtain ⟨A,ts,Qt,hd,r,g,_⟩:=h
  rw [r.len]; exact len ts Qt g
 ·obtain ⟨B,ts,Qt,hd,r,g,kk⟩:=h
  obtain ⟨t,ht,u,hu,hb⟩:=hbody cdv A outer s H E hr
  have w0:Wd B [] H []:=⟨List.nodup_nil,rfl,hd,fun x hx => by simp at hx,fun k a o e _ => by simp at e⟩
  have same:∀ {ι1:List Addr} {H1:Hp},Le [] H ι1 H1→Same H H1:=fun l b o e => l.fr b o e (by simp)
  have r0:RepUs B [] H vs (ts.map U.p):=RepTs.ups (Paired.mapP r fun _ _ q => q.mono fun x o hx ex => ⟨ex,fun z => z.elim hx (by simp)⟩)
  refine ⟨t,ht,hu B [] _ H _ [] _ { nx:=fun _ _ => Qt .non,rt:=fun z M' => ∃ t,frzN 4 M' z = some t∧Qt t } w0 (xX r0) ⟨fun ι1 σ1 H1 ρ1 M1 l1 w1 e1 q1 => kk _ _ H1 (same l1) .non q1,fun ι1 v H1 z M1 l1 w1 r1 ⟨t1,et,q1⟩ => kk t1 v H1 (same l1) (V7 w1 r1 et) q1,fun _ _ _ _ _ _ _ _ q => q.elim,fun _ _ _ _ _ _ _ _ q => q.elim⟩ (hb ts Qt g)⟩
end
section
variable {ua ub uc:UE} {ut:UT} {ul:UA} {us us':US} {n:Nat} {M M1:MM} {u:U} {t:T} {ρ:UEnv} {Q:UK} {QB:Bool→MM→Prop} {E:UEnds} {ug:UG}
def OpS (s:T→T→(T→Prop)→Prop) (M:MM) (x y:U) (Q:UK):Prop:=∃ a b,sn M x = some a∧sn M y = some b∧s a b fun t => Q (.p t) M
theorem rd_op {s:T→T→(T→Prop)→Prop}:uOp s ua ub ρ M Q = ua ρ M fun x M1 => ub ρ M1 fun y M2 => OpS s M2 x y Q:=rfl
theorem rd_opS {s:T→T→(T→Prop)→Prop} {a b:T}:OpS s M (.p a) (.p b) Q = s a b fun t => Q (.p t) M :=
 propext ⟨fun ⟨_,_,e1,e2,h⟩ => by cases e1; cases e2; exact h,fun h => ⟨a,b,rfl,rfl,h⟩⟩
theorem rd_sI {C:Int→Int→Prop} {g:Int→Int→T} {i j:Int} {Q:T→Prop}:sI C g (.int i) (.int j) Q = (C i j∧Q (g i j)) :=
 propext ⟨fun ⟨_,_,e1,e2,h⟩ => by cases e1; cases e2; exact h,fun h => ⟨i,j,rfl,rfl,h⟩⟩
theorem rd_sI0 {g:Int→Int→T} {i j:Int} {Q:T→Prop}:sI0 g (.int i) (.int j) Q = Q (g i j) :=
 propext ⟨fun ⟨_,_,e1,e2,h⟩ => by cases e1; cases e2; exact h,fun h => ⟨i,j,rfl,rfl,h⟩⟩
theorem rd_eqI {i j:Int} {Q:T→Prop}:sEq false (.int i) (.int j) Q = Q (.bl (decide (i = j))):=by
 refine propext ⟨fun ⟨x,y,e1,e2,_,h⟩ => ?_,fun h => ⟨_,_,rfl,rfl,rfl, ?_⟩⟩
 ·simp [vt] at e1 e2; subst e1 e2; simpa using h
 ·simpa using h
theorem rd_neI {i j:Int} {Q:T→Prop}:sEq true (.int i) (.int j) Q = Q (.bl (!decide (i = j))):=by
 refine propext ⟨fun ⟨x,y,e1,e2,_,h⟩ => ?_,fun h => ⟨_,_,rfl,rfl,rfl, ?_⟩⟩
 ·simp [vt] at e1 e2; subst e1 e2; simpa using h
 ·simpa using h
theorem rd_eqS {i j:Str} {Q:T→Prop}:sEq false (.str i) (.str j) Q = Q (.bl (decide (i = j))):=by
 refine propext ⟨fun ⟨x,y,e1,e2,_,h⟩ => ?_,fun h => ⟨_,_,rfl,rfl,rfl, ?_⟩⟩
 ·simp [vt] at e1 e2; subst e1 e2; simpa using h
 ·simpa using h
theorem rd_neS {i j:Str} {Q:T→Prop}:sEq true (.str i) (.str j) Q = Q (.bl (!decide (i = j))):=by
 refine propext ⟨fun ⟨x,y,e1,e2,_,h⟩ => ?_,fun h => ⟨_,_,rfl,rfl,rfl, ?_⟩⟩
 ·simp [vt] at e1 e2; subst e1 e2; simpa using h
 ·simpa using h
theorem rd_eqB {i j:Bool} {Q:T→Prop}:sEq false (.bl i) (.bl j) Q = Q (.bl (decide (i = j))):=by
 refine propext ⟨fun ⟨x,y,e1,e2,_,h⟩ => ?_,fun h => ⟨_,_,rfl,rfl,rfl, ?_⟩⟩
 ·simp [vt] at e1 e2; subst e1 e2; simpa using h
 ·simpa using h
theorem rd_neB {i j:Bool} {Q:T→Prop}:sEq true (.bl i) (.bl j) Q = Q (.bl (!decide (i = j))):=by
 refine propext ⟨fun ⟨x,y,e1,e2,_,h⟩ => ?_,fun h => ⟨_,_,rfl,rfl,rfl, ?_⟩⟩
 ·simp [vt] at e1 e2; subst e1 e2; simpa using h
 ·simpa using h
def VarS (o:Option (Option U)) (M:MM) (Q:UK):Prop:=∃ u,o = some (some u)∧Q u M
theorem rd_var {i:Nat}:uVar i ρ M Q = VarS ρ[i]? M Q:=rfl
theorem Jn:VarS (some (some u)) M Q = Q u M:=propext ⟨fun ⟨_,e,h⟩ => by cases e; exact h,fun h => ⟨u,rfl,h⟩⟩
def IntS (x:U) (R:Int→Prop):Prop:=∃ i,x = .p (.int i)∧R i
theorem JE {i:Int} {R:Int→Prop}:IntS (.p (.int i)) R = R i:=propext ⟨fun ⟨_,e,h⟩ => by cases e; exact h,fun h => ⟨i,rfl,h⟩⟩
def BlS (x:U) (R:Bool→Prop):Prop:=∃ b,x = .p (.bl b)∧R b
theorem rd_blS {b:Bool} {R:Bool→Prop}:BlS (.p (.bl b)) R = R b:=propext ⟨fun ⟨_,e,h⟩ => by cases e; exact h,fun h => ⟨b,rfl,h⟩⟩
theorem rd_neg:uNeg ua ρ M Q = ua ρ M fun x M1 => IntS x fun i => Q (.p (.int (-i))) M1:=rfl
theorem JK:uBits ua ρ M Q = ua ρ M fun x M1 => IntS x fun i => Q (.p (.int (Builtin.Int.intBits i))) M1:=rfl
theorem rd_b:uB ua ρ M QB = ua ρ M fun x M1 => BlS x fun b => QB b M1:=rfl
theorem JL:uAndV ua ub ρ M Q = ua ρ M fun x M1 => BlS x fun c => if c = true then ub ρ M1 Q else Q (.p (.bl false)) M1:=rfl
theorem rd_orV:uOrV ua ub ρ M Q = ua ρ M fun x M1 => BlS x fun c => if c = true then Q (.p (.bl true)) M1 else ub ρ M1 Q:=rfl
theorem Jx:uNotV ua ρ M Q = ua ρ M fun x M1 => BlS x fun c => Q (.p (.bl (!c))) M1:=rfl
def ChS (s':T→T→(T→Prop)→Prop) (uc:UE) (ρ:UEnv) (M:MM) (y:U) (Q:UK) (z:T):Prop:=∃ k,z = .bl k∧if k = true then uc ρ M fun c M3 => OpS s' M3 y c Q else Q (.p (.bl false)) M
theorem Zy {s s':T→T→(T→Prop)→Prop}:Zj s s' ua ub uc ρ M Q = ua ρ M fun x M1 => ub ρ M1 fun y M2 => OpS s M2 x y fun z _ => ∃ t,z = .p t∧ChS s' uc ρ M2 y Q t :=
 propext (by
  have e:∀ (x y:U) (M2:MM),(∃ a b,sn M2 x = some a∧sn M2 y = some b∧s a b fun z => ∃ k,z = .bl k∧if k = true then uc ρ M2 fun c M3 => ∃ b' c',sn M3 y = some b'∧sn M3 c = some c'∧s' b' c' fun t => Q (.p t) M3 else Q (.p (.bl false)) M2) = (OpS s M2 x y fun z _ => ∃ t,z = .p t∧ChS s' uc ρ M2 y Q t):=fun x y M2 => by
   unfold OpS ChS
   have:∀ z:T,(∃ t,U.p z = .p t∧∃ k,t = .bl k∧if k = true then uc ρ M2 fun c M3 => OpS s' M3 y c Q else Q (.p (.bl false)) M2) = (∃ k,z = .bl k∧if k = true then uc ρ M2 fun c M3 => ∃ b' c',sn M3 y = some b'∧sn M3 c = some c'∧s' b' c' fun t => Q (.p t) M3 else Q (.p (.bl false)) M2):=fun z =>
    propext ⟨fun ⟨t,e,h⟩ => by cases e; exact h,fun h => ⟨z,rfl,h⟩⟩
   simp only [this]
  unfold Zj
  simp only [e])
theorem rd_chP {s':T→T→(T→Prop)→Prop} {y:U} {b:Bool}:(∃ t,U.p (.bl b) = .p t∧ChS s' uc ρ M y Q t) = if b = true then uc ρ M fun c M3 => OpS s' M3 y c Q else Q (.p (.bl false)) M :=
 propext ⟨fun ⟨t,e,k,e2,h⟩ => by cases e; cases e2; exact h,fun h => ⟨_,rfl,b,rfl,h⟩⟩
def PurS (us:List U) (R:List T→Prop):Prop:=∃ ts,za us = some ts∧R ts
theorem VH {ts:List T} {R:List T→Prop}:PurS (ts.map U.p) R = R ts:=propext ⟨fun ⟨_,e,h⟩ => by rw [zN] at e; cases e; exact h,fun h => ⟨ts,zN ts,h⟩⟩
theorem Ju {R:List T→Prop}:PurS [] R = R []:=VH (ts:=[])
theorem Jt {a:T} {us:List U} {R:List T→Prop}:PurS (.p a :: us) R = PurS us fun ts => R (a :: ts):=by
 refine propext ⟨fun ⟨ts,e,h⟩ => ?_,fun ⟨ts,e,h⟩ => ⟨a :: ts,by simp [za,e],h⟩⟩
 simp [za] at e
 obtain ⟨r,e1,rfl⟩:=e
 exact ⟨r,e1,h⟩
theorem rd_tup:uTup ul ρ M Q = ul ρ M fun us M1 => PurS us fun ts => Q (.p (.tup ts)) M1:=rfl
theorem rd_lst:uLst ul ρ M Q = ul ρ M fun us M1 => PurS us fun ts => Q (.p (.lst ts)) M1:=rfl
def IxS (it:MM→U→Option (List U)) (M:MM) (x y:U) (Q:UK):Prop:=∃ us i z,it M x = some us∧y = .p (.int i)∧atI us i = some z∧Q z M
theorem rd_ix {it:MM→U→Option (List U)}:uIx it ua ub ρ M Q = ua ρ M fun x M1 => ub ρ M1 fun y M2 => IxS it M2 x y Q:=rfl
theorem VY {it:MM→U→Option (List U)} {x:U} {us:List U} {i:Int} {z:U} (h1:it M x = some us) (h2:atI us i = some z) (q:Q z M):IxS it M x (.p (.int i)) Q:=⟨us,i,z,h1,rfl,h2,q⟩
theorem YA {ts:List T} {i:Int} {t:T} (h:atI ts i = some t):atI (ts.map U.p) i = some (.p t):=by
 unfold atI at h ⊢
 rw [List.length_map]
 cases e:ixN ts.length i with
 | none => rw [e] at h; cases h
 | some j => rw [e] at h; simp at h ⊢; rw [h]
theorem vU {ts:List T} {i:Int} {t:T} (h:atI ts i = some t) (q:Q (.p t) M):IxS qM M (.p (.lst ts)) (.p (.int i)) Q:=VY rfl (YA h) q
theorem ixt_at {ts:List T} {i:Int} {t:T} (h:atI ts i = some t) (q:Q (.p t) M):IxS zb M (.p (.tup ts)) (.p (.int i)) Q:=VY rfl (YA h) q
def SnsS (M:MM) (us:List U) (R:List T→Prop):Prop:=∃ ts,sns M us = some ts∧R ts
theorem Jp {R:List T→Prop}:SnsS M [] R = R []:=propext ⟨fun ⟨_,e,h⟩ => by cases e; exact h,fun h => ⟨[],rfl,h⟩⟩
theorem Jo {a:T} {us:List U} {R:List T→Prop}:SnsS M (.p a :: us) R = SnsS M us fun ts => R (a :: ts):=by
 refine propext ⟨fun ⟨ts,e,h⟩ => ?_,fun ⟨ts,e,h⟩ => ⟨a :: ts,by simp [sns,sn,e],h⟩⟩
 simp only [sns,sn] at e
 cases q:sns M us with
 | none => rw [q] at e; cases e
 | some r => rw [q] at e; simp at e; subst e; exact ⟨r,q,h⟩
theorem rd_cb {s:List T→(T→Prop)→Prop}:uCb s ul ρ M Q = ul ρ M fun us M1 => SnsS M1 us fun ts => s ts fun t => Q (.p t) M1:=rfl
theorem JM {i:Int} {Q:T→Prop}:sAbs [.int i] Q = Q (.int (if i < 0 then -i else i)):=propext ⟨fun ⟨_,e,h⟩ => by cases e; exact h,fun h => ⟨i,rfl,h⟩⟩
theorem Jy {i j:Int} {Q:T→Prop}:sMin [.int i, .int j] Q = Q (.int (if j < i then j else i)):=propext ⟨fun ⟨_,_,e,h⟩ => by cases e; exact h,fun h => ⟨i,j,rfl,h⟩⟩
theorem JA {i j:Int} {Q:T→Prop}:sMax [.int i, .int j] Q = Q (.int (if j > i then j else i)):=propext ⟨fun ⟨_,_,e,h⟩ => by cases e; exact h,fun h => ⟨i,j,rfl,h⟩⟩
theorem JG {i:Int} {Q:T→Prop}:sInt [.int i] Q = Q (.int i):=by
 refine propext ⟨fun h => ?_,fun h => Or.inl ⟨i,rfl,h⟩⟩
 rcases h with ⟨_,e,h⟩ | ⟨_,e,h⟩
 ·cases e; exact h
 ·cases e
theorem JF {k:Bool} {Q:T→Prop}:sInt [.bl k] Q = Q (.int (if k then 1 else 0)):=by
 refine propext ⟨fun h => ?_,fun h => Or.inr ⟨k,rfl,h⟩⟩
 rcases h with ⟨_,e,h⟩ | ⟨_,e,h⟩
 ·cases e
 ·cases e; exact h
def LenS (it:MM→U→Option (List U)) (M:MM) (us:List U) (Q:UK):Prop:=∃ x ys,us = [x]∧it M x = some ys∧Q (.p (.int ys.length)) M
theorem rd_len {it:MM→U→Option (List U)}:uLen it ul ρ M Q = ul ρ M fun us M1 => LenS it M1 us Q:=rfl
theorem JC {ts:List T}:LenS qM M [.p (.lst ts)] Q = Q (.p (.int ts.length)) M :=
 propext ⟨fun ⟨_,_,e1,e2,h⟩ => by cases e1; cases e2; rw [List.length_map] at h; exact h,fun h => ⟨_,_,rfl,rfl,by rw [List.length_map]; exact h⟩⟩
theorem kP {k:Nat} {us:List U} (e:M[k]? = some (.lst us)) (h:Q (.p (.int us.length)) M):LenS qM M [.m k] Q:=⟨_,_,rfl,by simp [qM,e],h⟩
def SlS (M:MM) (x:U) (l h:Option Int) (Q:UK):Prop:=∃ ts,sn M x = some (.lst ts)∧Q (.p (.lst (cutT ts l h))) M
theorem rd_sl {u1 u2:UO}:uSl ua u1 u2 ρ M Q = ua ρ M fun x M1 => u1 ρ M1 fun l M2 => u2 ρ M2 fun h M3 => SlS M3 x l h Q:=rfl
theorem rd_slS {ts:List T} {l h:Option Int}:SlS M (.p (.lst ts)) l h Q = Q (.p (.lst (cutT ts l h))) M:=propext ⟨fun ⟨_,e,h⟩ => by cases e; exact h,fun h => ⟨ts,rfl,h⟩⟩
theorem Jv {QO:Option Int→MM→Prop}:uPart ua ρ M QO = ua ρ M fun x M1 => IntS x fun i => QO (some i) M1:=rfl
theorem QD {QO:Option Int→MM→Prop}:Vu ρ M QO = QO none M:=rfl
theorem rd_cat {xs ys:List T} {Q:T→Prop}:sCat (.lst xs) (.lst ys) Q = (xs.length + ys.length≤sizeLine∧Q (.lst (xs ++ ys))):=propext ⟨fun ⟨_,_,e1,e2,h⟩ => by cases e1; cases e2; exact h,fun h => ⟨xs,ys,rfl,rfl,h⟩⟩
theorem rd_str {i j:Str} {Q:T→Prop}:sStr (.str i) (.str j) Q = (i.length + j.length≤sizeLine∧Q (.str (i ++ j))):=propext ⟨fun ⟨_,_,e1,e2,h⟩ => by cases e1; cases e2; exact h,fun h => ⟨i,j,rfl,rfl,h⟩⟩
def itU (x:U) (us:List U):UIt:=⟨us.length,fun M => qM M x = some us,fun i z => us[i]? = some z⟩
def IterS (M:MM) (x:U) (R:UIt→MM→Prop):Prop:=∃ us,qM M x = some us∧R (itU x us) M
theorem JD {R:UIt→MM→Prop}:uIter ua ρ M R = ua ρ M fun x M1 => IterS M1 x R:=rfl
theorem Zx {ts:List T} {R:UIt→MM→Prop}:IterS M (.p (.lst ts)) R = R (itU (.p (.lst ts)) (ts.map U.p)) M:=propext ⟨fun ⟨_,e,h⟩ => by cases e; exact h,fun h => ⟨_,rfl,h⟩⟩
theorem VZ {k:Nat} {us:List U} {R:UIt→MM→Prop} (e:M[k]? = some (.lst us)) (h:R (itU (.m k) us) M):IterS M (.m k) R:=⟨us,by simp [qM,e],h⟩
def itR0 (n:Nat):UIt:=⟨n,fun _ => True,fun i z => z = .p (.int i)⟩
def RngS (us:List U) (M:MM) (R:UIt→MM→Prop):Prop:=∃ j:Int,us = [.p (.int j)] ∧ -(2 ^ 62)≤j∧j < 2 ^ 62∧R (itR0 j.toNat) M
theorem Jq {R:UIt→MM→Prop}:uRng1 ul ρ M R = ul ρ M fun us M1 => RngS us M1 R:=rfl
theorem Zr {j:Int} {R:UIt→MM→Prop} (h1 : -(2 ^ 62)≤j) (h2:j < 2 ^ 62) (q:R (itR0 j.toNat) M):RngS [.p (.int j)] M R:=⟨j,rfl,h1,h2,q⟩
theorem Qq {ts:List T} {ub:US} (Iv:Nat→UEnv→MM→Prop) (h0:Iv 0 ρ M) (hs:∀ i t ρ2 M2,ts[i]? = some t→Iv i ρ2 M2→ug (.p t) ρ2 M2 fun ρ3 M3 => ub { E with nx:=Iv (i + 1),ct:=Iv (i + 1),bk:=E.nx } ρ3 M3) (hd:∀ ρ2 M2,Iv ts.length ρ2 M2→E.nx ρ2 M2):UFor (itU (.p (.lst ts)) (ts.map U.p)) ug ub E ρ M:=by
 refine ⟨Iv,h0,fun i ρ2 M2 hi h => ⟨rfl,fun u hu => ?_⟩,fun ρ2 M2 h => ⟨rfl,hd ρ2 M2 (by simpa [itU] using h)⟩⟩
 have hu:(ts.map U.p)[i]? = some u:=hu
 rw [List.getElem?_map] at hu
 cases e:ts[i]? with
 | none => rw [e] at hu; cases hu
 | some t => rw [e] at hu; cases hu; exact hs i t ρ2 M2 e h
theorem ufor_rng {m:Nat} {ub:US} (Iv:Nat→UEnv→MM→Prop) (h0:Iv 0 ρ M) (hs:∀ (i:Nat) ρ2 M2,i < m→Iv i ρ2 M2→ug (.p (.int i)) ρ2 M2 fun ρ3 M3 => ub { E with nx:=Iv (i + 1),ct:=Iv (i + 1),bk:=E.nx } ρ3 M3) (hd:∀ ρ2 M2,Iv m ρ2 M2→E.nx ρ2 M2):UFor (itR0 m) ug ub E ρ M :=
 ⟨Iv,h0,fun i ρ2 M2 hi h => ⟨trivial,fun u hu => by cases (show u = _ from hu); exact hs i ρ2 M2 hi h⟩,fun ρ2 M2 h => ⟨trivial,hd ρ2 M2 h⟩⟩
theorem xu {ts:List T} {ρ0:UEnv} (hz:ts.length≤sizeLine) (Iv:Nat→List T→MM→Prop) (h0:Iv 0 [] M) (hs:∀ i t acc M2,ts[i]? = some t→acc.length≤i→Iv i acc M2→ug (.p t) ρ0 M2 fun ρ4 M4 => ut ρ4 M4 fun b M5 => if b = true then ua ρ4 M5 fun z M6 => ∃ t,z = .p t∧Iv (i + 1) (acc ++ [t]) M6 else Iv (i + 1) acc M5) (hd:∀ acc M2,Iv ts.length acc M2→Q (.p (.lst acc)) M2):UComp (itU (.p (.lst ts)) (ts.map U.p)) ug ut ua ρ0 M Q:=by
 refine ⟨by simpa [itU] using hz,Iv,h0,fun i acc M2 hi ha h => ⟨rfl,fun u hu => ?_⟩,fun acc M2 h => ⟨rfl,hd acc M2 (by simpa [itU] using h)⟩⟩
 have hu:(ts.map U.p)[i]? = some u:=hu
 rw [List.getElem?_map] at hu
 cases e:ts[i]? with
 | none => rw [e] at hu; cases hu
 | some t => rw [e] at hu; cases hu; exact hs i t acc M2 e ha h
theorem jJ {m:Nat} {ρ0:UEnv} (hz:m≤sizeLine) (Iv:Nat→List T→MM→Prop) (h0:Iv 0 [] M) (hs:∀ (i:Nat) acc M2,i < m→acc.length≤i→Iv i acc M2→ug (.p (.int i)) ρ0 M2 fun ρ4 M4 => ut ρ4 M4 fun b M5 => if b = true then ua ρ4 M5 fun z M6 => ∃ t,z = .p t∧Iv (i + 1) (acc ++ [t]) M6 else Iv (i + 1) acc M5) (hd:∀ acc M2,Iv m acc M2→Q (.p (.lst acc)) M2):UComp (itR0 m) ug ut ua ρ0 M Q :=
 ⟨hz,Iv,h0,fun i acc M2 hi ha h => ⟨trivial,fun u hu => by cases (show u = _ from hu); exact hs i acc M2 hi ha h⟩,fun acc M2 h => ⟨trivial,hd acc M2 h⟩⟩
def T2S (M:MM) (u:U) (R:U→U→Prop):Prop:=∃ a b,zb M u = some [a,b]∧R a b
def T3S (M:MM) (u:U) (R:U→U→U→Prop):Prop:=∃ a b c,zb M u = some [a,b,c]∧R a b c
theorem Zv {i j:Nat} {R:UEnv→MM→Prop}:X1 i j u ρ M R = T2S M u fun a b => R ((ρ.set i (some a)).set j (some b)) M:=rfl
theorem Zu {i j k:Nat} {R:UEnv→MM→Prop}:Qv i j k u ρ M R = T3S M u fun a b c => R (((ρ.set i (some a)).set j (some b)).set k (some c)) M:=rfl
theorem rd_t2 {a b:T} {R:U→U→Prop}:T2S M (.p (.tup [a,b])) R = R (.p a) (.p b):=propext ⟨fun ⟨_,_,e,h⟩ => by cases e; exact h,fun h => ⟨_,_,rfl,h⟩⟩
theorem rd_t3 {a b c:T} {R:U→U→U→Prop}:T3S M (.p (.tup [a,b,c])) R = R (.p a) (.p b) (.p c):=propext ⟨fun ⟨_,_,_,e,h⟩ => by cases e; exact h,fun h => ⟨_,_,_,rfl,h⟩⟩
theorem ZC {G:List T→(T→Prop)→Prop}:X6 G ul ρ M Q = ul ρ M fun us M1 => PurS us fun ts => G ts fun t => Q (.p t) M1:=rfl
theorem ZB {G:List T→(T→Prop)→Prop}:X5 G ul ρ M Q = ul ρ M fun us M1 => SnsS M1 us fun ts => G ts fun t => (∃ x,vt t = some x)∧Q (.p t) M1:=rfl
theorem Zz {G:List U→MM→UK→Prop}:uCall G ul ρ M Q = ul ρ M fun us M1 => G us M1 Q:=rfl
def MeS (s:List U→List U→(U→List U→Prop)→Prop) (ul:UA) (ρ:UEnv) (M:MM) (o:U) (Q:UK):Prop:=∃ k,o = .m k∧(∃ zs,M[k]? = some (.lst zs))∧ul ρ M fun ws M2 => ∃ us,M2[k]? = some (.lst us)∧s us ws fun z us' => Q z (M2.set k (.lst us'))
theorem rd_me {s:List U→List U→(U→List U→Prop)→Prop}:uMe s ua ul ρ M Q = ua ρ M fun o M1 => MeS s ul ρ M1 o Q:=rfl
theorem me_at {s:List U→List U→(U→List U→Prop)→Prop} {k:Nat} {zs:List U} (e:M[k]? = some (.lst zs)) (h:ul ρ M fun ws M2 => ∃ us,M2[k]? = some (.lst us)∧s us ws fun z us' => Q z (M2.set k (.lst us'))):MeS s ul ρ M (.m k) Q:=⟨k,rfl,⟨zs,e⟩,h⟩
theorem rd_app {us:List U} {y:U} {Q:U→List U→Prop}:Jj us [y] Q = (us.length < sizeLine∧Q (.p .non) (us ++ [y])):=propext ⟨fun ⟨_,e,h⟩ => by cases e; exact h,fun h => ⟨y,rfl,h⟩⟩
theorem ss {α:Type} {a:α} {R:α→Prop}:(∃ x,some a = some x∧R x) = R a:=propext ⟨fun ⟨_,e,h⟩ => by cases e; exact h,fun h => ⟨a,rfl,h⟩⟩
end
inductive EqT:Nat→T→T→Bool→Prop
 | flat {n:Nat} {a b:T} {x y:V}:vt a = some x→vt b = some y→EqT n a b (eqV x y)
 | tup {n:Nat} {xs ys:List T} {e:Nat→Bool}:(∀ (j:Nat) x y,xs[j]? = some x→ys[j]? = some y→EqT n x y (e j))→EqT (n + 1) (.tup xs) (.tup ys) ((List.range (min xs.length ys.length)).all e && xs.length == ys.length)
 | lst {n:Nat} {xs ys:List T} {e:Nat→Bool}:xs.length = ys.length→(∀ (j:Nat) x y,xs[j]? = some x→ys[j]? = some y→EqT n x y (e j))→EqT (n + 1) (.lst xs) (.lst ys) ((List.range xs.length).all e)
 | lstN {n:Nat} {xs ys:List T}:xs.length≠ys.length→EqT (n + 1) (.lst xs) (.lst ys) false
section
variable {A:Addr→Prop} {H:Hp} {ι:List Addr} {M M':MM} {v:V} {u:U} {t:T} {K:PySem.W.Frag} {n:Nat}
theorem RepT.inj {a b:T} (r:RepT A H v a):RepT A H v b→a = b:=by
 induction r generalizing b with
 | non => intro q; cases q; rfl
 | bl => intro q; cases q; rfl
 | int => intro q; cases q; rfl
 | str => intro q; cases q; rfl
 | tup na e l r ih =>
  intro q
  cases q with
  | tup na' e' l' r' =>
   rw [e] at e'; cases e'
   congr 1
   refine List.ext_getElem (by omega) fun i h1 h2 => ?_
   have h3:=h1
   rw [← l] at h3
   exact ih i _ _ (List.getElem?_eq_getElem h3) (List.getElem?_eq_getElem h1) (r' i _ _ (List.getElem?_eq_getElem h3) (List.getElem?_eq_getElem h2))
  | lst na' e' l' r' => rw [e] at e'; cases e'
 | lst na e l r ih =>
  intro q
  cases q with
  | lst na' e' l' r' =>
   rw [e] at e'; cases e'
   congr 1
   refine List.ext_getElem (by omega) fun i h1 h2 => ?_
   have h3:=h1
   rw [← l] at h3
   exact ih i _ _ (List.getElem?_eq_getElem h3) (List.getElem?_eq_getElem h1) (r' i _ _ (List.getElem?_eq_getElem h3) (List.getElem?_eq_getElem h2))
  | tup na' e' l' r' => rw [e] at e'; cases e'
theorem eqV_self:∀ {x:V} {t:T},vt t = some x→eqV x x = true:=fun {x t} h => by cases Qo h <;> simp [eqV]
theorem EqT.self {a b:T} {r:Bool} (h:EqT n a b r):a = b→r = true:=by
 induction h with
 | flat h1 h2 => intro e; subst e; rw [h1] at h2; cases h2; exact eqV_self h1
 | @tup n xs ys e hh ih =>
  intro q
  cases q
  simp only [Nat.min_self,beq_self_eq_true,Bool.and_true,List.all_eq_true,List.mem_range]
  intro j hj
  exact ih j _ _ (List.getElem?_eq_getElem hj) (List.getElem?_eq_getElem hj) rfl
 | @lst n xs ys e hl hh ih =>
  intro q
  cases q
  simp only [List.all_eq_true,List.mem_range]
  intro j hj
  exact ih j _ _ (List.getElem?_eq_getElem hj) (List.getElem?_eq_getElem hj) rfl
 | lstN hl => intro q; cases q; exact absurd rfl hl
theorem EqT.de {a b:T} {r:Bool} (h:EqT n a b r):∀ {x y:V},RepT A H x a→RepT A H y b→DE K H n x y r:=by
 induction h with
 | @flat n a b x0 y0 h1 h2 =>
  intro x y r1 r2
  cases (RepV.of r1).sc (y:=.non) h1; cases (RepV.of r2).sc (y:=.non) h2
  exact .flat (by cases Qo h1 <;> rfl) (by cases Qo h2 <;> rfl)
 | @tup n xs ys e hh ih =>
  intro x y r1 r2
  obtain ⟨p,vs,rfl,_,h1,q1⟩:=r1.tup_inv
  obtain ⟨p2,vs2,rfl,_,h2,q2⟩:=r2.tup_inv
  by_cases hp:p = p2
  ·subst hp
   have:=(EqT.tup (n:=n) hh).self (r1.inj r2)
   rw [this]; exact .same
  ·have:=DE.tup (K:=K) (H:=H) (n:=n) (e:=e) hp (SqT.of h1) (SqT.of h2) fun j x y hx hy => by
    obtain ⟨a,ha,ra⟩:=Paired.getL q1 hx
    obtain ⟨b,hb,rb⟩:=Paired.getL q2 hy
    exact ih j a b ha hb ra rb
   rw [q1.len,q2.len] at this
   exact this
 | @lst n xs ys e hl hh ih =>
  intro x y r1 r2
  obtain ⟨p,vs,rfl,_,h1,q1⟩:=r1.lst_inv
  obtain ⟨p2,vs2,rfl,_,h2,q2⟩:=r2.lst_inv
  by_cases hp:p = p2
  ·subst hp
   have:=(EqT.lst (n:=n) hl hh).self (r1.inj r2)
   rw [this]; exact .same
  ·have:=DE.lst (K:=K) (H:=H) (n:=n) (e:=e) hp (SqL.of h1) (SqL.of h2) (by rw [q1.len,q2.len,hl]) fun j x y hx hy => by
    obtain ⟨a,ha,ra⟩:=Paired.getL q1 hx
    obtain ⟨b,hb,rb⟩:=Paired.getL q2 hy
    exact ih j a b ha hb ra rb
   rw [q1.len] at this
   exact this
 | @lstN n xs ys hl =>
  intro x y r1 r2
  obtain ⟨p,vs,rfl,_,h1,q1⟩:=r1.lst_inv
  obtain ⟨p2,vs2,rfl,_,h2,q2⟩:=r2.lst_inv
  by_cases hp:p = p2
  ·subst hp
   have:=r1.inj r2
   cases this
   exact absurd rfl hl
  ·exact .lstN hp (SqL.of h1) (SqL.of h2) (by rw [q1.len,q2.len]; exact hl)
abbrev intsT (ns:List Int):T:=.lst (ns.map T.int)
def sRep:T→T→(T→Prop)→Prop:=fun a b Q => ∃ xs k,a = .lst xs∧b = .int k ∧ -(2 ^ 63)≤k∧k < 2 ^ 63∧xs.length * k.toNat≤sizeLine∧Q (.lst (List.replicate k.toNat xs).flatten)
theorem opl_rep:OpL rRep sRep:=fun A ι H M x y a b Qs Q w r1 r2 ⟨xs,kk,ea,eb,k0,k1,hz,q⟩ k => by
 subst ea eb
 obtain ⟨p,vs,rfl,h1,q1⟩:=r1.lst_inv
 cases r2.int_inv
 exact ⟨p,kk,vs,rfl,rfl,h1,k0,k1,by rw [q1.len]; exact hz,fun l hl => k _ ι _ _ (.fresh hl) (w.fresh hl) (zO w hl (ju q1 _)) q⟩
def frzB (b:Nat):Nat→MM→U→Option T
 | _,_, .p t => some t
 | 0,_, .m _ => none
 | _,_, .x _ _ _ => none
 | n + 1,M, .m k => if b≤k then match M[k]? with
  | some (.lst us) => (frzs (frzB b n M) us).map T.lst
  | some (.tup us) => (frzs (frzB b n M) us).map T.tup
  | _ => none else none
@[simp] theorem K2 {b n:Nat} {M:MM} {t:T}:frzB b n M (.p t) = some t:=by cases n <;> rfl
theorem Vb {A':Addr→Prop} {f:U→Option T} {vs:List V} {us:List U} {ts:List T} (r:RepUs A ι H vs us) (h:∀ v u t,RepU A ι H v u→f u = some t→RepT A' H v t) (e:frzs f us = some ts):RepTs A' H vs ts:=by
 induction r generalizing ts with
 | nil => simp [frzs] at e; subst e; exact .nil
 | cons r q ih =>
  simp only [frzs] at e
  split at e
  ·rename_i h1 h2
   simp at e; subst e
   exact .cons (h _ _ _ r h1) (ih h2)
  ·cases e
theorem Qc {m:List Addr} (w:Wd A (ι ++ m) H M):∀ {n:Nat} {v:V} {u:U} {t:T},RepU A (ι ++ m) H v u→frzB ι.length n M u = some t→RepT (Av A ι) H v t
 | n,v, .p t',t, .p r,e => by
  rw [K2] at e; cases e
  exact r.mono fun x o hx ex => ⟨ex,fun z => hx (z.elim .inl fun z => .inr (List.mem_append_left _ z))⟩
 | 0,v, .m k,t,r,e => by simp [frzB] at e
 | n,v, .x a d q,t,r,e => by cases n <;> simp [frzB] at e
 | n + 1,v, .m k,t,r,e => by
  cases r with
  | m q =>
  rename_i a
  obtain ⟨o,h1,h2⟩:=w.al q
  simp only [frzB,h1] at e
  split at e
  ·rename_i hk
   have hna:¬ Av A ι a:=fun z => by
    rcases z with z | z
    ·exact w.na _ (List.mem_of_getElem? q) z
    ·rw [List.getElem?_append_right hk] at q
     have hd:=(List.nodup_append.mp w.nd).2.2
     exact hd a z a (List.mem_of_getElem? q) rfl
   cases o with
   | lst us =>
    simp at e
    obtain ⟨ts,e1,rfl⟩:=e
    obtain ⟨vs,h3,h4⟩:=h2
    exact .lstP hna h3 (Vb h4 (fun v u t r e => Qc w r e) e1)
   | tup us =>
    simp at e
    obtain ⟨ts,e1,rfl⟩:=e
    obtain ⟨vs,h3,h4⟩:=h2
    exact .tupP hna h3 (Vb h4 (fun v u t r e => Qc w r e) e1)
   | ins => simp at e
   | dK => simp at e
  ·cases e
def PurO (o:MO):Prop:=∃ ts:List T,o = .lst (ts.map U.p)
def xK (M M':MM):Prop:=∀ (i:Nat) o,i < M.length→M'[i]? = some o→M[i]? = some o∨PurO o
theorem RepU.less {m:List Addr} {v0:V} {H0:Hp} (r:RepU A (ι ++ m) H v u) (r0:RepU A ι H0 v0 u):RepU A ι H v u:=by
 cases r with
 | p r => exact .p (r.mono fun x o hx ex => ⟨ex,fun z => hx (z.elim .inl fun z => .inr (List.mem_append_left _ z))⟩)
 | m e =>
  cases r0 with
  | m e0 =>
   rw [List.getElem?_append_left (List.getElem?_eq_some_iff.mp e0).1] at e
   exact .m e
 | @x a d q h =>
  refine .x ?_
  cases q with
  | none => exact h
  | some n =>
   obtain ⟨x0,e,ni,hx⟩:=h
   exact ⟨x0,e,fun z => ni (List.mem_append_left _ z),hx⟩
theorem zp {α β:Type} {F G L:α→β→Prop} (h:∀ a a0 b,F a b→G a0 b→L a b):∀ {l l0:List α} {r:List β},Paired F l r→Paired G l0 r→Paired L l r
 | _,_,_, .nil, .nil => .nil
 | _,_,_, .cons p q, .cons p0 q0 => .cons (h _ _ _ p p0) (zp h q q0)
theorem ObjR.less {m:List Addr} {a a0:Addr} {o:MO} {H0:Hp} (r:ObjR A (ι ++ m) H a o) (r0:ObjR A ι H0 a0 o):ObjR A ι H a o:=by
 cases o with
 | lst => obtain ⟨vs,e,r⟩:=r; obtain ⟨_,_,r0⟩:=r0; exact ⟨vs,e,zp (fun _ _ _ p q => p.less q) r r0⟩
 | tup => obtain ⟨vs,e,r⟩:=r; obtain ⟨_,_,r0⟩:=r0; exact ⟨vs,e,zp (fun _ _ _ p q => p.less q) r r0⟩
 | ins => obtain ⟨dx,gs,e,ed,nd,r⟩:=r; obtain ⟨_,_,_,_,_,r0⟩:=r0; exact ⟨dx,gs,e,ed,fun z => nd (List.mem_append_left _ z),zp (fun _ _ _ p q => ⟨p.1,p.2.less q.2⟩) r r0⟩
 | dK => obtain ⟨gs,e,r⟩:=r; obtain ⟨_,_,r0⟩:=r0; exact ⟨gs,e,zp (fun _ _ _ p q => ⟨p.1,p.2.less q.2⟩) r r0⟩
theorem Wd.trim {m:List Addr} {H0:Hp} (w:Wd A (ι ++ m) H M') (w0:Wd A ι H0 M) (h:xK M M'):Wd A ι H (M'.take M.length):=by
 have hl:M.length≤M'.length:=by
  have:=w.len; rw [List.length_append,w0.len] at this; omega
 refine ⟨(List.nodup_append.mp w.nd).1,by rw [List.length_take,Nat.min_eq_left hl]; exact w0.len,w.dom,fun x hx => w.na x (List.mem_append_left _ hx),fun k a o e1 e2 => ?_⟩
 have hk:=(List.getElem?_eq_some_iff.mp e1).1
 rw [List.getElem?_take_of_lt (by rw [← w0.len]; exact hk)] at e2
 have r:=w.obj k a o (by rw [List.getElem?_append_left hk]; exact e1) e2
 rcases h k o (by rw [← w0.len]; exact hk) e2 with z | ⟨ts,rfl⟩
 ·exact r.less (w0.obj k a o e1 z)
 ·obtain ⟨vs,e,q⟩:=r
  refine ⟨vs,e, ?_⟩
  have q2:=q.pures
  exact RepTs.ups (Paired.mapP q2 fun _ _ q => q.mono fun x o hx ex => ⟨ex,fun z => hx (z.elim .inl fun z => .inr (List.mem_append_left _ z))⟩)
end
section
variable {P:Program} {w:World} {K:PySem.W.Frag} {mg:Str→Option Value} {base:Heap}
theorem Fun.okV {x qual:Str} {st:Stmt} {f:Addr} {fd:FuncData} {N ps:List Str} {k:Nat} {G:List U→MM→UK→Prop} (F:Fun K x qual st f fd) (S:FnScope N ps (qc st)) (len:∀ us M Qu,G us M Qu→us.length = ps.length)
  (hbody:∀ (cdv:Value) (A:Around) (outer:List Env) (s:Shared) (H:Hp) (E:XK),Room k (A.deeper (envOfC qual (qc st) s.heap.objs.size f cdv)) →
   ∃ t,PSs (cxOf CX0 P w K mg base N qual (qc st) f cdv A outer s H E).nox (qg st) t∧∃ u,LS t u∧∀ us M Qu,G us M Qu→u { nx:=fun _ M' => xK M M'∧Qu (.p .non) (M'.take M.length),rt:=fun z M' => xK M M'∧∃ t,frzB M.length 4 M' z = some t∧Qu (.p t) (M'.take M.length) } (xi N us) M):FnOk P w K mg base CX0 (k + 1) f fd ps (spU G):=by
 refine F.ok S (fun vs H Q E h => ?_) (fun cdv A outer s H vs Q E hr h => ?_)
 ·obtain ⟨A,ι,M,us,Qu,w1,r,g,_⟩:=h
  rw [r.len]; exact len us M Qu g
 ·obtain ⟨B,ι,M,us,Qu,w1,r,g,kk⟩:=h
  obtain ⟨t,ht,u,hu,hb⟩:=hbody cdv A outer s H E hr
  have less:∀ {ι1:List Addr} {H1:Hp},Le ι H ι1 H1→Le ι H ι H1:=fun l => ⟨⟨[],by simp,by simp⟩,l.fr,l.al⟩
  refine ⟨t,ht,hu B ι _ H _ M _ { nx:=fun _ M' => xK M M'∧Qu (.p .non) (M'.take M.length),rt:=fun z M' => xK M M'∧∃ t,frzB M.length 4 M' z = some t∧Qu (.p t) (M'.take M.length) } w1 (xX r) ⟨fun ι1 σ1 H1 ρ1 M1 l1 w2 e1 q1 => ?_,fun ι1 v H1 z M1 l1 w2 r1 q1 => ?_,fun _ _ _ _ _ _ _ _ q => q.elim,fun _ _ _ _ _ _ _ _ q => q.elim⟩ (hb us M Qu g)⟩
  ·obtain ⟨tr,q⟩:=q1
   obtain ⟨m,rfl,_⟩:=id l1.ext
   exact kk _ _ ι _ H1 (less l1) (w2.trim w1 tr) (.p .non) q
  ·obtain ⟨tr,t1,et,q⟩:=q1
   obtain ⟨m,rfl,_⟩:=id l1.ext
   rw [← w1.len] at et
   exact kk _ _ ι v H1 (less l1) (w2.trim w1 tr) (.p (Qc w2 r1 et)) q
end
section
variable {ta tb:TE} {ua ub uc:UE} {ul:UA} {A:Addr→Prop} {H H':Hp} {ι ι':List Addr} {M M':MM} {v:V} {u:U} {σ:St} {ρ:UEnv} {K:PySem.W.Frag}
def keyU:Key→U
 | .inl i => .p (.int i)
 | .inr x => .p (.str x)
def valU (kvs:List (Key × U)) (k:Key):Option U:=(kvs.find? fun kv => decide (kv.1 = k)).map (·.2)
def putU (kvs:List (Key × U)) (k:Key) (y:U):List (Key × U):=if kvs.any (fun kv => decide (kv.1 = k)) then kvs.map (fun kv => if kv.1 = k then (kv.1,y) else kv) else kvs ++ [(k,y)]
def xJ (kvs more:List (Key × U)):List (Key × U):=more.foldl (fun acc kv => putU acc kv.1 kv.2) kvs
abbrev KR (A:Addr→Prop) (ι:List Addr) (H:Hp):List (Key × V)→List (Key × U)→Prop:=Paired fun (g:Key × V) (f:Key × U) => g.1 = f.1∧RepU A ι H g.2 f.2
theorem val_rep {gs:List (Key × V)} {kvs:List (Key × U)} {k:Key} (r:KR A ι H gs kvs):match valU kvs k with | some u => ∃ v,valV gs k = some v∧RepU A ι H v u | none => valV gs k = none:=by
 induction r with
 | nil => rfl
 | @cons g f gs kvs p q ih =>
  obtain ⟨e,r⟩:=p
  unfold valU valV at ih ⊢
  simp only [List.find?_cons]
  by_cases h:f.1 = k
  ·rw [e]
   simp only [h,decide_true]
   exact ⟨_,rfl,r⟩
  ·rw [e]
   simp only [h,decide_false]
   exact ih
theorem any_rep {gs:List (Key × V)} {kvs:List (Key × U)} {k:Key} (r:KR A ι H gs kvs):(gs.any fun kv => decide (kv.1 = k)) = (kvs.any fun kv => decide (kv.1 = k)):=by
 induction r with
 | nil => rfl
 | cons p q ih => rw [List.any_cons,List.any_cons,ih,p.1]
theorem VU {gs:List (Key × V)} {kvs:List (Key × U)} {k:Key} (r:KR A ι H gs kvs) (rv:RepU A ι H v u):KR A ι H (gs.map fun kv => if kv.1 = k then (kv.1,v) else kv) (kvs.map fun kv => if kv.1 = k then (kv.1,u) else kv):=by
 induction r with
 | nil => exact .nil
 | @cons g f gs kvs p q ih =>
  refine .cons ?_ ih
  show (if g.1 = k then (g.1,v) else g).1 = (if f.1 = k then (f.1,u) else f).1∧RepU A ι H (if g.1 = k then (g.1,v) else g).2 (if f.1 = k then (f.1,u) else f).2
  by_cases h:f.1 = k
  ·rw [if_pos h,if_pos (p.1.trans h)]; exact ⟨p.1,rv⟩
  ·rw [if_neg h,if_neg (fun z => h (p.1.symm.trans z))]; exact p
theorem put_rep {gs:List (Key × V)} {kvs:List (Key × U)} {k:Key} (r:KR A ι H gs kvs) (rv:RepU A ι H v u):KR A ι H (putK gs k v) (putU kvs k u):=by
 unfold putK putU
 rw [any_rep r]
 split
 ·exact VU r rv
 ·exact r.app (.cons ⟨rfl,rv⟩ .nil)
theorem Kp {more:List (Key × V)} {moreU:List (Key × U)} (q:KR A ι H more moreU):∀ {gs:List (Key × V)} {kvs:List (Key × U)},KR A ι H gs kvs→KR A ι H (jT gs more) (xJ kvs moreU):=by
 unfold jT xJ
 induction q with
 | nil => intro gs kvs r; exact r
 | cons p q ih =>
  intro gs kvs r
  rw [List.foldl_cons,List.foldl_cons,p.1]
  exact ih (put_rep r p.2)
inductive LPs:List (TE × TE)→List (UE × UE)→Prop
 | nil:LPs [] []
 | cons {tk tv:TE} {uk uv:UE} {ts:List (TE × TE)} {us:List (UE × UE)}:LE tk uk→LE tv uv→LPs ts us→LPs ((tk,tv) :: ts) ((uk,uv) :: us)
def Qr:List (UE × UE)→UEnv→MM→(List (U × U)→MM→Prop)→Prop
 | [],_,M,Q => Q [] M
 | (k,v) :: r,ρ,M,Q => k ρ M fun x M1 => v ρ M1 fun y M2 => Qr r ρ M2 fun ps M3 => Q ((x,y) :: ps) M3
theorem lps_run {trs:List (TE × TE)} {urs:List (UE × UE)} (h:LPs trs urs):∀ (A:Addr→Prop) (ι:List Addr) (σ:St) (H:Hp) (ρ:UEnv) (M:MM) (Qu:List (U × U)→MM→Prop) (Q:List (V × V)→Hp→Prop),Wd A ι H M→EnvR A ι H σ ρ→Qr urs ρ M Qu →
  (∀ us M' ι' vs H',Le ι H ι' H'→Wd A ι' H' M'→Paired (fun (x:V × V) (y:U × U) => RepU A ι' H' x.1 y.1∧RepU A ι' H' x.2 y.2) vs us→Qu us M'→Q vs H')→Zm trs σ H Q:=by
 induction h with
 | nil => intro A ι σ H ρ M Qu Q w e q k; exact k [] M ι [] H (.refl _ _) w .nil q
 | cons h1 h2 h3 ih =>
  intro A ι σ H ρ M Qu Q w e q k
  refine h1 A ι σ H ρ M _ _ w e q fun x M1 ι1 v1 H1 l1 w1 r1 q1 => ?_
  refine h2 A ι1 σ H1 ρ M1 _ _ w1 (e.le l1) q1 fun y M2 ι2 v2 H2 l2 w2 r2 q2 => ?_
  refine ih A ι2 σ H2 ρ M2 _ _ w2 (e.le (l1.trans l2)) q2 fun us M3 ι3 vs H3 l3 w3 r3 q3 => ?_
  exact k _ M3 ι3 _ H3 ((l1.trans l2).trans l3) w3 (.cons ⟨(r1.le l2).le l3,r2.le l3⟩ r3) q3
def uDisp (urs:List (UE × UE)):UE:=fun ρ M Q => Qr urs ρ (M ++ [.dK []]) fun ps M2 => M2[M.length]? = some (.dK [])∧∃ kvs:List (Key × U),ps = kvs.map (fun kv => (keyU kv.1,kv.2))∧kvs.length≤15∧Q (.m M.length) (M2.set M.length (.dK (xJ [] kvs)))
theorem KB {k:Key} (r:RepU A ι H v (keyU k)):v = kV k:=by
 cases k with
 | inl i => cases r with | p r => cases r; rfl
 | inr x => cases r with | p r => cases r; rfl
theorem Kx:∀ {kvs:List (Key × U)} {vs:List (V × V)},Paired (fun (x:V × V) (y:U × U) => RepU A ι H x.1 y.1∧RepU A ι H x.2 y.2) vs (kvs.map fun kv => (keyU kv.1,kv.2))→∃ gs:List (Key × V),vs = gs.map (fun kv => (kV kv.1,kv.2))∧KR A ι H gs kvs
 | [],_, .nil => ⟨[],rfl, .nil⟩
 | kv :: kvs,(a,b) :: _, .cons p q => by
  obtain ⟨gs,rfl,r⟩:=Kx (kvs:=kvs) q
  refine ⟨(kv.1,b) :: gs, ?_, .cons ⟨rfl,p.2⟩ r⟩
  rw [List.map_cons]
  have:=KB p.1
  simp only at this
  rw [this]
theorem le_disp {trs:List (TE × TE)} {urs:List (UE × UE)} (h:LPs trs urs):LE (tDisp trs) (uDisp urs):=by
 intro A ι σ H ρ M Qu Q w e q k p hp
 have w1:Wd A (ι ++ [p]) (upd H p (.dK [])) (M ++ [.dK []]):=w.push hp ⟨[],upd_same, .nil⟩
 have l1:Le ι H (ι ++ [p]) (upd H p (.dK [])):=.push hp
 refine lps_run h A _ σ _ ρ _ _ _ w1 (e.le l1) q fun us M2 ι2 vs H2 l2 w2 r2 q2 => ?_
 obtain ⟨hm,kvs,rfl,hl,q2⟩:=q2
 have ep:ι2[M.length]? = some p:=by
  obtain ⟨nn,rfl,_⟩:=l2.ext
  rw [List.getElem?_append_left (by rw [List.length_append,w.len]; simp), ← w.len]
  exact kS
 obtain ⟨gs0,h1,h2⟩:=w2.obj _ p _ ep hm
 cases h2
 obtain ⟨gs,rfl,rk⟩:=Kx r2
 have hmem:=List.mem_of_getElem? ep
 refine ⟨h1,gs,rfl,by rw [rk.len]; exact hl,k _ _ ι2 _ _ ((l1.trans l2).trans (.put hmem)) (w2.put (mo:=.dK (xJ [] kvs)) ep ⟨_,upd_same, ?_⟩) (.m ep) q2⟩
 exact Paired.mapP (Kp rk .nil) fun _ _ q => ⟨q.1,q.2.le (.put hmem)⟩
def DGetS (M:MM) (x y:U) (Q:UK):Prop:=∃ k kvs key w,x = .m k∧M[k]? = some (.dK kvs)∧y = keyU key∧valU kvs key = some w∧Q w M
def uDGet (ua ub:UE):UE:=fun ρ M Q => ua ρ M fun x M1 => ub ρ M1 fun y M2 => DGetS M2 x y Q
theorem le_dget (ha:LE ta ua) (hb:LE tb ub):LE (tDGet ta tb) (uDGet ua ub):=fun A ι σ H ρ M Qu Q w e q k =>
 ha A ι σ H ρ M _ _ w e q fun x M1 ι1 v H1 l1 w1 r1 q1 => hb A ι1 σ H1 ρ M1 _ _ w1 (e.le l1) q1 fun y M2 ι2 v2 H2 l2 w2 r2 ⟨kk,kvs,key,z,ex,em,ey,ez,q2⟩ => by
  subst ex ey
  have r1':=r1.le l2
  cases r1' with
  | m ek =>
  obtain ⟨gs,h1,h2⟩:=w2.obj kk _ _ ek em
  have hv:=val_rep (k:=key) h2
  rw [ez] at hv
  obtain ⟨x',hx,rx⟩:=hv
  refine ⟨_,x',rfl, ?_,k z M2 ι2 x' H2 (l1.trans l2) w2 rx q2⟩
  have:=DGet.k (k:=key) h1
  rw [hx] at this
  rw [KB r2]
  exact this
theorem JJ {Q:UK}:uDGet ua ub ρ M Q = ua ρ M fun x M1 => ub ρ M1 fun y M2 => DGetS M2 x y Q:=rfl
theorem Qf {k:Nat} {kvs:List (Key × U)} {x:Str} {w:U} {Q:UK} (h1:M[k]? = some (.dK kvs)) (h2:valU kvs (.inr x) = some w) (q:Q w M):DGetS M (.m k) (.p (.str x)) Q:=⟨k,kvs, .inr x,w,rfl,h1,rfl,h2,q⟩
def uIfC (c:UT) (t1 t2:T):UE:=fun ρ M Q => c ρ M fun b M1 => Q (.p (if b = true then t1 else t2)) M1
theorem le_ifC {tt:TT} {ut:UT} {v1 v2:V} {t1 t2:T} (hc:LT tt ut) (h1:Sc v1 t1) (h2:Sc v2 t2):LE (tIf tt (tC v1) (tC v2)) (uIfC ut t1 t2):=fun A ι σ H ρ M Qu Q w e q k =>
 hc A ι σ H ρ M _ _ w e q fun c M1 ι1 H1 l1 w1 q1 => by
  cases c with
  | true => exact k _ M1 ι1 _ H1 l1 w1 (.p h1.rep) q1
  | false => exact k _ M1 ι1 _ H1 l1 w1 (.p h2.rep) q1
theorem ZU {c:Prop} [Decidable c] {a b:Int}:(if c then T.int a else T.int b) = T.int (if c then a else b):=by split <;> rfl
theorem ZR {c:Prop} [Decidable c] {a b:Str}:(if c then T.str a else T.str b) = T.str (if c then a else b):=by split <;> rfl
def itV (x:U) (us:List U):UIt:=⟨us.length,fun M => qM M x = some us,fun i z => us[us.length - 1 - i]? = some z⟩
def RevS (us:List U) (M:MM) (R:UIt→MM→Prop):Prop:=∃ x ys,us = [x]∧qM M x = some ys∧R (itV x ys) M
theorem rd_rev {R:UIt→MM→Prop}:uRev ul ρ M R = ul ρ M fun us M1 => RevS us M1 R:=rfl
theorem Jr {ts:List T} {R:UIt→MM→Prop}:RevS [.p (.lst ts)] M R = R (itV (.p (.lst ts)) (ts.map U.p)) M:=propext ⟨fun ⟨_,_,e1,e2,h⟩ => by cases e1; cases e2; exact h,fun h => ⟨_,_,rfl,rfl,h⟩⟩
theorem rd_ch {s':T→T→(T→Prop)→Prop} {y:U} {b:Bool} {Q:UK}:ChS s' uc ρ M y Q (.bl b) = if b = true then uc ρ M fun c M3 => OpS s' M3 y c Q else Q (.p (.bl false)) M :=
 propext ⟨fun ⟨k,e,h⟩ => by cases e; exact h,fun h => ⟨b,rfl,h⟩⟩
def sRemove:List U→List U→(U→List U→Prop)→Prop:=fun us ws Q => ∃ (ts:List T) (y:T) (j:Nat) (e:Nat→Bool),us = ts.map U.p∧ws = [.p y]∧j < ts.length∧e j = true∧(∀ m,m < j→e m = false)∧(∀ (m:Nat) z,m≤j→ts[m]? = some z→EqT 20 z y (e m))∧Q (.p .non) ((ts.eraseIdx j).map U.p)
theorem Q0 {α β:Type} (f:α→β):∀ (l:List α) (j:Nat),(l.eraseIdx j).map f = (l.map f).eraseIdx j
 | [],_ => rfl
 | _ :: _,0 => rfl
 | x :: l,j + 1 => by rw [List.eraseIdx_cons_succ,List.map_cons,List.map_cons,List.eraseIdx_cons_succ,Q0 f l j]
theorem XF:MeL (VJ K) sRemove:=fun A ι H M k a xs ys us ws Qs Q w ek h1 h2 rx ry ⟨ts,y,j,e,eu,ew,hj,hjt,hjf,hd,q⟩ kk => by
 subst eu ew
 cases ry with
 | cons r q' =>
 cases q'
 cases r with
 | p r =>
 have rp:=rx.pures
 refine ⟨a,xs,_,j,e,rfl,rfl,h1,by rw [rp.len]; exact hj,hjt,hjf,fun m z hm hz => ?_,kk _ _ _ _ (RepTs.ups (rp.erase j)) (.p .non) q⟩
 obtain ⟨b,hb,rb⟩:=Paired.getL rp hz
 exact (hd m b hm hb).de rb r
end
section
variable {ta tb:TE} {ua ub:UE} {tl:TA} {ul:UA} {n:Nat} {A:Addr→Prop} {H:Hp} {ι:List Addr} {M:MM} {v:V} {u:U} {t:T} {σ:St} {ρ:UEnv} {K:PySem.W.Frag}
def KTu (K:PySem.W.Frag) (p:Addr) (vs:List V):Prop:=∀ H,SqT K H p vs
theorem Tup3.kt {mg:Str→Option Value} {nm:Str} {p:Addr} {x y z:Str} (T3:Tup3 K mg nm p x y z):KTu K p [.str x, .str y, .str z]:=T3.sq
theorem atI_pair {α β:Type} {F:α→β→Prop} {vs:List α} {ts:List β} {i:Int} {z:β} (r:Paired F vs ts) (e:atI ts i = some z):∃ x,atI vs i = some x∧F x z:=by
 unfold atI at e ⊢
 rw [r.len]
 cases q:ixN ts.length i with
 | none => rw [q] at e; cases e
 | some j =>
  rw [q] at e
  exact Paired.getR r e
theorem Je:∀ xs:List Str,Paired Sc (xs.map V.str) (xs.map T.str)
 | [] => .nil
 | x :: xs => .cons (.str x) (Je xs)
def uIxK (ts:List T) (ub:UE):UE:=fun ρ M Q => ub ρ M fun y M1 => IntS y fun i => ∃ t,atI ts i = some t∧Q (.p t) M1
theorem le_ixK {p:Addr} {vs:List V} {ts:List T} (h:KTu K p vs) (hs:Paired Sc vs ts) (hb:LE tb ub):LE (tOp (rIxT K) (tC (.ref p)) tb) (uIxK ts ub):=fun A ι σ H ρ M Qu Q w e q k =>
 hb A ι σ H ρ M _ _ w e q fun y M1 ι1 v1 H1 l1 w1 r1 ⟨i,ey,t,et,q1⟩ => by
  subst ey
  cases r1 with
  | p r =>
  cases r
  obtain ⟨x,hx,sx⟩:=atI_pair hs et
  exact ⟨p,vs,i,x,rfl,rfl,h H1,hx,k _ M1 ι1 x H1 l1 w1 (.p sx.rep) q1⟩
def uInK (neg:Bool) (vs:List V) (ua:UE):UE:=fun ρ M Q => ua ρ M fun x M1 => ∃ a,x = .p a∧∃ y,vt a = some y∧Q (.p (.bl (if neg then !inV y vs else inV y vs))) M1
theorem le_lenK {p:Addr} {vs:List V} (h:KTu K p vs):LE (tCB (rLenA K) (vH (tC (.ref p)) tNil)) (uC (.int vs.length)):=fun A ι σ H ρ M Qu Q w e q k =>
 ⟨p,vs,rfl, .inr (h H),k _ M ι _ H (.refl _ _) w (.p (.int _)) q⟩
inductive TyC where
 | int | bool | str | list | tuple
def TyC.name:TyC→String
 | .int => "int" | .bool => "bool" | .str => "str" | .list => "list" | .tuple => "tuple"
def isT:T→TyC→Bool
 | .int _, .int => true
 | .bl _, .int => true
 | .bl _, .bool => true
 | .str _, .str => true
 | .lst _, .list => true
 | .tup _, .tuple => true
 | _,_ => false
def isU (M:MM):U→TyC→Option Bool
 | .p t,c => some (isT t c)
 | .m k,c => match M[k]? with
  | some (.lst _) => some (isT (.lst []) c)
  | some (.tup _) => some (isT (.tup []) c)
  | _ => none
 | .x _ _ _,_ => none
theorem isi_rep {c:TyC} {b:Bool} (w:Wd A ι H M) (r:RepU A ι H v u) (e:isU M u c = some b):∃ t,TyOf K H v (.type t)∧PySem.W.kitOne K (.type t) (.type c.name) = some b:=by
 cases r with
 | p r =>
  simp only [isU,Option.some.injEq] at e
  subst e
  cases r with
  | non => exact ⟨_, .non,by cases c <;> rfl⟩
  | bl b => exact ⟨_, .bl b,by cases c <;> rfl⟩
  | int i => exact ⟨_, .int i,by cases c <;> rfl⟩
  | str x => exact ⟨_, .str x,by cases c <;> rfl⟩
  | tup na e l r => exact ⟨_, .tup e,by cases c <;> rfl⟩
  | lst na e l r => exact ⟨_, .lst e,by cases c <;> rfl⟩
 | m q =>
  obtain ⟨o,h1,h2⟩:=w.al q
  simp only [isU,h1] at e
  cases o with
  | lst us => simp only [Option.some.injEq] at e; subst e; obtain ⟨vs,h3,_⟩:=h2; exact ⟨_, .lst h3,by cases c <;> rfl⟩
  | tup us => simp only [Option.some.injEq] at e; subst e; obtain ⟨vs,h3,_⟩:=h2; exact ⟨_, .tup h3,by cases c <;> rfl⟩
  | ins => simp at e
  | dK => simp at e
 | x h => simp [isU] at e
def uIsi (c:TyC) (ua:UE):UE:=fun ρ M Q => ua ρ M fun x M1 => ∃ b,isU M1 x c = some b∧Q (.p (.bl b)) M1
theorem le_isi (c:TyC) (ha:LE ta ua):LE (tCB (rIsi K) (vH ta (vH (tC (.ty c.name)) tNil))) (uIsi c ua):=fun A ι σ H ρ M Qu Q w e q k =>
 ha A ι σ H ρ M _ _ w e q fun x M1 ι1 v1 H1 l1 w1 r1 ⟨b,eb,q1⟩ => by
  obtain ⟨t,h1,h2⟩:=isi_rep (K:=K) w1 r1 eb
  exact ⟨v1,c.name,t,b,rfl,h1,h2,k _ M1 ι1 _ H1 l1 w1 (.p (.bl _)) q1⟩
def uIsi2 (c d:TyC) (ua:UE):UE:=fun ρ M Q => ua ρ M fun x M1 => ∃ b,isU M1 x c = some b∧∃ b',isU M1 x d = some b'∧Q (.p (.bl (b || b'))) M1
def sEqTu (neg:Bool):T→T→(T→Prop)→Prop:=fun a b Q => ∃ xs ys,∃ e:Nat→Bool,a = .tup xs∧b = .tup ys∧(∀ (j:Nat) x y,xs[j]? = some x→ys[j]? = some y→EqT 20 x y (e j))∧Q (.bl (if neg then !((List.range (min xs.length ys.length)).all e && xs.length == ys.length) else ((List.range (min xs.length ys.length)).all e && xs.length == ys.length)))
theorem opl_eqT:OpL (rEqT K) (sEqTu false):=fun A ι H M x y a b Qs Q w r1 r2 ⟨xs,ys,e,ea,eb,he,q⟩ k => by
 subst ea eb
 obtain ⟨p,vs,rfl,h1,q1⟩:=r1.tup_inv
 obtain ⟨p2,vs2,rfl,h2,q2⟩:=r2.tup_inv
 refine ⟨p,p2,vs,vs2,e,rfl,rfl,SqT.of h1,SqT.of h2,fun j x y hx hy => ?_,by rw [q1.len,q2.len]; exact k _ ι _ H (.refl _ _) w (.bl _) q⟩
 obtain ⟨a,ha,ra⟩:=Paired.getL q1 hx
 obtain ⟨b,hb,rb⟩:=Paired.getL q2 hy
 exact (he j a b ha hb).de ra rb
def uDNew:UE:=fun _ M Q => Q (.m M.length) (M ++ [.dK []])
def DInS (neg:Bool) (M:MM) (y x:U) (Q:UK):Prop:=∃ k kvs key,x = .m k∧M[k]? = some (.dK kvs)∧y = keyU key∧Q (.p (.bl (if neg then !(valU kvs key).isSome else (valU kvs key).isSome))) M
def uDIn (neg:Bool) (ua ub:UE):UE:=fun ρ M Q => ua ρ M fun y M1 => ub ρ M1 fun x M2 => DInS neg M2 y x Q
def DPutS (M:MM) (x y v:U) (R:MM→Prop):Prop:=∃ k kvs key,x = .m k∧M[k]? = some (.dK kvs)∧y = keyU key∧kvs.length < sizeLine∧R (M.set k (.dK (putU kvs key v)))
def uDPut (ud uy uv:UE):US:=fun E ρ M => uv ρ M fun v M1 => ud ρ M1 fun x M2 => uy ρ M2 fun y M3 => DPutS M3 x y v fun M4 => E.nx ρ M4
theorem rd_din {neg:Bool} {Q:UK}:uDIn neg ua ub ρ M Q = ua ρ M fun y M1 => ub ρ M1 fun x M2 => DInS neg M2 y x Q:=rfl
theorem JI {ud uy uv:UE} {E:UEnds}:uDPut ud uy uv E ρ M = uv ρ M fun v M1 => ud ρ M1 fun x M2 => uy ρ M2 fun y M3 => DPutS M3 x y v fun M4 => E.nx ρ M4:=rfl
def IdxS (us:List U) (xs:List Str) (M:MM) (Q:UK):Prop:=∃ (t:Str) (j:Nat),us = [.p (.str t)]∧xs[j]? = some t∧(∀ m,m < j→xs[m]? ≠ some t)∧Q (.p (.int j)) M
def uIdxK (xs:List Str) (ul:UA):UE:=fun ρ M Q => ul ρ M fun us M1 => IdxS us xs M1 Q
theorem le_idxK {mg:Str→Option Value} {nm:Str} {p:Addr} {x y z:Str} (T3:Tup3 K mg nm p x y z) (ha:LA n tl ul):LE (tBM K "tuple" (rIdxT p x y z) (tC (.ref p)) tl) (uIdxK [x,y,z] ul):=fun A ι σ H ρ M Qu Q w e q k =>
 ⟨T3.ty H,ha A ι σ H ρ M _ _ w e q fun us M1 ι1 vs H1 l1 w1 hn r1 ⟨t,j,eu,ej,hf,q1⟩ => by
  subst eu
  cases r1 with
  | cons r q' =>
  cases q'
  cases r with
  | p r =>
  cases r
  exact ⟨t,j,rfl,rfl,ej,hf,k _ M1 ι1 _ H1 l1 w1 (.p (.int _)) q1⟩⟩
theorem JH {xs:List Str} {Q:UK}:uIdxK xs ul ρ M Q = ul ρ M fun us M1 => IdxS us xs M1 Q:=rfl
end
section
variable {ul:UA} {n:Nat} {M:MM} {u:U} {ρ:UEnv}
def LRng2S (us:List U) (M:MM) (Q:UK):Prop:=∃ (i j:Int) (n:Nat),us = [.p (.int i), .p (.int j)] ∧ -(2 ^ 62)≤i∧j < 2 ^ 62∧j = i + n∧n≤1000000∧Q (.p (.lst ((List.range n).map fun k:Nat => T.int (i + k)))) M
def uLRng2 (ul:UA):UE:=fun ρ M Q => ul ρ M fun us M1 => LRng2S us M1 Q
theorem Zw {Q:UK}:uLRng2 ul ρ M Q = ul ρ M fun us M1 => LRng2S us M1 Q:=rfl
theorem gdIx {it:MM→U→Option (List U)} {x y:U} {Q:UK} (h:IxS it M x y Q):IxS it M x y Q:=h
theorem gdT2 {u:U} {R:U→U→Prop} (h:T2S M u R):T2S M u R:=h
theorem gdT3 {u:U} {R:U→U→U→Prop} (h:T3S M u R):T3S M u R:=h
theorem gdMe {s:List U→List U→(U→List U→Prop)→Prop} {o:U} {Q:UK} (h:MeS s ul ρ M o Q):MeS s ul ρ M o Q:=h
theorem gdLen {it:MM→U→Option (List U)} {us:List U} {Q:UK} (h:LenS it M us Q):LenS it M us Q:=h
end
section
variable {ta tb tv:TE} {ua ub uv:UE} {tl:TA} {ul:UA} {n:Nat} {A:Addr→Prop} {H:Hp} {ι:List Addr} {M:MM} {v:V} {u:U} {t:T} {σ:St} {ρ:UEnv} {K:PySem.W.Frag} {f m:Str} {C:Addr}
abbrev FR (A:Addr→Prop) (ι:List Addr) (H:Hp):List (Str × V)→List (Str × U)→Prop:=Paired (fun (g:Str × V) (f:Str × U) => g.1 = f.1∧RepU A ι H g.2 f.2)
theorem look_rep {gs:List (Str × V)} {fs:List (Str × U)} {u:U} (r:FR A ι H gs fs) (e:fs.lookup f = some u):∃ v,gs.lookup f = some v∧RepU A ι H v u:=by
 induction r with
 | nil => cases e
 | @cons g h gs fs a _ ih =>
  obtain ⟨g1,g2⟩:=g
  obtain ⟨h1,h2⟩:=h
  obtain ⟨e1,r1⟩:=a
  simp only at e1 r1
  subst e1
  rw [List.lookup_cons] at e ⊢
  cases hk:f == g1 with
  | true => rw [hk] at e; cases e; exact ⟨_,rfl,r1⟩
  | false => rw [hk] at e; exact ih e
theorem Q1 {gs:List (Str × V)} {fs:List (Str × U)} (r:FR A ι H gs fs) (e:fs.lookup f = none):gs.lookup f = none:=by
 induction r with
 | nil => rfl
 | @cons g h gs fs a _ ih =>
  obtain ⟨g1,g2⟩:=g
  obtain ⟨h1,h2⟩:=h
  obtain ⟨e1,r1⟩:=a
  simp only at e1 r1
  subst e1
  rw [List.lookup_cons] at e ⊢
  cases hk:f == g1 with
  | true => rw [hk] at e; cases e
  | false => rw [hk] at e; exact ih e
def Xv (f:Str) (v:U):List (Str × U)→List (Str × U)
 | [] => [(f,v)]
 | (g,x) :: r => if g = f then (g,v) :: r else (g,x) :: Xv f v r
theorem putF_rep {gs:List (Str × V)} {fs:List (Str × U)} (r:FR A ι H gs fs) (rv:RepU A ι H v u):FR A ι H (putF f v gs) (Xv f u fs):=by
 induction r with
 | nil => exact .cons ⟨rfl,rv⟩ .nil
 | @cons g h gs fs a rr ih =>
  obtain ⟨g1,g2⟩:=g
  obtain ⟨h1,h2⟩:=h
  obtain ⟨e1,r1⟩:=a
  simp only at e1 r1
  subst e1
  unfold putF Xv
  by_cases hk:g1 = f
  ·rw [if_pos hk,if_pos hk]; exact .cons ⟨rfl,rv⟩ rr
  ·rw [if_neg hk,if_neg hk]; exact .cons ⟨rfl,r1⟩ ih
def FldS (K:PySem.W.Frag) (f:Str) (x:U) (M:MM) (Q:UK):Prop:=∃ k C fs u,x = .m k∧M[k]? = some (.ins C fs)∧Cls K C∧NoAttr K C f∧fs.lookup f = some u∧Q u M
def uFld (K:PySem.W.Frag) (ua:UE) (f:Str):UE:=fun ρ M Q => ua ρ M fun x M1 => FldS K f x M1 Q
theorem le_fld (ha:LE ta ua):LE (tFld K ta f) (uFld K ua f):=fun A ι σ H ρ M Qu Q w e q k =>
 ha A ι σ H ρ M _ _ w e q fun x M1 ι1 v1 H1 l1 w1 r1 ⟨kk,C,fs,u,ex,em,c,na,lk,q1⟩ => by
  subst ex
  cases r1 with
  | m ek =>
  obtain ⟨dx,gs,h1,h2,h3,h4⟩:=w1.obj kk _ _ ek em
  obtain ⟨v,hv,rv⟩:=look_rep h4 lk
  exact ⟨_,C,dx,gs,v,rfl,h1,c,na,hv,k _ M1 ι1 v H1 l1 w1 rv q1⟩
def Zg (K:PySem.W.Frag) (f:Str) (x y:U) (M:MM) (R:MM→Prop):Prop:=∃ k C fs,x = .m k∧M[k]? = some (.ins C fs)∧Cls K C∧NoAttr K C f∧fs.length < 1000∧R (M.set k (.ins C (Xv f y fs)))
def Vv (K:PySem.W.Frag) (ua uv:UE) (f:Str):US:=fun E ρ M => uv ρ M fun y M1 => ua ρ M1 fun x M2 => Zg K f x y M2 fun M3 => E.nx ρ M3
theorem ls_fld (ha:LE ta ua) (hv:LE tv uv):LS (sFld K ta tv f) (Vv K ua uv f):=fun A ι σ H ρ M D E w e r q =>
 hv A ι σ H ρ M _ _ w e q fun y M1 ι1 vy H1 l1 w1 r1 q1 => ha A ι1 σ H1 ρ M1 _ _ w1 (e.le l1) q1 fun x M2 ι2 vx H2 l2 w2 r2 ⟨kk,C,fs,ex,em,c,na,hz,q2⟩ => by
  subst ex
  cases r2 with
  | m ek =>
  rename_i a
  obtain ⟨dx,gs,h1,h2,h3,h4⟩:=w2.obj kk _ _ ek em
  have hmem:=List.mem_of_getElem? ek
  have l4:=l1.trans l2
  have hne:dx≠a:=fun z => by rw [z,h1] at h2; cases h2
  refine ⟨a,C,dx,gs,rfl,h1,c,na,by rw [h4.len]; exact hz,r.nx ι2 σ _ ρ _ (l4.trans (.put hmem)) (w2.put (mo:=.ins C (Xv f y fs)) ek ⟨dx,_,upd_same,by rw [upd_ne hne]; exact h2,h3,Paired.mapP (putF_rep h4 (r1.le l2)) fun _ _ q => ⟨q.1,q.2.le (.put hmem)⟩⟩) (e.le (l4.trans (.put hmem))) q2⟩
def YD (C:Addr) (m:Str) (x:U) (M:MM) (R:Prop):Prop:=∃ k fs,x = .m k∧M[k]? = some (.ins C fs)∧fs.lookup m = none∧R
def uMeth (C:Addr) (m:Str) (G:List U→MM→UK→Prop) (ua:UE) (ul:UA):UE:=fun ρ M Q => ua ρ M fun x M1 => YD C m x M1 (ul ρ M1 fun us M2 => G (x :: us) M2 Q)
theorem le_meth {G:List U→MM→UK→Prop} {E:XK} (ha:LE ta ua) (hl:LA n tl ul):LE (Vx C m (spU G) [] E ta tl) (uMeth C m G ua ul):=fun A ι σ H ρ M Qu Q w e q k =>
 ha A ι σ H ρ M _ _ w e q fun x M1 ι1 v1 H1 l1 w1 r1 ⟨kk,fs,ex,em,lk,q1⟩ => by
  subst ex
  have r1':=r1
  cases r1' with
  | m ek =>
  obtain ⟨dx,gs,h1,h2,h3,h4⟩:=w1.obj kk _ _ ek em
  refine ⟨_,dx,gs,rfl,h1,Q1 h4 lk,hl A ι1 σ H1 ρ M1 _ _ w1 (e.le l1) q1 fun us M2 ι2 vs H2 l2 w2 hn r2 q2 => ?_⟩
  rw [List.append_nil]
  exact ⟨A,ι2,M2,_,_,w2, .cons (r1.le l2) r2,q2,fun u M3 ι3 v H3 l3 w3 r3 q3 => k u M3 ι3 v H3 ((l1.trans l2).trans l3) w3 r3 q3⟩
def uMake (C:Addr) (G:List U→MM→UK→Prop) (ul:UA):UE:=fun ρ M Q => ul ρ M fun us M1 => G (.m M1.length :: us) (M1 ++ [.ins C []]) fun v M2 => v = .p .non∧Q (.m M1.length) M2
theorem le_make {G:List U→MM→UK→Prop} {E:XK} (hl:LA n tl ul):LE (tMake C (spU G) [] E tl) (uMake C G ul):=fun A ι σ H ρ M Qu Q w e q k =>
 hl A ι σ H ρ M _ _ w e q fun us M1 ι1 vs H1 l1 w1 hn r1 q1 x dx hx hdx hne => by
  have hx2:upd H1 dx (.own x) x = none:=by rw [upd_ne (Ne.symm hne)]; exact hx
  have l2:Le ι1 H1 ι1 (upd H1 dx (.own x)):=.fresh hdx
  have w2:=w1.fresh (o:=.own x) hdx
  have l3:Le ι1 (upd H1 dx (.own x)) (ι1 ++ [x]) (upd (upd H1 dx (.own x)) x (.ins C dx [])):=.push hx2
  have w3:Wd A (ι1 ++ [x]) (upd (upd H1 dx (.own x)) x (.ins C dx [])) (M1 ++ [.ins C []]):=w2.push (mo:=.ins C []) hx2 ⟨dx, [],upd_same,by rw [upd_ne hne,upd_same],fun z => by
   rcases List.mem_append.mp z with z | z
   ·exact w1.nin hdx z
   ·exact hne (List.mem_singleton.mp z), .nil⟩
  have rx:RepU A (ι1 ++ [x]) (upd (upd H1 dx (.own x)) x (.ins C dx [])) (.ref x) (.m M1.length):=.m (by rw [← w1.len]; exact kS)
  rw [List.append_nil]
  refine ⟨A,ι1 ++ [x],_,_,_,w3, .cons rx (r1.le (l2.trans l3)),q1,fun u M4 ι4 v4 H4 l4 w4 r4 q4 => ?_⟩
  obtain ⟨eu,q4⟩:=q4
  subst eu
  cases r4 with
  | p r4 =>
  cases r4
  exact ⟨rfl,k _ M4 ι4 _ H4 (l1.trans ((l2.trans l3).trans l4)) w4 (rx.le l4) q4⟩
def uNever:US:=fun _ _ _ => False
theorem ls_never:LS kE uNever:=fun A ι σ H ρ M D E w e r q => q.elim
def RepNS (M:MM) (x y:U) (Q:UK):Prop:=∃ xs k,x = .p (.lst xs)∧y = .p (.int k) ∧ -(2 ^ 63)≤k∧k < 2 ^ 63∧xs.length * k.toNat≤sizeLine∧Q (.m M.length) (M ++ [.lst ((List.replicate k.toNat xs).flatten.map U.p)])
def Vs (ua ub:UE):UE:=fun ρ M Q => ua ρ M fun x M1 => ub ρ M1 fun y M2 => RepNS M2 x y Q
theorem Kw (ha:LE ta ua) (hb:LE tb ub):LE (tOp rRep ta tb) (Vs ua ub):=fun A ι σ H ρ M Qu Q w e q k =>
 ha A ι σ H ρ M _ _ w e q fun x M1 ι1 v H1 l1 w1 r1 q1 => hb A ι1 σ H1 ρ M1 _ _ w1 (e.le l1) q1 fun y M2 ι2 v2 H2 l2 w2 r2 ⟨xs,kk,ex,ey,k0,k1,hz,q2⟩ => by
  subst ex ey
  have r1':=r1.le l2
  cases r1' with
  | p r1 =>
  cases r2 with
  | p r2 =>
  cases r2
  obtain ⟨p,vs,rfl,na,h1,h2⟩:=r1.lst_inv
  refine ⟨p,kk,vs,rfl,rfl,h1,k0,k1,by rw [h2.len]; exact hz,fun l hl => ?_⟩
  have:=VS w2 hl (RepTs.ups (ju h2 kk.toNat))
  exact k _ _ _ _ _ ((l1.trans l2).trans (.push hl)) this.1 this.2 q2
def flT:T→Bool
 | .int _ => true
 | .str _ => true
 | _ => false
def sEqW:T→T→(T→Prop)→Prop:=fun a b Q => sEq false a b Q∨sEqTu false a b Q∨(∃ xs,flT a = true∧b = .tup xs∧Q (.bl false))∨∃ xs,flT b = true∧a = .tup xs∧Q (.bl false)
theorem K5 {A:Addr→Prop} {H:Hp} {v:V} {t:T} (h:flT t = true) (r:RepV A H v t):K4 v = true:=by
 cases t with
 | int i => rw [r.int_inv]; rfl
 | str i => rw [r.str_inv]; rfl
 | _ => cases h
theorem J3:OpL (fun x y H Q => rEq x y H Q∨rEqT K x y H Q∨rEqFT K x y H Q∨rEqTF K x y H Q) sEqW:=fun A ι H M x y a b Qs Q w r1 r2 h k => by
 rcases h with h | h | ⟨xs,hf,eb,q⟩ | ⟨xs,hf,ea,q⟩
 ·exact .inl (vQ A ι H M x y a b Qs Q w r1 r2 h k)
 ·exact .inr (.inl (opl_eqT A ι H M x y a b Qs Q w r1 r2 h k))
 ·subst eb
  obtain ⟨p,vs,rfl,h1,q1⟩:=r2.tup_inv
  exact .inr (.inr (.inl ⟨p,vs,K5 hf r1,rfl,SqT.of h1,k _ ι _ H (.refl _ _) w (.bl _) q⟩))
 ·subst ea
  obtain ⟨p,vs,rfl,h1,q1⟩:=r1.tup_inv
  exact .inr (.inr (.inr ⟨p,vs,K5 hf r2,rfl,SqT.of h1,k _ ι _ H (.refl _ _) w (.bl _) q⟩))
def SubS (M:MM) (o i u:U) (R:MM→Prop):Prop:=∃ k us z j,o = .m k∧M[k]? = some (.lst us)∧i = .p (.int z)∧ixN us.length z = some j∧R (M.set k (.lst (us.set j u)))
theorem rd_sub {Q:UEnv→MM→Prop}:uSub ua ub u ρ M Q = ua ρ M fun o M1 => ub ρ M1 fun i M2 => SubS M2 o i u fun M3 => Q ρ M3:=rfl
def uName4 (i j k l:Nat):UG:=fun u ρ M Q => ∃ a b c d,zb M u = some [a,b,c,d]∧Q ((((ρ.set i (some a)).set j (some b)).set k (some c)).set l (some d)) M
def T4S (M:MM) (u:U) (R:U→U→U→U→Prop):Prop:=∃ a b c d,zb M u = some [a,b,c,d]∧R a b c d
theorem Zt {i j k l:Nat} {R:UEnv→MM→Prop}:uName4 i j k l u ρ M R = T4S M u fun a b c d => R ((((ρ.set i (some a)).set j (some b)).set k (some c)).set l (some d)) M:=rfl
theorem rd_t4 {a b c d:T} {R:U→U→U→U→Prop}:T4S M (.p (.tup [a,b,c,d])) R = R (.p a) (.p b) (.p c) (.p d):=propext ⟨fun ⟨_,_,_,_,e,h⟩ => by cases e; exact h,fun h => ⟨_,_,_,_,rfl,h⟩⟩
def P2S (us:List U) (R:U→U→Prop):Prop:=∃ a b,us = [a,b]∧R a b
def P3S (us:List U) (R:U→U→U→Prop):Prop:=∃ a b c,us = [a,b,c]∧R a b c
def uPar (i j:Nat) (ul:UA):US:=fun E ρ M => ul ρ M fun us M1 => P2S us fun a b => E.nx ((ρ.set i (some a)).set j (some b)) M1
def uPar3 (i j k:Nat) (ul:UA):US:=fun E ρ M => ul ρ M fun us M1 => P3S us fun a b c => E.nx (((ρ.set i (some a)).set j (some b)).set k (some c)) M1
theorem ls_par {i j:Nat} (hl:LA n tl ul):LS (tPar i j tl) (uPar i j ul):=fun A ι σ H ρ M D E w e r q =>
 hl A ι σ H ρ M _ _ w e q fun us M1 ι1 vs H1 l1 w1 hn r1 ⟨a,b,eu,q1⟩ => by
  subst eu
  obtain ⟨x,y,rfl,ra,rb⟩:=rep2 r1
  exact ⟨x,y,rfl,r.nx ι1 _ H1 _ M1 l1 w1 (((e.le l1).put i ra).put j rb) q1⟩
theorem rd_par {i j:Nat} {E:UEnds}:uPar i j ul E ρ M = ul ρ M fun us M1 => P2S us fun a b => E.nx ((ρ.set i (some a)).set j (some b)) M1:=rfl
theorem Jw {i j k:Nat} {E:UEnds}:uPar3 i j k ul E ρ M = ul ρ M fun us M1 => P3S us fun a b c => E.nx (((ρ.set i (some a)).set j (some b)).set k (some c)) M1:=rfl
theorem rd_p2 {a b:U} {R:U→U→Prop}:P2S [a,b] R = R a b:=propext ⟨fun ⟨_,_,e,h⟩ => by cases e; exact h,fun h => ⟨a,b,rfl,h⟩⟩
theorem rd_p3 {a b c:U} {R:U→U→U→Prop}:P3S [a,b,c] R = R a b c:=propext ⟨fun ⟨_,_,_,e,h⟩ => by cases e; exact h,fun h => ⟨a,b,c,rfl,h⟩⟩
theorem rd_fld {Q:UK}:uFld K ua f ρ M Q = ua ρ M fun x M1 => FldS K f x M1 Q:=rfl
theorem QF {E:UEnds}:Vv K ua uv f E ρ M = uv ρ M fun y M1 => ua ρ M1 fun x M2 => Zg K f x y M2 fun M3 => E.nx ρ M3:=rfl
theorem Jz {G:List U→MM→UK→Prop} {Q:UK}:uMeth C m G ua ul ρ M Q = ua ρ M fun x M1 => YD C m x M1 (ul ρ M1 fun us M2 => G (x :: us) M2 Q):=rfl
theorem JB {G:List U→MM→UK→Prop} {Q:UK}:uMake C G ul ρ M Q = ul ρ M fun us M1 => G (.m M1.length :: us) (M1 ++ [.ins C []]) fun v M2 => v = .p .non∧Q (.m M1.length) M2:=rfl
theorem QC {Q:UK}:Vs ua ub ρ M Q = ua ρ M fun x M1 => ub ρ M1 fun y M2 => RepNS M2 x y Q:=rfl
theorem jA {k:Nat} {fs:List (Str × U)} {u:U} {Q:UK} (c:Cls K C) (na:NoAttr K C f) (e:M[k]? = some (.ins C fs)) (lk:fs.lookup f = some u) (q:Q u M):FldS K f (.m k) M Q:=⟨k,C,fs,u,rfl,e,c,na,lk,q⟩
theorem zt {k:Nat} {fs:List (Str × U)} {y:U} {R:MM→Prop} (c:Cls K C) (na:NoAttr K C f) (e:M[k]? = some (.ins C fs)) (hz:fs.length < 1000) (q:R (M.set k (.ins C (Xv f y fs)))):Zg K f (.m k) y M R:=⟨k,C,fs,rfl,e,c,na,hz,q⟩
theorem meth_at {k:Nat} {fs:List (Str × U)} {R:Prop} (e:M[k]? = some (.ins C fs)) (lk:fs.lookup m = none) (q:R):YD C m (.m k) M R:=⟨k,fs,rfl,e,lk,q⟩
theorem Jm {xs:List T} {k:Int} {Q:UK} (k0 : -(2 ^ 63)≤k) (k1:k < 2 ^ 63) (hz:xs.length * k.toNat≤sizeLine) (q:Q (.m M.length) (M ++ [.lst ((List.replicate k.toNat xs).flatten.map U.p)])):RepNS M (.p (.lst xs)) (.p (.int k)) Q:=⟨xs,k,rfl,rfl,k0,k1,hz,q⟩
end
section
variable {P:Program} {w:World} {K:PySem.W.Frag} {mg:Str→Option Value} {base:Heap}
def gNo:List U→MM→UK→Prop:=fun _ _ _ => False
theorem FnOk.no {k:Nat} {f:Addr} {fd:FuncData} {ps:List Str}:FnOk P w K mg base CX0 k f fd ps (spU gNo) :=
 ⟨fun vs H Q E ⟨_,_,_,_,_,_,_,h,_⟩ => h.elim,fun _ _ _ _ _ _ _ _ _ _ _ _ _ ⟨_,_,_,_,_,_,_,h,_⟩ => h.elim⟩
theorem FnOk.noP {k:Nat} {f:Addr} {fd:FuncData} {ps:List Str}:FnOk P w K mg base CX0 k f fd ps (spP fun _ _ => False) :=
 ⟨fun vs H Q E ⟨_,_,_,_,_,h,_⟩ => h.elim,fun _ _ _ _ _ _ _ _ _ _ _ _ _ ⟨_,_,_,_,_,h,_⟩ => h.elim⟩
end
structure ZE (a:TE) (b:UE):Prop where
 h:LE a b
structure ZT (a:TT) (b:UT):Prop where
 h:LT a b
structure ZA (n:Nat) (a:TA) (b:UA):Prop where
 h:LA n a b
structure ZO (a:TO) (b:UO):Prop where
 h:LO a b
structure ZI (a:TI) (b:UI):Prop where
 h:LI a b
structure ZG (a:TG) (b:UG):Prop where
 h:LG a b
structure ZX (bs:List Bool) (n:Nat) (a:TG) (b:UG):Prop where
 h:LGx bs n a b
structure ZS (a:TS) (b:US):Prop where
 h:LS a b
structure ZP (a:List (TE × TE)) (b:List (UE × UE)):Prop where
 h:LPs a b
theorem cp_nil:ZP [] []:=⟨.nil⟩
theorem xp {tk tv:TE} {uk uv:UE} {ts:List (TE × TE)} {us:List (UE × UE)} (a:ZE tk uk) (b:ZE tv uv) (c:ZP ts us):ZP ((tk,tv) :: ts) ((uk,uv) :: us):=⟨.cons a.h b.h c.h⟩
theorem Yo {trs:List (TE × TE)} {urs:List (UE × UE)} (h:ZP trs urs):ZE (tDisp trs) (uDisp urs):=⟨le_disp h.h⟩
section
theorem qb (i:Nat):ZE (tVar i) (uVar i):=⟨le_var i⟩
end
section
theorem ce_c {v:V} {t:T} (h:Sc v t):ZE (tC v) (uC t):=⟨le_c h⟩
end
section
theorem qf  : ZA 0 tNil uNil:=⟨la_nil ⟩
end
section
variable {ta:TE} {ua:UE} {tl:TA} {ul:UA} {n:Nat}
theorem qa (ha:ZE ta ua) (hl:ZA n tl ul):ZA (n + 1) (vH ta tl) (uCons ua ul):=⟨la_cons ha.h hl.h⟩
end
section
variable {ta tb:TE} {ua ub:UE}
theorem qr {r:R2} {s:T→T→(T→Prop)→Prop} (h:OpL r s) (ha:ZE ta ua) (hb:ZE tb ub):ZE (tOp r ta tb) (uOp s ua ub):=⟨le_op h ha.h hb.h⟩
end
section
variable {ta:TE} {ua:UE}
variable {H:Hp}
theorem ce_isN (ha:ZE ta ua):ZE (tOp (fun x y H Q => y = .non∧Q (.bl (decide (x = .non))) H) ta (tC .non)) (uIsN false ua):=⟨le_isN ha.h⟩
end
section
variable {ta:TE} {ua:UE}
theorem ce_neg (ha:ZE ta ua):ZE (tUn (rU fun i => .int (-i)) ta) (uNeg ua):=⟨le_neg ha.h⟩
end
section
variable {ta:TE} {ua:UE}
theorem ct_b (ha:ZE ta ua):ZT (tB ta) (uB ua):=⟨lt_b ha.h⟩
end
section
variable {ta:TE} {ua:UE}
theorem qP (ha:ZE ta ua):ZT (zm ta) (uB ua):=⟨lt_test ha.h⟩
end
section
variable {ta:TE} {ua:UE}
theorem ct_tru {K:PySem.W.Frag} (ha:ZE ta ua):ZT (tTru K ta) (uTru ua):=⟨lt_tru ha.h⟩
end
section
variable {tt tt':TT} {ut ut':UT}
theorem ct_and (ha:ZT tt ut) (hb:ZT tt' ut'):ZT (tAnd tt tt') (uAnd ut ut'):=⟨lt_and ha.h hb.h⟩
end
section
variable {tt:TT} {ut:UT}
theorem ky (ha:ZT tt ut):ZT (tNot tt) (uNot ut):=⟨lt_not ha.h⟩
end
section
variable {ta tb:TE} {ua ub:UE}
theorem ce_andV (ha:ZE ta ua) (hb:ZE tb ub):ZE (zz ta tb) (uAndV ua ub):=⟨le_andV ha.h hb.h⟩
end
section
variable {ta tb:TE} {ua ub:UE} {tt:TT} {ut:UT}
theorem Yn (hc:ZT tt ut) (ha:ZE ta ua) (hb:ZE tb ub):ZE (tIf tt ta tb) (uIf ut ua ub):=⟨le_if hc.h ha.h hb.h⟩
end
section
variable {ta tb tc:TE} {ua ub uc:UE}
theorem ce_chain {r r':R2} {s s':T→T→(T→Prop)→Prop} (h:OpL r s) (h':OpL r' s') (ha:ZE ta ua) (hb:ZE tb ub) (hc:ZE tc uc):ZE (vF r r' ta tb tc) (Zj s s' ua ub uc):=⟨le_chain h h' ha.h hb.h hc.h⟩
end
section
variable {tl:TA} {ul:UA} {n:Nat}
theorem qY (ha:ZA n tl ul) (hn:n≤1000:=by decide):ZE (tTup tl) (uTup ul):=⟨le_tup ha.h hn⟩
end
section
variable {tl:TA} {ul:UA} {n:Nat}
theorem vG (ha:ZA n tl ul) (hn:n≤1000:=by decide):ZE (tLst tl) (uLst ul):=⟨le_lst ha.h hn⟩
end
section
variable {tl:TA} {ul:UA} {n:Nat}
theorem Xa (ha:ZA n tl ul) (hn:n≤1000:=by decide):ZE (tLst tl) (uNew ul):=⟨le_new ha.h hn⟩
end
section
variable {ta tb:TE} {ua ub:UE}
theorem qZ {K:PySem.W.Frag} (ha:ZE ta ua) (hb:ZE tb ub):ZE (tOp (rIxL K) ta tb) (uIx qM ua ub):=⟨le_ixL ha.h hb.h⟩
end
section
variable {ta tb:TE} {ua ub:UE}
theorem vk {K:PySem.W.Frag} (ha:ZE ta ua) (hb:ZE tb ub):ZE (tOp (rIxT K) ta tb) (uIx zb ua ub):=⟨le_ixT ha.h hb.h⟩
end
section
variable {tl:TA} {ul:UA} {n:Nat}
theorem Qi {r:List V→Hp→VK→Prop} {s:List T→(T→Prop)→Prop} (h:CbL r s) (ha:ZA n tl ul):ZE (tCB r tl) (uCb s ul):=⟨le_cb h ha.h⟩
end
section
variable {tl:TA} {ul:UA} {n:Nat}
theorem Ym (ha:ZA n tl ul):ZE (tCB rLenL tl) (uLen qM ul):=⟨le_len ha.h⟩
end
section
theorem Qg  : ZO va Vu:=⟨lo_none ⟩
end
section
variable {ta:TE} {ua:UE}
theorem xq (ha:ZE ta ua):ZO (zx ta) (uPart ua):=⟨lo_some ha.h⟩
end
section
variable {ta:TE} {ua:UE}
theorem XW {K:PySem.W.Frag} {t1 t2:TO} {u1 u2:UO} (ha:ZE ta ua) (h1:ZO t1 u1) (h2:ZO t2 u2):ZE (tSl (rSlL K) ta t1 t2) (uSl ua u1 u2):=⟨le_sl ha.h h1.h h2.h⟩
end
section
variable {ta:TE} {ua:UE} {K:PySem.W.Frag}
theorem zW (ha:ZE ta ua):ZI (XQ K ta) (uIter ua):=⟨li_list ha.h⟩
end
section
variable {tl:TA} {ul:UA} {n:Nat}
theorem Qh (ha:ZA n tl ul):ZI (KM tl) (uRng1 ul):=⟨li_rng1 ha.h⟩
end
section
theorem qu (i:Nat):ZG (qE i) (Xf i):=⟨lg_name i⟩
end
section
variable {K:PySem.W.Frag}
theorem Z8 (i j:Nat):ZG (gTup K 2 (vq (qE i) (vq (qE j) gNil))) (X1 i j):=⟨lg_name2 i j⟩
end
section
variable {K:PySem.W.Frag}
theorem cg_name3 (i j l:Nat):ZG (gTup K 3 (vq (qE i) (vq (qE j) (vq (qE l) gNil)))) (Qv i j l):=⟨lg_name3 i j l⟩
end
section
variable {ta tb:TE} {ua ub:UE}
theorem kA (ha:ZE ta ua) (hb:ZE tb ub):ZG (gSub ta tb rSetL) (uSub ua ub):=⟨lg_sub ha.h hb.h⟩
end
section
variable {n:Nat}
theorem zc {bs:List Bool} (i:Nat) (h:xH bs n i = true:=by rfl):ZX bs n (qE i) (Xf i):=⟨lgx_name i h⟩
end
section
variable {n:Nat} {K:PySem.W.Frag}
theorem Yl {bs:List Bool} (i j l:Nat) (h:xH bs n i = true:=by rfl) (h2:xH bs n j = true:=by rfl) (h3:xH bs n l = true:=by rfl):ZX bs n (gTup K 3 (vq (qE i) (vq (qE j) (vq (qE l) gNil)))) (Qv i j l):=⟨Kv i j l h h2 h3⟩
end
section
variable {M:MM}
theorem Vi  : ZT tYes (fun _ M Q => Q true M):=⟨lt_yes ⟩
end
section
variable {te:TE} {ue:UE} {tt:TT} {ut:UT} {n:Nat}
theorem zG {wi:TI} {ui:UI} {bs:List Bool} {g:TG} {ug:UG} (hi:ZI wi ui) (hg:ZX bs n g ug) (ht:ZT tt ut) (he:ZE te ue):ZE (vV wi bs n g tt te) (uComp ui bs n ug ut ue):=⟨le_comp hi.h hg.h ht.h he.h⟩
end
section
theorem qQ  : ZS zn uNext:=⟨ls_next ⟩
end
section
variable {ts ts':TS} {us us':US}
theorem ql (ha:ZS ts us) (hb:ZS ts' us'):ZS (tSeq ts ts') (uSeq us us'):=⟨ls_seq ha.h hb.h⟩
end
section
variable {ta:TE} {ua:UE}
theorem zu (ha:ZE ta ua):ZS (zy ta) (uDrop ua):=⟨ls_drop ha.h⟩
end
section
variable {ta:TE} {ua:UE}
theorem qA (ha:ZE ta ua):ZS (tRet ta) (uRet ua):=⟨ls_ret ha.h⟩
end
section
theorem cs_retN  : ZS zw uRetN:=⟨ls_retN ⟩
end
section
variable {tt:TT} {ut:UT}
variable {ts ts':TS} {us us':US}
theorem v6 (hc:ZT tt ut) (ha:ZS ts us) (hb:ZS ts' us'):ZS (tIfS tt ts ts') (uIfS ut us us'):=⟨ls_if hc.h ha.h hb.h⟩
end
section
variable {ta:TE} {ua:UE}
theorem qB {g:TG} {ug:UG} (ha:ZE ta ua) (hg:ZG g ug):ZS (tAsg ta g) (uAsg ua ug):=⟨ls_asg ha.h hg.h⟩
end
section
variable {ts:TS} {us:US}
theorem Yh {wi:TI} {ui:UI} {g:TG} {ug:UG} (hi:ZI wi ui) (hg:ZG g ug) (hb:ZS ts us):ZS (tFor wi g ts) (uFor ui ug us):=⟨ls_for hi.h hg.h hb.h⟩
end
section
variable {tt:TT} {ut:UT}
variable {ts:TS} {us:US}
theorem cs_while (hc:ZT tt ut) (hb:ZS ts us):ZS (Zl tt ts) (uWhile ut us):=⟨ls_while hc.h hb.h⟩
end
section
variable {ta:TE} {ua:UE} {tl:TA} {ul:UA} {n:Nat}
theorem ce_me {r:V→List V→Hp→VK→Prop} {s:List U→List U→(U→List U→Prop)→Prop} (h:MeL r s) (ha:ZE ta ua) (hl:ZA n tl ul):ZE (tLM r ta tl) (uMe s ua ul):=⟨le_me h ha.h hl.h⟩
end
section
variable {tl:TA} {ul:UA} {n:Nat}
theorem qp {G:List U→MM→UK→Prop} {E:XK} (ha:ZA n tl ul):ZE (vN (spU G) [] E tl) (uCall G ul):=⟨le_callU ha.h⟩
end
section
variable {tl:TA} {ul:UA} {n:Nat}
theorem qt {G:List T→(T→Prop)→Prop} {E:XK} (ha:ZA n tl ul):ZE (vN (spP G) [] E tl) (X6 G ul):=⟨le_callP ha.h⟩
end
section
variable {tl:TA} {ul:UA} {n:Nat}
theorem Xb {G:List T→(T→Prop)→Prop} {E:XK} (ha:ZA n tl ul):ZE (vN (spP G) [] E tl) (X5 G ul):=⟨le_callS ha.h⟩
end
section
variable {ta tb:TE} {ua ub:UE}
theorem Ze (ha:ZE ta ua) (hb:ZE tb ub):ZE (tDGet ta tb) (uDGet ua ub):=⟨le_dget ha.h hb.h⟩
end
section
theorem ce_ifC {tt:TT} {ut:UT} {v1 v2:V} {t1 t2:T} (hc:ZT tt ut) (h1:Sc v1 t1) (h2:Sc v2 t2):ZE (tIf tt (tC v1) (tC v2)) (uIfC ut t1 t2):=⟨le_ifC hc.h h1 h2⟩
end
section
variable {tb:TE} {ub:UE} {K:PySem.W.Frag}
theorem ce_ixK {p:Addr} {vs:List V} {ts:List T} (h:KTu K p vs) (hs:Paired Sc vs ts) (hb:ZE tb ub):ZE (tOp (rIxT K) (tC (.ref p)) tb) (uIxK ts ub):=⟨le_ixK h hs hb.h⟩
end
section
variable {K:PySem.W.Frag}
theorem ce_lenK {p:Addr} {vs:List V} (h:KTu K p vs):ZE (tCB (rLenA K) (vH (tC (.ref p)) tNil)) (uC (.int vs.length)):=⟨le_lenK h⟩
end
section
variable {ta:TE} {ua:UE} {K:PySem.W.Frag}
theorem ji (c:TyC) (ha:ZE ta ua):ZE (tCB (rIsi K) (vH ta (vH (tC (.ty c.name)) tNil))) (uIsi c ua):=⟨le_isi c ha.h⟩
end
section
variable {tl:TA} {ul:UA} {n:Nat} {K:PySem.W.Frag}
theorem ce_idxK {mg:Str→Option Value} {nm:Str} {p:Addr} {x y z:Str} (T3:Tup3 K mg nm p x y z) (ha:ZA n tl ul):ZE (tBM K "tuple" (rIdxT p x y z) (tC (.ref p)) tl) (uIdxK [x,y,z] ul):=⟨le_idxK T3 ha.h⟩
end
section
variable {ta:TE} {ua:UE} {K:PySem.W.Frag} {f:Str}
theorem vC (ha:ZE ta ua):ZE (tFld K ta f) (uFld K ua f):=⟨le_fld ha.h⟩
end
section
variable {ta tv:TE} {ua uv:UE} {K:PySem.W.Frag} {f:Str}
theorem j3 (ha:ZE ta ua) (hv:ZE tv uv):ZS (sFld K ta tv f) (Vv K ua uv f):=⟨ls_fld ha.h hv.h⟩
end
section
variable {ta:TE} {ua:UE} {tl:TA} {ul:UA} {n:Nat} {m:Str} {C:Addr}
theorem vh {G:List U→MM→UK→Prop} {E:XK} (ha:ZE ta ua) (hl:ZA n tl ul):ZE (Vx C m (spU G) [] E ta tl) (uMeth C m G ua ul):=⟨le_meth ha.h hl.h⟩
end
section
variable {tl:TA} {ul:UA} {n:Nat} {C:Addr}
theorem ce_make {G:List U→MM→UK→Prop} {E:XK} (hl:ZA n tl ul):ZE (tMake C (spU G) [] E tl) (uMake C G ul):=⟨le_make hl.h⟩
end
section
theorem cs_never  : ZS kE uNever:=⟨ls_never ⟩
end
section
variable {ta tb:TE} {ua ub:UE}
theorem Vk (ha:ZE ta ua) (hb:ZE tb ub):ZE (tOp rRep ta tb) (Vs ua ub):=⟨Kw ha.h hb.h⟩
end
section
variable {tl:TA} {ul:UA} {n:Nat}
theorem cs_par {i j:Nat} (hl:ZA n tl ul):ZS (tPar i j tl) (uPar i j ul):=⟨ls_par hl.h⟩
end
section
variable {P:Program} {w:World} {K:PySem.W.Frag} {mg:Str→Option Value} {base:Heap}
theorem Fun.okQ {x qual:Str} {st:Stmt} {f:Addr} {fd:FuncData} {N ps:List Str} {k:Nat} {sp:Sp} (F:Fun K x qual st f fd) (S:FnScope N ps (qc st)) (len:∀ vs H Q E,sp vs H Q E→vs.length = ps.length)
  (hbody:∀ (cdv:Value) (A:Around) (outer:List Env) (s:Shared) (H:Hp) (vs:List V) (Q:VK) (E:XK),Room k (A.deeper (envOfC qual (qc st) s.heap.objs.size f cdv))→sp vs H Q E →
   ∃ t,QSs (cxOf CX0 P w K mg base N qual (qc st) f cdv A outer s H E).nox (qg st) t∧t { nx:=fun _ H' => Q .non H',rt:=Q } (start N vs) H):FnOk P w K mg base CX0 (k + 1) f fd ps sp :=
 F.ok S len fun cdv A outer s H vs Q E hr hsp => by
  obtain ⟨t,h,q⟩:=hbody cdv A outer s H vs Q E hr hsp
  exact ⟨t,h.h,q⟩
theorem Fun.zU {x qual:Str} {st:Stmt} {f:Addr} {fd:FuncData} {N ps:List Str} {k:Nat} {G:List U→MM→UK→Prop} (F:Fun K x qual st f fd) (S:FnScope N ps (qc st)) (len:∀ us M Qu,G us M Qu→us.length = ps.length)
  (hbody:∀ (cdv:Value) (A:Around) (outer:List Env) (s:Shared) (H:Hp) (E:XK),Room k (A.deeper (envOfC qual (qc st) s.heap.objs.size f cdv)) →
   ∃ t,QSs (cxOf CX0 P w K mg base N qual (qc st) f cdv A outer s H E).nox (qg st) t∧∃ u,ZS t u∧∀ us M Qu,G us M Qu→u { nx:=fun _ M' => Qu (.p .non) M',rt:=Qu } (xi N us) M):FnOk P w K mg base CX0 (k + 1) f fd ps (spU G) :=
 F.okU S len fun cdv A outer s H E hr => by
  obtain ⟨t,h,u,hu,q⟩:=hbody cdv A outer s H E hr
  exact ⟨t,h.h,u,hu.h,q⟩
theorem Fun.zV {x qual:Str} {st:Stmt} {f:Addr} {fd:FuncData} {N ps:List Str} {k:Nat} {G:List U→MM→UK→Prop} (F:Fun K x qual st f fd) (S:FnScope N ps (qc st)) (len:∀ us M Qu,G us M Qu→us.length = ps.length)
  (hbody:∀ (cdv:Value) (A:Around) (outer:List Env) (s:Shared) (H:Hp) (E:XK),Room k (A.deeper (envOfC qual (qc st) s.heap.objs.size f cdv)) →
   ∃ t,QSs (cxOf CX0 P w K mg base N qual (qc st) f cdv A outer s H E).nox (qg st) t∧∃ u,ZS t u∧∀ us M M1 Qu,M1 = M→G us M Qu→u { nx:=fun _ M' => xK M M'∧Qu (.p .non) (M'.take M.length),rt:=fun z M' => xK M M'∧∃ t,frzB M.length 4 M' z = some t∧Qu (.p t) (M'.take M.length) } (xi N us) M1):FnOk P w K mg base CX0 (k + 1) f fd ps (spU G) :=
 F.okV S len fun cdv A outer s H E hr => by
  obtain ⟨t,h,u,hu,q⟩:=hbody cdv A outer s H E hr
  exact ⟨t,h.h,u,hu.h,fun us M Qu g => q us M M Qu rfl g⟩
theorem Fun.zP {x qual:Str} {st:Stmt} {f:Addr} {fd:FuncData} {N ps:List Str} {k:Nat} {G:List T→(T→Prop)→Prop} (F:Fun K x qual st f fd) (S:FnScope N ps (qc st)) (len:∀ ts Qt,G ts Qt→ts.length = ps.length)
  (hbody:∀ (cdv:Value) (A:Around) (outer:List Env) (s:Shared) (H:Hp) (E:XK),Room k (A.deeper (envOfC qual (qc st) s.heap.objs.size f cdv)) →
   ∃ t,QSs (cxOf CX0 P w K mg base N qual (qc st) f cdv A outer s H E).nox (qg st) t∧∃ u,ZS t u∧∀ ts Qt,G ts Qt→u { nx:=fun _ _ => Qt .non,rt:=fun z M' => ∃ t,frzN 4 M' z = some t∧Qt t } (xi N (ts.map U.p)) []):FnOk P w K mg base CX0 (k + 1) f fd ps (spP G) :=
 F.okP S len fun cdv A outer s H E hr => by
  obtain ⟨t,h,u,hu,q⟩:=hbody cdv A outer s H E hr
  exact ⟨t,h.h,u,hu.h,q⟩
end
abbrev UX:=Str→Option Int→MM→Prop
def pT:Option Int→T
 | none => .non
 | some n => .int n
theorem pT_rep {A:Addr→Prop} {H:Hp}:∀ p:Option Int,RepT A H (pV p) (pT p)
 | none => .non
 | some _ => .int _
theorem pT_inv {A:Addr→Prop} {H:Hp} {v:V}:∀ {p:Option Int},RepT A H v (pT p)→v = pV p
 | none,r => by cases r; rfl
 | some _,r => by cases r; rfl
abbrev UXe:=UEnv→MM→UK→UX→Prop
def spX (mg:Str→Option Value) (G:List U→MM→UK→UX→Prop):Sp:=fun vs H Q E => ∃ A ι M us Qu Xu,Wd A ι H M∧RepUs A ι H vs us∧G us M Qu Xu ∧
 (∀ u M' ι' v H',Le ι H ι' H'→Wd A ι' H' M'→RepU A ι' H' v u→Qu u M'→Q v H')∧∀ nm p C d M' ι' H',mg nm = some C→PartIs d H' p→Le ι H ι' H'→Wd A ι' H' M'→Xu nm p M'→E C d H'
structure ZXe (mg:Str→Option Value) (tx:TX) (ux:UXe):Prop where
 h:∀ (A:Addr→Prop) (ι:List Addr) (σ:St) (H:Hp) (ρ:UEnv) (M:MM) (Qu:UK) (Xu:UX) (Q:VK) (E:XK),Wd A ι H M→EnvR A ι H σ ρ→ux ρ M Qu Xu →
  (∀ u M' ι' v H',Le ι H ι' H'→Wd A ι' H' M'→RepU A ι' H' v u→Qu u M'→Q v H')→(∀ nm p C d M' ι' H',mg nm = some C→PartIs d H' p→Le ι H ι' H'→Wd A ι' H' M'→Xu nm p M'→E C d H')→tx σ H Q E
section
variable {mg:Str→Option Value} {tx:TX} {ux:UXe} {ta:TE} {ua:UE} {tl:TA} {ul:UA} {n:Nat} {tb:TS} {us ub:US} {C:Addr} {m:Str}
def X4 (G:List U→MM→UK→UX→Prop) (ul:UA):UXe:=fun ρ M Q X => ul ρ M fun us M1 => G us M1 Q X
theorem cx_call {G:List U→MM→UK→UX→Prop} (ha:ZA n tl ul):ZXe mg (tCallX (spX mg G) tl) (X4 G ul):=⟨fun A ι σ H ρ M Qu Xu Q E w e q k kx =>
 ha.h A ι σ H ρ M _ _ w e q fun us M1 ι1 vs H1 l1 w1 hn r1 q1 =>
  ⟨A,ι1,M1,us,_,_,w1,r1,q1,fun u M2 ι2 v H2 l2 w2 r2 q2 => k u M2 ι2 v H2 (l1.trans l2) w2 r2 q2,fun nm p C d M2 ι2 H2 hm hp l2 w2 q2 => kx nm p C d M2 ι2 H2 hm hp (l1.trans l2) w2 q2⟩⟩
def X2 (C:Addr) (m:Str) (G:List U→MM→UK→UX→Prop) (ua:UE) (ul:UA):UXe:=fun ρ M Q X => ua ρ M fun x M1 => YD C m x M1 (ul ρ M1 fun us M2 => G (x :: us) M2 Q X)
theorem cx_meth {G:List U→MM→UK→UX→Prop} (ha:ZE ta ua) (hl:ZA n tl ul):ZXe mg (tMethX C m (spX mg G) ta tl) (X2 C m G ua ul):=⟨fun A ι σ H ρ M Qu Xu Q E w e q k kx =>
 ha.h A ι σ H ρ M _ _ w e q fun x M1 ι1 v1 H1 l1 w1 r1 ⟨kk,fs,ex,em,lk,q1⟩ => by
  subst ex
  have r1':=r1
  cases r1' with
  | m ek =>
  obtain ⟨dx,gs,h1,h2,h3,h4⟩:=w1.obj kk _ _ ek em
  refine ⟨_,dx,gs,rfl,h1,Q1 h4 lk,hl.h A ι1 σ H1 ρ M1 _ _ w1 (e.le l1) q1 fun us M2 ι2 vs H2 l2 w2 hn r2 q2 => ?_⟩
  exact ⟨A,ι2,M2,_,_,_,w2, .cons (r1.le l2) r2,q2,fun u M3 ι3 v H3 l3 w3 r3 q3 => k u M3 ι3 v H3 ((l1.trans l2).trans l3) w3 r3 q3,fun nm p C d M3 ι3 H3 hm hp l3 w3 q3 => kx nm p C d M3 ι3 H3 hm hp ((l1.trans l2).trans l3) w3 q3⟩⟩
def tagU (nm:Str) (p:Option Int) (ρ:UEnv):UEnv:=some (.p (.str nm)) :: some (.p (pT p)) :: ρ
theorem Vw {A:Addr→Prop} {ι:List Addr} {H:Hp} {σ:St} {ρ:UEnv} {nm:Str} {p:Option Int} (e:EnvR A ι H σ ρ):EnvR A ι H (some (.str nm) :: some (pV p) :: σ) (tagU nm p ρ):=.cons (fun u q => by cases q; exact ⟨_,rfl, .p (.str _)⟩) (.cons (fun u q => by cases q; exact ⟨_,rfl, .p (pT_rep p)⟩) e)
def X3 (ux:UXe):US:=fun E ρ M => ux ρ M (fun _ M1 => E.nx ρ M1) fun nm p M1 => E.bk (tagU nm p ρ) M1
theorem cs_dropX (h:ZXe mg tx ux):ZS (tDropX tx mg) (X3 ux):=⟨fun A ι σ H ρ M D E w e r q =>
 h.h A ι σ H ρ M _ _ _ _ w e q (fun x M1 ι1 v H1 l1 w1 r1 q1 => r.nx ι1 σ H1 ρ M1 l1 w1 (e.le l1) q1) fun nm p C d M1 ι1 H1 hm hp l1 w1 q1 => ⟨nm,p,hm,hp,r.bk ι1 _ H1 _ M1 l1 w1 (Vw (e.le l1)) q1⟩⟩
def uRetX (ux:UXe):US:=fun E ρ M => ux ρ M E.rt fun nm p M1 => E.bk (tagU nm p ρ) M1
def uSetX (i:Nat) (ux:UXe):US:=fun E ρ M => ux ρ M (fun x M1 => E.nx (ρ.set i (some x)) M1) fun nm p M1 => E.bk (tagU nm p ρ) M1
theorem cs_setX {i:Nat} (h:ZXe mg tx ux):ZS (tSetX i tx mg) (uSetX i ux):=⟨fun A ι σ H ρ M D E w e r q =>
 h.h A ι σ H ρ M _ _ _ _ w e q (fun x M1 ι1 v H1 l1 w1 r1 q1 => r.nx ι1 _ H1 _ M1 l1 w1 ((e.le l1).put i r1) q1) fun nm p C d M1 ι1 H1 hm hp l1 w1 q1 => ⟨nm,p,hm,hp,r.bk ι1 _ H1 _ M1 l1 w1 (Vw (e.le l1)) q1⟩⟩
def uRaise (x:Str) (ul:UA):US:=fun E ρ M => ul ρ M fun us M1 => us.length≤sizeLine∧E.bk (tagU x none ρ) M1
def Vt (x:Str) (ul:UA):US:=fun E ρ M => ul ρ M fun us M1 => ∃ k,us = [.p (.int k)]∧jM k∧E.bk (tagU x (some k) ρ) M1
theorem Vj {x:Str} (h:ZA n tl ul):ZS (X8 x tl) (Vt x ul):=⟨fun A ι σ H ρ M D E w e r q =>
 h.h A ι σ H ρ M _ _ w e q fun us M1 ι1 vs H1 l1 w1 hn r1 ⟨k,eu,sk,q1⟩ => by
  subst eu
  cases r1 with
  | cons a b =>
  cases b
  cases a with
  | p a =>
  cases a
  exact ⟨k,rfl,sk,fun d hd => r.bk ι1 _ _ _ M1 (l1.trans (Le.fresh hd)) (w1.fresh hd) (Vw (p:=some k) ((e.le l1).le (Le.fresh hd))) q1⟩⟩
def uTry (n:Nat) (ub:US) (l:List (Str × (Option Int→US))):US:=fun E ρ M => ub { E with bk:=fun τ M' => ∃ nm p ρ' u,τ = tagU nm p ρ'∧ρ'.length = n∧l.lookup nm = some u∧u p E ρ' M' } ρ M
structure ZHs (l:List (Str × (Option Int→TS))) (l':List (Str × (Option Int→US))):Prop where
 h:∀ nm u,l'.lookup nm = some u→∃ t,l.lookup nm = some t∧∀ p,LS (t p) (u p)
theorem zh_nil:ZHs [] []:=⟨fun nm u e => by simp at e⟩
theorem zh_cons {x:Str} {t:Option Int→TS} {u:Option Int→US} {l:List (Str × (Option Int→TS))} {l':List (Str × (Option Int→US))} (h:∀ p,ZS (t p) (u p)) (hr:ZHs l l'):ZHs ((x,t) :: l) ((x,u) :: l'):=⟨fun nm v e => by
 rw [List.lookup_cons] at e ⊢
 cases hx:(nm == x) with
 | true => rw [hx] at e; cases e; exact ⟨t,rfl,fun p => (h p).h⟩
 | false => rw [hx] at e; exact hr.h nm v e⟩
theorem cs_try {l:List (Str × (Option Int→TS))} {l':List (Str × (Option Int→US))} (hb:ZS tb ub) (hl:ZHs l l'):ZS (tTry n tb l) (uTry n ub l'):=⟨fun A ι σ H ρ M D E w e r q =>
 hb.h A ι σ H ρ M _ { E with bk:=fun τ M' => ∃ nm p ρ' u,τ = tagU nm p ρ'∧ρ'.length = n∧l'.lookup nm = some u∧u p E ρ' M' } w e ⟨r.nx,r.rt,fun ι1 σ1 H1 ρ1 M1 l1 w1 e1 q1 => by
  obtain ⟨nm,p,ρ',u,rfl,hn,hu,q1⟩:=q1
  obtain ⟨t,ht,lk⟩:=hl.h nm u hu
  cases e1 with
  | cons a b =>
  cases b with
  | cons a2 b =>
  obtain ⟨v,rfl,rv⟩:=a _ rfl
  obtain ⟨v2,rfl,rv2⟩:=a2 _ rfl
  cases rv with
  | p rv =>
  cases rv
  cases rv2 with
  | p rv2 =>
  cases pT_inv rv2
  exact ⟨nm,p,_,t,rfl,by rw [b.length]; exact hn,ht,lk p A ι1 _ H1 ρ' M1 D E w1 b (r.le l1) q1⟩,r.ct⟩ q⟩
end
section
variable {P:Program} {w:World} {K:PySem.W.Frag} {mg:Str→Option Value} {base:Heap}
def endX (n:Nat) (Qu:UK) (Xu:UX):UEnds:={ nx:=fun _ M' => Qu (.p .non) M',rt:=Qu,bk:=fun τ M' => ∃ nm p ρ,τ = tagU nm p ρ∧ρ.length = n∧Xu nm p M' }
theorem Fun.zX {x qual:Str} {st:Stmt} {f:Addr} {fd:FuncData} {N ps:List Str} {k:Nat} {G:List U→MM→UK→UX→Prop} (F:Fun K x qual st f fd) (S:FnScope N ps (qc st)) (len:∀ us M Qu Xu,G us M Qu Xu→us.length = ps.length)
  (hbody:∀ (cdv:Value) (A:Around) (outer:List Env) (s:Shared) (H:Hp) (E:XK),Room k (A.deeper (envOfC qual (qc st) s.heap.objs.size f cdv)) →
   ∃ t,QXs True (cxOf (CXe P w) P w K mg base N qual (qc st) f cdv A outer s H E) (qg st) t∧∃ u,ZS t u∧∀ us M Qu Xu,G us M Qu Xu→u (endX N.length Qu Xu) (xi N us) M):FnOk P w K mg base (CXe P w) (k + 1) f fd ps (spX mg G):=by
 refine F.okX S (fun vs H Q E h => ?_) (fun cdv A outer s H vs Q E hr h => ?_)
 ·obtain ⟨A,ι,M,us,Qu,Xu,w1,r,g,_⟩:=h
  rw [r.len]; exact len us M Qu Xu g
 ·obtain ⟨B,ι,M,us,Qu,Xu,w1,r,g,kk,kx⟩:=h
  obtain ⟨t,ht,u,hu,hb⟩:=hbody cdv A outer s H E hr
  refine ⟨t,ht,hu.h B ι _ H _ M _ (endX N.length Qu Xu) w1 (xX r) ⟨fun ι1 σ1 H1 ρ1 M1 l1 w1 e1 q1 => kk _ M1 ι1 _ H1 l1 w1 (.p .non) q1,fun ι1 v H1 z M1 l1 w1 r1 q1 => kk z M1 ι1 v H1 l1 w1 r1 q1,fun ι1 σ1 H1 ρ1 M1 l1 w1 e1 q1 => ?_,fun _ _ _ _ _ _ _ _ q => q.elim⟩ (hb us M Qu Xu g)⟩
  obtain ⟨nm,p,ρ,rfl,hn,q1⟩:=q1
  cases e1 with
  | cons a b =>
  cases b with
  | cons a2 b =>
  obtain ⟨v,rfl,rv⟩:=a _ rfl
  obtain ⟨v2,rfl,rv2⟩:=a2 _ rfl
  cases rv with
  | p rv =>
  cases rv
  cases rv2 with
  | p rv2 =>
  cases pT_inv rv2
  exact ⟨nm,p,_,rfl,by rw [b.length]; exact hn,fun C d hm hp => kx nm p C d M1 ι1 H1 hm hp l1 w1 q1⟩
end
theorem hh_nil {X:Cx} {hs:List ExceptHandler}:∀ nm t C,([]:List (Str × (Option Int→TS))).lookup nm = some t→X.mg nm = some C→∀ p,QH X hs C p (t p):=fun nm t C e _ => by simp at e
theorem hh_cons {X:Cx} {hs:List ExceptHandler} {x:Str} {C:Value} {t:Option Int→TS} {l:List (Str × (Option Int→TS))} (hb:X.mg x = some C) (h:∀ p,QH X hs C p (t p)) (hr:∀ nm t C,l.lookup nm = some t→X.mg nm = some C→∀ p,QH X hs C p (t p)) :
  ∀ nm t' C',((x,t) :: l).lookup nm = some t'→X.mg nm = some C'→∀ p,QH X hs C' p (t' p):=fun nm t' C' e hm => by
 rw [List.lookup_cons] at e
 cases hx:(nm == x) with
 | true =>
  rw [hx] at e
  cases e
  rw [eq_of_beq hx,hb] at hm
  cases hm
  exact h
 | false => rw [hx] at e; exact hr nm t' C' e hm
section
variable {K:PySem.W.Frag} {ux:UXe} {ug:UG} {f:Str}
def uFldX (K:PySem.W.Frag) (ux:UXe) (f:Str):UXe:=fun ρ M Q X => ux ρ M (fun x M1 => FldS K f x M1 Q) X
def uAsgX (ux:UXe) (ug:UG):US:=fun E ρ M => ux ρ M (fun x M1 => ug x ρ M1 E.nx) fun nm p M1 => E.bk (tagU nm p ρ) M1
end
abbrev Cx.named (X:Cx) (a:Addr) (oe:Obj):Cx:={ X.caught a with pn:=X.pn ++ [(a,oe)] }
structure ExcOb (C:Addr) (d:Option Addr) (oe:Obj):Prop where
 c:oe.cls = .ref C
 d:oe.dict = d
 v:∃ vs,oe.data = .fields vs
def tAsG (i:Nat) (tb:Addr→Option Addr→TS) (q:Option Int):TS:=fun D σ H => ∀ a d,PartIs d H q→tb a d { D with nx:=fun σ' H' => D.nx (σ'.set i none) H',bk:=fun _ _ => False,ct:=fun σ' H' => D.ct (σ'.set i none) H' } (σ.set i (some (.ref a))) H
section
variable {X:Cx} {outer:List Env} {C:Addr} {Cx:Value} {x e:Str} {p pos:Pos} {hs:List ExceptHandler} {i:Nat}
theorem qh_gen {b0:Stmt} {suite:List Stmt} {tb:Addr→Option Addr→TS} {q:Option Int} (Y:Body X outer) (hm:X.mg x = some Cx) (he:PySem.W.exmOne X.K (.ref C) Cx = some true) (hN:X.N.Nodup) (hi:X.N[i]? = some e) (hie:X.env.scope.names.lookup e = some .local)
  (hb:∀ a d oe,ExcOb C d oe→QSs (X.named a oe) (b0 :: suite) (tb a d)) (hg:Gl X x:=by rfl) (hdb:(x == ("__debug__" : Str)) = false:=by decide) :
  QH X (.ExceptHandler (some (.Name x p)) (some e) (b0 :: suite) pos :: hs) (.ref C) q (tAsG i tb q):=⟨fun pins σ H1 s1 d H' s a D I F hq h => by
 have J:=F.inv I
 refine wpAny_handleBy_cons (codeAny_handlers_test (xn (X:=X.caught a) (J.caught a) hg hm ?_ hdb)) (by intro q; cases q)
 refine PySem.W.exm_one J.kIn F.ty he _ _ _ s (fun _ _ z => z) ?_
 show codeAny _ _ _ _ s
 refine codeAny_handlers_suite_as ?_
 obtain ⟨B,a0,fl,st⟩:=F.step
 refine wpAny_mono (DK.any (xo _ _) (lands_againW fl (Q:=fun _ s2 => (Heap.FlyingW B X.stack a (.ref C) a0 s2.heap∧s.heap.UpToSlots s2.heap)∧∃ h',s2 = { s with heap:=h' }) (E:=fun _ _ => False) fun h' x1 x4 => ⟨⟨x1,x4⟩,h',rfl⟩)) (fun _ s2 z => ?_) fun _ _ q => q.1.elim
 obtain ⟨⟨⟨fl',up⟩,h',rfl⟩,kd⟩:=z
 have F2:=st h' fl' up kd
 obtain ⟨n1,n2,oe,vs,hoe,hcl,hdi,hda⟩:=F2.new
 have J2:=F2.pinned Y I hoe hda
 refine wpAny_mono (E:=fun _ _ => False) (xw J2 hN hi (.inl hie) (v:=.ref a) (u:=.ref a) rfl (Q:=fun _ s3 => Inv X (pins ++ [(a,oe)]) (σ.set i (some (.ref a))) H' s3) (fun s3 I3 => I3) (.inr hie)) (fun _ s3 I3 => ?_) fun _ _ z => z.elim
 have I4:=I3.caught a
 have I5:Inv (X.named a oe) pins (σ.set i (some (.ref a))) H' s3:=⟨⟨I4.ok.mod,I4.ok.kind,I4.ok.glob,I4.ok.blt,I4.ok.above,I4.ok.inj,I4.ok.has,I4.ok.cab,I4.ok.hd,I4.ok.frames,I4.ok.stk,I4.ok.exf,I4.ok.bs,I4.ok.bsz,I4.ok.noex,I4.ok.exfs,I4.ok.funs,I4.ok.frf⟩,I4.os,I4.bare,I4.base,I4.loc,I4.cell,I4.free,I4.freeC,fun p hp => I4.pin p (by
  rcases List.mem_append.mp hp with z | z
  ·rcases List.mem_append.mp z with z | z
   ·exact List.mem_append_left _ z
   ·exact List.mem_append_right _ (List.mem_append_right _ z)
  ·exact List.mem_append_right _ (List.mem_append_left _ z)),I4.hok,I4.len⟩
 have back:∀ {σ' H2 s4},Inv (X.named a oe) pins σ' H2 s4→Inv X pins σ' H2 s4:=fun I6 => ⟨I.ok,I6.os,I6.bare,I6.base,I6.loc,I6.cell,I6.free,I6.freeC,fun p hp => I6.pin p (by
  rcases List.mem_append.mp hp with z | z
  ·exact List.mem_append_left _ (List.mem_append_left _ z)
  ·exact List.mem_append_right _ z),I6.hok,I6.len⟩
 refine wpAny_mono ((hb a d oe ⟨hcl,hdi,vs,hda⟩).h pins s3 _ H' _ I5 (h a d hq)) (fun f s4 z => ?_) fun _ _ z => z.elim
 cases f with
 | next =>
  obtain ⟨σ',H2,I6,q⟩:=z
  show wpAny _ _ _ _ _ _
  exact jS (back I6) hN hi hie fun s9 I9 => ⟨_,H2,I9,q⟩
 | cont =>
  obtain ⟨σ',H2,I6,q⟩:=z
  show wpAny _ _ _ _ _ _
  exact jS (back I6) hN hi hie fun s9 I9 => ⟨_,H2,I9,q⟩
 | brk =>
  obtain ⟨σ',H2,I6,q⟩:=z
  exact q.elim
 | ret u =>
  obtain ⟨v,σ',H2,I6,r,q⟩:=z
  show wpAny _ _ _ _ _ _
  exact jS (back I6) hN hi hie fun s9 I9 => ⟨v,_,H2,I9,r,q⟩⟩
end
def tPartE (a:Addr) (d:Option Addr) (ta:TE):TE:=fun σ H Q => ta σ H fun v H1 => v = .ref a∧∃ n x0,d = some x0∧H1 x0 = some (.xd [("part", .int n)])∧Q (.int n) H1
theorem qe_part {X:Cx} {C g a:Addr} {d:Option Addr} {oe:Obj} {o:Expr} {ta:TE} {pos:Pos} (ck:ExcK X.K C g) (na:NoAttr X.K C "part") (ob:ExcOb C d oe) (hp:(a,oe) ∈ X.pn) (ho:QE X o ta) (hab:attributeBase o "part" X.env (eval o X.env) = eval o X.env:=by rfl):QE X (.Attribute o "part" pos) (tPartE a d ta):=⟨fun pins s σ H Q I h => by
 refine Yy hab (thn (ho.h pins s σ H _ I h) fun u s1 ⟨v,H1,I1,r,ev,n,x0,ed,hx0,q⟩ => ?_)
 subst ev
 obtain rfl:u = Value.ref a:=r
 obtain ⟨mA,hns,hrel⟩:=I1.hok x0 _ hx0
 obtain ⟨od,hod,hlk⟩:=Q2 hns
 have hpin:=(I1.pin (a,oe) (List.mem_append_left _ hp)).1
 have hv:∃ t,mA "part" = some (.int n t):=by
  have:=hrel "part"
  obtain ⟨u,hu,t,rfl⟩:=RelO.some_of (v:=.int n) (o:=mA "part") (by simpa using this)
  exact ⟨t,hu⟩
 obtain ⟨tn,hv⟩:=hv
 obtain ⟨vs,hda⟩:=ob.v
 refine PySem.W.getX_value (v:=.int n tn) (C:=C) (od:=some od) I1.kIn ⟨hpin,ob.c,by unfold PySem.W.notCls; rw [hda],by rw [ob.d,ed]; exact hod⟩ ck.ga ck.gt ck.mr ?_ rfl ?_
 ·exact PySem.W.findObj_own ck.hd na rfl (by rw [hlk,hv])
 ·exact ⟨.int n,H1,I1.tok _,⟨_,rfl⟩,q⟩⟩
section
variable {A:Addr→Prop} {ι:List Addr} {H:Hp} {M:MM} {ta:TE} {ua:UE} {a:Addr} {d:Option Addr} {i:Nat}
theorem Wd.not_xd (w:Wd A ι H M) {a:Addr} {fs:List (Str × V)} (h:a ∈ ι):H a≠some (.xd fs):=fun z => by
 obtain ⟨k,e⟩:=List.getElem?_of_mem h
 obtain ⟨o,_,r⟩:=w.al e
 cases o with
 | lst => obtain ⟨vs,e,_⟩:=r; rw [z] at e; cases e
 | tup => obtain ⟨vs,e,_⟩:=r; rw [z] at e; cases e
 | ins => obtain ⟨_,_,e,_⟩:=r; rw [z] at e; cases e
 | dK => obtain ⟨_,e,_⟩:=r; rw [z] at e; cases e
theorem PartIs.x (w:Wd A ι H M) {q:Option Int} (h:PartIs d H q):PartX ι H d q:=by
 cases q with
 | none => exact h
 | some n =>
  obtain ⟨x0,e,hx⟩:=h
  exact ⟨x0,e,fun z => w.not_xd z hx,hx⟩
def uPartE (a:Addr) (d:Option Addr) (ua:UE):UE:=fun ρ M Q => ua ρ M fun x M1 => ∃ n,x = .x a d (some n)∧Q (.p (.int n)) M1
theorem ce_part (ha:ZE ta ua):ZE (tPartE a d ta) (uPartE a d ua):=⟨fun A ι σ H ρ M Qu Q w e q k =>
 ha.h A ι σ H ρ M _ _ w e q fun x M1 ι1 v H1 l1 w1 r1 ⟨n,ex,q1⟩ => by
  subst ex
  cases r1 with
  | x h =>
   obtain ⟨x0,ed,ni,hx⟩:=h
   exact ⟨rfl,n,x0,ed,hx,k _ M1 ι1 _ H1 l1 w1 (.p (.int _)) q1⟩⟩
theorem Zs {ρ:UEnv} {Q:UK}:uPartE a d ua ρ M Q = ua ρ M fun x M1 => ∃ n,x = .x a d (some n)∧Q (.p (.int n)) M1:=rfl
def uAsG (i:Nat) (ub:Addr→Option Addr→US) (q:Option Int):US:=fun E ρ M => ∀ a d,ub a d { E with nx:=fun ρ' M' => E.nx (ρ'.set i none) M',bk:=fun _ _ => False,ct:=fun ρ' M' => E.ct (ρ'.set i none) M' } (ρ.set i (some (.x a d q))) M
theorem cs_asG {tb:Addr→Option Addr→TS} {ub:Addr→Option Addr→US} {q:Option Int} (h:∀ a d,ZS (tb a d) (ub a d)):ZS (tAsG i tb q) (uAsG i ub q):=⟨fun A ι σ H ρ M D E w e r z a d hp => by
 have gone:∀ {ι1:List Addr} {σ1:St} {H1:Hp} {ρ1:UEnv},EnvR A ι1 H1 σ1 ρ1→EnvR A ι1 H1 (σ1.set i none) (ρ1.set i none):=fun e1 => Paired.put (fun w z => by cases z) i e1
 exact (h a d).h A ι _ H _ M _ { E with nx:=fun ρ' M' => E.nx (ρ'.set i none) M',bk:=fun _ _ => False,ct:=fun ρ' M' => E.ct (ρ'.set i none) M' } w (EnvR.put e i (.x (hp.x w))) ⟨fun ι1 σ1 H1 ρ1 M1 l1 w1 e1 q1 => r.nx ι1 _ H1 _ M1 l1 w1 (gone e1) q1,r.rt,fun _ _ _ _ _ _ _ _ q => q.elim,fun ι1 σ1 H1 ρ1 M1 l1 w1 e1 q1 => r.ct ι1 _ H1 _ M1 l1 w1 (gone e1) q1⟩ (z a d)⟩
end
section
variable {d:Option Addr}
theorem PartX.is {ι:List Addr} {H:Hp} {q:Option Int} (h:PartX ι H d q):PartIs d H q:=by
 cases q with
 | none => exact h
 | some n =>
  obtain ⟨x0,e,_,hx⟩:=h
  exact ⟨x0,e,hx⟩
end
section
variable {A:Addr→Prop} {ι:List Addr} {H H':Hp} {M:MM}
theorem Wd.ext (w:Wd A ι H M) (h:∀ x o,H x = some o→H' x = some o):Wd A ι H' M:=by
 have l:Le ι H ι H':=⟨⟨[],by simp,by simp⟩,fun x o e _ => h x o e,fun x e => by
  cases q:H x with
  | none => exact absurd q e
  | some o => rw [h x o q]; simp⟩
 refine ⟨w.nd,w.len,fun x hx => l.al x (w.dom x hx),w.na,fun k a o e1 e2 => ?_⟩
 have r:=w.obj k a o e1 e2
 obtain ⟨q,hq⟩:=r.some
 exact r.le' l (by rw [h a q hq,hq]) fun x hx => by rw [h x _ hx,hx]
end
theorem mem_nm {X:Cx} {a:Addr} {oe:Obj}:(a,oe) ∈ (X.named a oe).pn:=List.mem_append_right _ (List.mem_singleton.mpr rfl)
section
variable {X:Cx} {pins:List (Addr × Obj)} {σ:St} {H:Hp} {s:Shared}
def entD (P:Params) (e:Str × Tok × Value):DictEntry:=⟨PyData.keyHash P e.1, .str e.1 e.2.1,e.2.2⟩
structure KDi (K:PySem.W.Frag) (w:World) (mg:Str→Option Value) (nm:Str) (a:Addr) (kvs:List (Str × V)):Prop where
 g:mg nm = some (.ref a)
 ex:∃ (rows:List (Str × Tok × Value)) (ep:Nat),K.lookup a = some ⟨.type "dict", none, .dict ((rows.map (entD w.params)).toArray) ep, #[]⟩∧(rows.map (·.1)).Nodup∧Paired (fun (kv:Str × V) (r:Str × Tok × Value) => kv.1 = r.1∧RelV kv.2 r.2.2) kvs rows
def keyR (r:Str × Tok × Value):Key × Value:=(.inr r.1,r.2.2)
theorem J1 {prog:Program} {w:World}:∀ rows:List (Str × Tok × Value),Pairs (vp prog w) (rows.map (entD w.params)) (rows.map keyR)
 | [] => .nil
 | r :: rows => .cons (xO prog w r.1 r.2.1) rfl (J1 rows)
theorem keys_D {prog:Program} {w:World} (rows:List (Str × Tok × Value)):KeysOf (vp prog w) (rows.map (entD w.params)).toArray:=fun e he => by
 obtain ⟨r,_,rfl⟩:=List.mem_map.mp (List.mem_toArray.mp he)
 exact ⟨.inr r.1,xO prog w r.1 r.2.1,rfl⟩
theorem nodup_D:∀ {rows:List (Str × Tok × Value)},(rows.map (·.1)).Nodup→((rows.map keyR).map (·.1)).Nodup:=fun {rows} h => by
 rw [List.map_map]
 have e:((fun x => x.1) ∘ keyR) = (fun x:Str => (Sum.inr x:Key)) ∘ (fun r:Str × Tok × Value => r.1):=rfl
 rw [e, ← List.map_map]
 exact List.Pairwise.map _ (fun a b hab z => hab (Sum.inr.inj z)) h
theorem look_D {k:Str} {v:V}:∀ {kvs:List (Str × V)} {rows:List (Str × Tok × Value)},Paired (fun (kv:Str × V) (r:Str × Tok × Value) => kv.1 = r.1∧RelV kv.2 r.2.2) kvs rows→kvs.lookup k = some v→∃ u,valueAt (rows.map keyR) (.inr k:Key) = some u∧RelV v u
 | _,_, .nil,e => by simp at e
 | (a,b) :: kvs,r :: rows, .cons ⟨e1,e2⟩ q,e => by
  have e1:a = r.1:=e1
  subst e1
  by_cases h:k = r.1
  ·subst h
   rw [List.lookup_cons,beq_self_eq_true] at e
   cases e
   exact ⟨r.2.2,by simp [valueAt,keyR],e2⟩
  ·rw [List.lookup_cons,beq_false_of_ne h] at e
   obtain ⟨u,h1,h2⟩:=look_D q e
   refine ⟨u, ?_,h2⟩
   unfold valueAt at h1 ⊢
   rw [List.map_cons,List.find?_cons_of_neg]
   ·exact h1
   ·intro z
    exact h (Sum.inr.inj (of_decide_eq_true z)).symm
theorem kd_at {nm:Str} {a:Addr} {kvs:List (Str × V)} (D:KDi X.K X.w X.mg nm a kvs) (I:Inv X pins σ H s):∃ rows:List (Str × Tok × Value),s.heap.DictOf (vp X.prog X.w) a (rows.map keyR)∧Paired (fun (kv:Str × V) (r:Str × Tok × Value) => kv.1 = r.1∧RelV kv.2 r.2.2) kvs rows:=by
 obtain ⟨rows,ep,h1,h2,h3⟩:=D.ex
 exact ⟨rows,⟨_,_,ep,I.kIn a _ h1,⟨rfl,rfl,rfl⟩,rfl,keys_D rows,by simpa using J1 rows,nodup_D h2⟩,h3⟩
def tKD (kvs:List (Str × V)) (ty:TE):TE:=fun σ H Q => ty σ H fun y H1 => ∃ k v,y = .str k∧kvs.lookup k = some v∧Q v H1
theorem pe_kd {nm:Str} {a:Addr} {kvs:List (Str × V)} {i:Expr} {ty:TE} {p pos:Pos} (D:KDi X.K X.w X.mg nm a kvs) (hg:Gl X nm) (hi:PE X i ty) (hs:NoSl i) (hd:(nm == ("__debug__" : Str)) = false:=by decide):PE X (.Subscript (.Name nm p) i pos) (tKD kvs ty):=by
 intro pins s σ H Q I h
 refine X9 PySem.F.slot_dict_getitem.lookup hs (xn I hg D.g (thn (hi pins s σ H _ I h) fun iv s2 ⟨y,H2,I2,ry,k,v,ey,e,q2⟩ => ?_) hd)
 subst ey
 obtain ⟨rows,dd,hp⟩:=kd_at D I2
 obtain ⟨u,hu,ru⟩:=look_D hp e
 exact ⟨dd.typeIs,wpAny_getItem_of (kV_is (k:=.inr k) ry) dd.mapOf hu ⟨v,H2,I2.tok _,ru,q2⟩⟩
theorem qe_kd {nm:Str} {a:Addr} {kvs:List (Str × V)} {i:Expr} {ty:TE} {p pos:Pos} (D:KDi X.K X.w X.mg nm a kvs) (hg:Gl X nm) (hi:QE X i ty) (hs:NoSl i) (hd:(nm == ("__debug__" : Str)) = false:=by decide):QE X (.Subscript (.Name nm p) i pos) (tKD kvs ty):=⟨pe_kd D hg hi.h hs hd⟩
def uKD (ks:List (Str × T)) (ub:UE):UE:=fun ρ M Q => ub ρ M fun y M1 => ∃ k t,y = .p (.str k)∧ks.lookup k = some t∧Q (.p t) M1
theorem Ku {k:Str} {t:T}:∀ {kvs:List (Str × V)} {ks:List (Str × T)},Paired (fun (a:Str × V) (b:Str × T) => a.1 = b.1∧Sc a.2 b.2) kvs ks→ks.lookup k = some t→∃ v,kvs.lookup k = some v∧Sc v t
 | _,_, .nil,e => by simp at e
 | (a,b) :: kvs,(c,d) :: ks, .cons ⟨e1,e2⟩ q,e => by
  have e1:a = c:=e1
  subst e1
  rw [List.lookup_cons] at e ⊢
  cases h:k == a with
  | true => rw [h] at e; cases e; exact ⟨b,rfl,e2⟩
  | false => rw [h] at e; exact Ku q e
theorem le_kd {kvs:List (Str × V)} {ks:List (Str × T)} {tb:TE} {ub:UE} (h:Paired (fun (a:Str × V) (b:Str × T) => a.1 = b.1∧Sc a.2 b.2) kvs ks) (hb:LE tb ub):LE (tKD kvs tb) (uKD ks ub):=fun A ι σ H ρ M Qu Q w e q k =>
 hb A ι σ H ρ M _ _ w e q fun y M1 ι1 v H1 l1 w1 r1 ⟨kk,t,ey,el,q1⟩ => by
  subst ey
  cases r1 with
  | p r =>
  cases r
  obtain ⟨v,h1,h2⟩:=Ku h el
  exact ⟨kk,v,rfl,h1,k _ M1 ι1 _ H1 l1 w1 (.p h2.rep) q1⟩
theorem ce_kd {kvs:List (Str × V)} {ks:List (Str × T)} {tb:TE} {ub:UE} (h:Paired (fun (a:Str × V) (b:Str × T) => a.1 = b.1∧Sc a.2 b.2) kvs ks) (hb:ZE tb ub):ZE (tKD kvs tb) (uKD ks ub):=⟨le_kd h hb.h⟩
end
mutual
def toD:T→PyData
 | .non => .none
 | .bl b => .bool b
 | .int i => .int i
 | .str x => .str x
 | .tup xs => .tuple (toDs xs)
 | .lst xs => .list (toDs xs)
def toDs:List T→List PyData
 | [] => []
 | x :: xs => toD x :: toDs xs
end
mutual
theorem noD:∀ t:T,(toD t).hasDict = false
 | .non => rfl
 | .bl _ => rfl
 | .int _ => rfl
 | .str _ => rfl
 | .tup xs => noDs xs
 | .lst xs => noDs xs
theorem noDs:∀ ts:List T,PyData.hasDictAll (toDs ts) = false
 | [] => rfl
 | x :: xs => by show ((toD x).hasDict || PyData.hasDictAll (toDs xs)) = false; rw [noD x,noDs xs]; rfl
end
section
variable {X:Cx} {pins:List (Addr × Obj)} {σ:St} {H:Hp} {s:Shared}
theorem xj {h:Heap}:∀ {vs:List V} {ts:List T} {us:List Value},Vals vs us→vs.length = ts.length→(∀ (i:Nat) v t,vs[i]? = some v→ts[i]? = some t→∀ u,RelV v u→∃ as,Reads h u (toD t) as)→∃ as,ReadsAll h us (toDs ts) as
 | [], [],_, .nil,_,_ => ⟨_, .nil⟩
 | v :: vs,t :: ts,_, .cons r q,hl,ih => by
  obtain ⟨as,h1⟩:=ih 0 v t rfl rfl _ r
  obtain ⟨bs,h2⟩:=xj q (by simpa using hl) fun i v t e1 e2 => ih (i + 1) v t (by simpa using e1) (by simpa using e2)
  exact ⟨_, .cons h1 h2⟩
theorem kJ {A:Addr→Prop} {v:V} {t:T} (I:Inv X pins σ H s) (r:RepT A H v t):∀ u,RelV v u→∃ as,Reads s.heap u (toD t) as:=by
 induction r with
 | non => intro u e; cases e; exact ⟨_, .none⟩
 | bl b => intro u e; cases e; exact ⟨_, .bool b⟩
 | int i => intro u e; obtain ⟨t,rfl⟩:=e; exact ⟨_, .int i t⟩
 | str x => intro u e; obtain ⟨t,rfl⟩:=e; exact ⟨_, .str x t⟩
 | tup na e l r ih =>
  intro u eu
  cases eu
  obtain ⟨its,rv,⟨o,h1,h2,n,h3⟩,_⟩:=I.tuple (SqT.of e)
  obtain ⟨as,q⟩:=xj (h:=s.heap) rv l ih
  exact ⟨_, .tuple h1 h2 h3 (by simpa using q)⟩
 | lst na e l r ih =>
  intro u eu
  cases eu
  obtain ⟨its,rv,pl,_⟩:=I.list (SqL.of e)
  obtain ⟨o,h1,h2,n,h3⟩:=pl.isList
  obtain ⟨as,q⟩:=xj (h:=s.heap) rv l ih
  exact ⟨_, .list h1 h2 h3 (by simpa using q)⟩
structure ShowT (t:T):Prop where
 sh:(toD t).showable = true
 dp:(toD t).depth≤60
 sz:(toD t).shown.length≤sizeLine
def rRepr:List V→Hp→VK→Prop:=fun xs H Q => ∃ (A:Addr→Prop) (v:V) (t:T),xs = [v]∧RepV A H v t∧ShowT t∧Q (.str (toD t).shown) H
theorem Vl (hg:X.A.guards = some []) (hu:X.A.units + 64 < cLine):xV X (.builtin "repr") rRepr:=by
 intro pins s σ H xs us Q I r h
 obtain ⟨A,v,t,rfl,rv,ok,q⟩:=h
 obtain ⟨u,rfl,ru⟩:=Xe r
 have big:∀ (a:Addr) (as:List Addr),Reads s.heap (.ref a) (toD t) as→wpAny (model X.prog X.w) X.A (call (.builtin "repr") [.ref a]) (EP X pins σ Q) X.xe s:=fun a as rd =>
  repr_of_reads' rd ok.sh (PyData.noDict_hsm (noD t)) hg (by have:=ok.dp; omega) (fun _ _ e => e) (fun h' u tk hk => ⟨.str _,H,I.kept (t':=tk) hk,⟨_,rfl⟩,q⟩) ok.sz
 cases rv with
 | of r =>
  obtain ⟨as,rd⟩:=kJ I r u ru
  cases r with
  | non => cases ru; exact PySem.P.repr_of_none ⟨.str _,H,I.tok _,⟨_,rfl⟩,q⟩
  | bl b => cases ru; exact PySem.P.repr_of_bool ⟨.str _,H,I.tok _,⟨_,rfl⟩,q⟩
  | int i =>
   obtain ⟨t,rfl⟩:=ru
   exact PySem.P.repr_of_int (of_decide_eq_true ok.sh) ⟨.str _,H,I.tok _,⟨_,rfl⟩,q⟩
  | str x =>
   obtain ⟨t,rfl⟩:=ru
   exact PySem.P.repr_of_str ⟨.str _,H,I.tok _,⟨_,rfl⟩,q⟩ ok.sz
  | tup => cases ru; exact big _ _ rd
  | lst => cases ru; exact big _ _ rd
 | lst e rr =>
  cases ru
  obtain ⟨its,rv,pl,_⟩:=I.list (SqL.of e)
  obtain ⟨o,h1,h2,n,h3⟩:=pl.isList
  obtain ⟨as,q⟩:=xj (h:=s.heap) rv rr.len fun i v t e1 e2 => kJ I (Paired.get2 rr e1 e2)
  exact big _ _ (.list h1 h2 h3 (by simpa using q))
 | tup e rr =>
  cases ru
  obtain ⟨its,rv,⟨o,h1,h2,n,h3⟩,_⟩:=I.tuple (SqT.of e)
  obtain ⟨as,q⟩:=xj (h:=s.heap) rv rr.len fun i v t e1 e2 => kJ I (Paired.get2 rr e1 e2)
  exact big _ _ (.tuple h1 h2 h3 (by simpa using q))
def sRepr:List T→(T→Prop)→Prop:=fun ts Q => ∃ t,ts = [t]∧ShowT t∧Q (.str (toD t).shown)
theorem Xc:CbL rRepr sRepr:=fun A ι H M vs ts Qs Q w r ⟨t,e,ok,q⟩ k => by
 subst e
 obtain ⟨v,ev,r1⟩:=pv1 r
 subst ev
 exact ⟨_,v,t,rfl,r1,ok,k _ ι _ H (.refl _ _) w (.str _) q⟩
theorem Js {t:T} {Q:T→Prop}:sRepr [t] Q = (ShowT t∧Q (.str (toD t).shown)):=propext ⟨fun ⟨_,e,h⟩ => by cases e; exact h,fun h => ⟨t,rfl,h⟩⟩
theorem b_repr:bootBuiltins "repr" = some (.builtin "repr"):=by decide +kernel
end
end L2
namespace Hd
open PySem PySem.W PySem.Calls PyProof.Rows
def topT (tb:String→Option Builtin) (p:Program) (w:World) (m:Nat) (an:Option Value):Nat→SharedT→Thread→Option SharedT
 | 0,_,_ => none
 | k + 1,s,t => match through t with
  | true => some s
  | false => match stepOk m an t with
   | false => none
   | true => match stepT (denote tb) p w s t with
    | some (s1,t1) => topT tb p w m an k s1 t1
    | none => none
theorem Zk {tb:String→Option Builtin} {p:Program} {w:World} {m:Nat} {an:Option Value} :
  ∀ {k:Nat} {s r:SharedT} {t:Thread},topT tb p w m an k s t = some r→topRun tb p w m an k s.abs t = some r.abs
 | 0,_,_,_,h => by cases h
 | k + 1,s,r,t,h => by
  unfold topT at h
  unfold topRun
  cases ht:through t with
  | true => rw [ht] at h; cases h; rfl
  | false =>
   rw [ht] at h
   cases hk:stepOk m an t with
   | false => rw [hk] at h; cases h
   | true =>
    rw [hk] at h
    cases hs:stepT (denote tb) p w s t with
    | none => rw [hs] at h; cases h
    | some x =>
     obtain ⟨s1,t1⟩:=x
     rw [hs] at h
     rw [stepT_spec hs]
     exact Zk h
noncomputable def bootT (P:Params):BT :=
 .node (boot_o_0 P) (.node (boot_o_1 P) (.node (boot_o_3 P) (.node (boot_o_7 P) .nil .nil) .nil) (.node (boot_o_5 P) (.node (boot_o_9 P) .nil .nil) .nil))
  (.node (boot_o_2 P) (.node (boot_o_4 P) (.node (boot_o_8 P) .nil .nil) .nil) (.node (boot_o_6 P) (.node (boot_o_10 P) .nil .nil) .nil))
abbrev bootL:Life:={}
theorem Yt (P:Params):boot_heap P = absHeap (bootT P) 11 bootL:=by kernel_rfl
noncomputable def S0 (w:World) (os:OsState):SharedT:=⟨bootT w.params,11,bootL, #[],boot_drawn,boot_toks,os⟩
noncomputable def Look (p q:Program) (loose:List Str) (Xt:Shared→Bool) {α:Type} (Yf:Shared→α) (w:World) (s:Shared) :=
 ((staticsOk (importedModules p.main.body) (boot_heap w.params) s.heap && namesBound p s.heap && gensDone s && laidKept (boot_heap w.params) s.heap),openSeen q loose (importedModules p.main.body) Xt true s,Yf s)
theorem left_of {p q:Program} {loose:List Str} {Xt:Shared→Bool} {α:Type} {Yf:Shared→α} {Ya:World→α} {N M:Nat}
  (e:opening p = plainProg p.main.scope.names) (hN:Nat.ble 600 N = true) (f:∀ s,fenceModules? p s = some s) (le:Nat.ble M N = true)
  (run:∀ w os,(topT treeTable p w 11 (some (.ref 6)) M (S0 w os) (topStub p)).map (fun s => Look p q loose Xt Yf w s.abs) = some (true,openGood q loose,Ya w))
  (hs:∀ P:Params,((boot_heap P).isNs mainGlobals,(boot_heap P).nsMap mainGlobals "__annotations__") = (true,some (.ref 6))):LeftO p q loose Xt Yf Ya N:=fun w => by
 obtain ⟨⟨h,gs,d,k,os⟩,e1,e2⟩:=Option.map_eq_some_iff.mp (boot_open e hN f w)
 obtain ⟨rfl,rfl,rfl,rfl⟩:h = boot_heap w.params∧gs = Array.mk []∧d = boot_drawn∧k = boot_toks:=by simpa using e2
 obtain ⟨z1,z3⟩:_∧_:=by simpa only [Prod.mk.injEq] using hs w.params
 obtain ⟨r,r1,r2⟩:=Option.map_eq_some_iff.mp (run w os)
 obtain ⟨l1,l2,l3⟩:_∧_∧_:=by simpa only [Look,Prod.mk.injEq] using r2
 have r3:=topRun_mono (N - M) _ _ _ _ (Zk r1)
 rw [show M + (N - M) = N by have:=Nat.le_of_ble_eq_true le; omega] at r3
 have a:(S0 w os).abs = ⟨boot_heap w.params, #[],boot_drawn,boot_toks,os⟩:=by rw [Yt]; rfl
 rw [a] at r3
 have t:topFrom treeTable p w N ⟨boot_heap w.params, #[],boot_drawn,boot_toks,os⟩ = some r.abs:=by
  unfold topFrom
  dsimp only
  rw [z1,z3,show (boot_heap w.params).objs.size = 11 from rfl,r3]
  show (match staticsOk (importedModules p.main.body) (boot_heap w.params) r.abs.heap && namesBound p r.abs.heap && gensDone r.abs && laidKept (boot_heap w.params) r.abs.heap with | true => _ | false => _) = _
  rw [l1]
 unfold openEnds
 rw [e1]
 show (topFrom treeTable p w N _).map _ = _
 rw [t]
 exact congrArg some (Prod.ext l2 l3)
theorem four {α β δ1 δ2 δ3 δ4 ε ζ:Type} {o:Option α} {A:α→β} {S:α→δ1 × δ2 × δ3 × δ4 × ε} {C:α→ζ} {a:β} {g:δ1 × δ2 × δ3 × δ4 × ε} {c:ζ} (hA:o.map A = some a) (h1:o.map (fun s => ((S s).1,(S s).2.1,(S s).2.2.1,(S s).2.2.2.1)) = some (g.1,g.2.1,g.2.2.1,g.2.2.2.1)) (h2:o.map (fun s => (S s).2.2.2.2) = some g.2.2.2.2) (hC:o.map C = some c):o.map (fun s => (A s,S s,C s)) = some (a,g,c):=by
 cases o with
 | none => cases hA
 | some r =>
  simp only [Option.map_some,Option.some.injEq,Prod.mk.injEq] at hA h1 h2 hC ⊢
  exact ⟨hA,Prod.ext h1.1 (Prod.ext h1.2.1 (Prod.ext h1.2.2.1 (Prod.ext h1.2.2.2 h2))),hC⟩
theorem look4 {p q:Program} {loose:List Str} {Xt:Shared→Bool} {α:Type} {Yf:Shared→α} {w:World} {y:α} (o:Option SharedT)
  (hA:o.map (fun s => staticsOk (importedModules p.main.body) (boot_heap w.params) s.abs.heap && namesBound p s.abs.heap && gensDone s.abs && laidKept (boot_heap w.params) s.abs.heap) = some true)
  (hB:o.map (fun s => ((openSeen q loose (importedModules p.main.body) Xt true s.abs).1,(openSeen q loose (importedModules p.main.body) Xt true s.abs).2.1,(openSeen q loose (importedModules p.main.body) Xt true s.abs).2.2.1,(openSeen q loose (importedModules p.main.body) Xt true s.abs).2.2.2.1)) = some ((openGood q loose).1,(openGood q loose).2.1,(openGood q loose).2.2.1,(openGood q loose).2.2.2.1))
  (hD:o.map (fun s => (openSeen q loose (importedModules p.main.body) Xt true s.abs).2.2.2.2) = some (openGood q loose).2.2.2.2) (hC:o.map (fun s => Yf s.abs) = some y):o.map (fun s => Look p q loose Xt Yf w s.abs) = some (true,openGood q loose,y):=by
 cases o with
 | none => cases hA
 | some r =>
  have hA:=Option.some.inj hA
  have hB:=Option.some.inj hB
  have hD:=Option.some.inj hD
  have hC:=Option.some.inj hC
  obtain ⟨b1,b2⟩:=Prod.mk.inj hB
  obtain ⟨b2,b3⟩:=Prod.mk.inj b2
  obtain ⟨b3,b4⟩:=Prod.mk.inj b3
  exact congrArg some (Prod.ext hA (Prod.ext (Prod.ext b1 (Prod.ext b2 (Prod.ext b3 (Prod.ext b4 hD)))) hC))
theorem left_of4 {p q:Program} {loose:List Str} {Xt:Shared→Bool} {α:Type} {Yf:Shared→α} {Ya:World→α} {N M:Nat}
  (e:opening p = plainProg p.main.scope.names) (hN:Nat.ble 600 N = true) (f:∀ s,fenceModules? p s = some s) (le:Nat.ble M N = true)
  (rA:∀ w os,(topT treeTable p w 11 (some (.ref 6)) M (S0 w os) (topStub p)).map (fun s => staticsOk (importedModules p.main.body) (boot_heap w.params) s.abs.heap && namesBound p s.abs.heap && gensDone s.abs && laidKept (boot_heap w.params) s.abs.heap) = some true)
  (rB:∀ w os,(topT treeTable p w 11 (some (.ref 6)) M (S0 w os) (topStub p)).map (fun s => ((openSeen q loose (importedModules p.main.body) Xt true s.abs).1,(openSeen q loose (importedModules p.main.body) Xt true s.abs).2.1,(openSeen q loose (importedModules p.main.body) Xt true s.abs).2.2.1,(openSeen q loose (importedModules p.main.body) Xt true s.abs).2.2.2.1)) = some ((openGood q loose).1,(openGood q loose).2.1,(openGood q loose).2.2.1,(openGood q loose).2.2.2.1))
  (rD:∀ w os,(topT treeTable p w 11 (some (.ref 6)) M (S0 w os) (topStub p)).map (fun s => (openSeen q loose (importedModules p.main.body) Xt true s.abs).2.2.2.2) = some (openGood q loose).2.2.2.2)
  (rC:∀ w os,(topT treeTable p w 11 (some (.ref 6)) M (S0 w os) (topStub p)).map (fun s => Yf s.abs) = some (Ya w))
  (hs:∀ P:Params,((boot_heap P).isNs mainGlobals,(boot_heap P).nsMap mainGlobals "__annotations__") = (true,some (.ref 6))):LeftO p q loose Xt Yf Ya N :=
 left_of e hN f le (fun w os => look4 _ (rA w os) (rB w os) (rD w os) (rC w os)) hs
theorem boot_main (P:Params):((boot_heap P).isNs mainGlobals,(boot_heap P).nsMap mainGlobals "__annotations__") = (true,some (.ref 6)):=by kernel_rfl
end Hd
namespace Hd
open PySem PySem.W PySem.Calls PyProof.Rows
theorem close {r:OpenRow} {q:Program} {loose:List Str} {lv:List (Str × WData)} {H:Hook} {d:DefRec} {kwd:List (Str × Expr)} {N:Nat}
  (left:LeftO r.prog q loose (fun s => xlAt q lv s && recOk (RowW.records (OpenRow.toRowW r)) s) H.obs H.val N) (h1:defOf q r.name = some (d,kwd)) (h2:r.prog.theDef r.name = some (d.params,d.body,d.scope))
  (h3:kwWritten? d.params.kwonlyargs d.params.kw_defaults = some kwd) (h4:(!r.writes || r.records.isEmpty) = true) (h5:r.wellSaid = true) (h6:(chainsOk q && opensWell r.prog && (frees r.toRowW && r.within.isEmpty)) = true) (h7:r.prog.bare)
  (hw:r.toRowW.promised) (hc:WalkO q loose (XL q lv) H.says r.toRowW d kwd fun f vs => PySem.call f vs):r.Holds :=
 holds_open left H.of H.keeps (fun s z => xl_of s (Bool.and_eq_true_iff.mp z).1) XL.keeps h1 h2 h3 (fun s z => recFacts_of (Bool.and_eq_true_iff.mp z).2) h4 h5 h6 h7 hw hc
end Hd
set_option maxHeartbeats 4000000
namespace Mw
open PySem L2 PyProof.Rows
def top (i:Nat):Stmt:=PySem.Challenge.pw_markwords_k33_worths_in_registers.main.body.getD i (.Pass ⟨0,0,0,0⟩)
local macro_rules | `(tactic| walk_at "hp") => `(tactic| first | assumption | exact upd_same | (refine xL (by assumption) ?_; walk_at "hp") | (refine jD (by first | assumption | (apply Ne.symm; assumption)) ?_; walk_at "hp"))
section
variable {P:Program} {w:World} {K:PySem.W.Frag} {mg:Str→Option Value} {base:Heap}
abbrev sBag:Stmt:=top 48
theorem scBag:FnScope ["script", "stir", "cell"] ["script"] (qc sBag):=⟨rfl,rfl,rfl,by decide +kernel,rfl,by decide +kernel,by decide +kernel⟩
abbrev VG:Stmt:=top 49
theorem scDraw:FnScope ["bag", "many", "found"] ["bag", "many"] (qc VG):=⟨rfl,rfl,rfl,by decide +kernel,rfl,by decide +kernel,by decide +kernel⟩
structure BagAt (H:Hp) (b:Addr):Prop where
 ex:∃ (c:Addr) (ns:List Int) (i a st n:Int),H b = some (.lst [.ref c, .int i, .int a, .int st, .int n])∧H c = some (.lst (ns.map V.int))∧0≤i∧i≤ns.length∧ns.length≤63∧(∀ x ∈ ns,0≤x)∧0≤a∧0≤st∧st < 2147483647
def spBag (K:PySem.W.Frag):Sp:=fun vs H Q _ => ∃ (a:Addr) (ns:List Int),vs = [.ref a]∧SqL K H a (ns.map V.int)∧ns.length≤63∧∀ (b:Addr) (H':Hp),H b = none→Same H H'→BagAt H' b→Q (.ref b) H'
theorem cut63 (ns:List Int) (h:ns.length≤63):cutV (ns.map V.int) none (some 63) = ns.map V.int:=by
 unfold cutV
 have e1:HT.sIx (ns.map V.int).length 0 none = 0:=rfl
 have e2:HT.sIx (ns.map V.int).length (ns.map V.int).length (some 63) = min 63 (ns.map V.int).length:=HT.sIx_nat _ _ 63
 rw [e1,e2]
 simp only [List.drop_zero,List.length_map]
 rw [List.take_of_length_le]
 simp; omega
theorem ZW {ns:List Int} {i:Nat} {y:V} (h:(ns.map V.int)[i]? = some y):∃ z,y = V.int z∧ns[i]? = some z:=by
 rw [List.getElem?_map] at h
 cases e:ns[i]? with
 | none => rw [e] at h; cases h
 | some z => rw [e] at h; exact ⟨z,(Option.some.inj h).symm,rfl⟩
theorem ok_bag {f:Addr} {fd:FuncData} (F:Fun K "_law_bag" "_law_bag" sBag f fd) (N:Nms mg):FnOk P w K mg base CX0 1 f fd ["script"] (spBag K):=by
 refine F.okQ scBag (fun vs H Q E h => ?_) (fun cdv A outer s H vs Q E hr h => ?_)
 ·obtain ⟨a,ns,rfl,_⟩:=h
  rfl
 ·obtain ⟨a,ns,rfl,hS,hlen,k⟩:=h
  refine ⟨_,(qi (qH (i:=1) scBag.nd rfl (Or.inl rfl) qd)
  (qi (ZF PassesOwn.never rfl (vP (K:=K) rfl (zC (zA (K:=K) rfl) (qv 0) js (zD qd))) (v5 (i:=2) scBag.nd rfl (Or.inl rfl))
   (qk (qH (i:=1) scBag.nd rfl (Or.inl rfl) (qw xI (qw vM (qw vM (qw QL (qv 1) qd) (qw xI (qv 2) qd)) qd) qd))))
  (qk (qx (vg (qa_c (j7 [false,false,false] [] (vP (K:=K) rfl (zC (zA (K:=K) rfl) (qv 0) js (zD qd))) (fun _ _ _ => (v5 (i:=2) scBag.nd rfl (Or.inl rfl))) (fun _ _ _ => jr) (fun _ _ _ => (qw xI (qN call_abs (by rfl) N.abs b_abs (qa_c (qv 2) qe)) (qw op_pow qd qd)))) (qa_c qd (qa_c qd (qa_c (qv 1) (qa_c qd qe)))))))))), ?_⟩
  refine ⟨_,rfl,_,rfl,a,_,rfl,hS,fun p hp => ?_⟩
  rw [cut63 ns hlen]
  refine ⟨p,rfl,⟨_,SqL.of upd_same⟩,for_list (K:=K) (a:=p) (xs:=ns.map V.int) (fun i σ H2 => ∃ (st:Int) (v:Option V),σ = [some (.ref a),some (.int st),v]∧0≤st∧st < 2147483647∧H2 = upd H p (.lst (ns.map V.int)))
   ⟨17,none,rfl,by decide,by decide,rfl⟩ (fun i σ H2 _ ⟨_,_,_,_,_,e⟩ => by rw [e]; exact SqL.of upd_same) ?_ ?_⟩
  ·rintro i y σ H2 hi ⟨st,v,rfl,h0,h1,rfl⟩
   obtain ⟨z,rfl,_⟩:=ZW hi
   (simp only [L2.start,tSeq,zn,tAsg,tOp,tUn,tVar,tC,qE,gSub,tRet,zw,tIfS,zy,tLM,tTru,vN,tBM,tBM0,tRev,vF,vV,vT,qV,qU,vn,qW,xa,tSl,va,zx,rd_I,xh,rd_U,vm,xg,tCB,vH,tNil,tTup,tLst,tYes,tAnd,tOr,tNot,tB,tIf,zz,tOrV,z0,zm,xf,xc,xb,List.getElem?_cons_zero,List.getElem?_cons_succ,Option.some.injEq,exists_eq_left',List.set_cons_zero,List.set_cons_succ,vE,List.zip_cons_cons,List.zip_nil_left,List.zip_nil_right,List.map_cons,List.map_nil,List.length_cons,List.length_nil,List.replicate,List.append_nil,List.nil_append,List.cons_append,Bool.false_eq_true,if_true,if_false,decide_eq_true_eq,Nat.zero_add,qG,qF])
   refine ⟨.inr ⟨by decide,by decide⟩,by decide,by decide,_,_,rfl,Int.emod_nonneg _ (by decide),Int.emod_lt_of_pos _ (by decide),trivial⟩
  ·rintro σ H2 ⟨st,v,rfl,h0,h1,rfl⟩
   have hS2:SqL K (upd H p (.lst (ns.map V.int))) a (ns.map V.int):=((Same.refl H).upd hp).seq hS
   refine ⟨_,rfl,_,rfl,a,_,rfl,hS2,fun p2 hp2 => ?_⟩
   rw [cut63 ns hlen]
   obtain ⟨f2,n2⟩:=Qd hp2
   refine ⟨p2,rfl,⟨_,SqL.of upd_same⟩,fun acc hacc => ?_⟩
   obtain ⟨g1,n3⟩:=Qd hacc
   obtain ⟨g2,n4⟩:=Qd g1
   refine Yi (xs:=ns.map V.int) (fun i H3 => ∃ ys:List Int,H3 acc = some (.lst (ys.map V.int))∧ys.length = i∧(∀ y ∈ ys,0≤y)∧H3 p2 = some (.lst (ns.map V.int))∧Same H H3) ?_ ?_ ?_ ?_
   ·exact ⟨[],upd_same,rfl,(fun _ h => nomatch h),xL hacc upd_same,(((Same.refl H).upd hp).upd f2).upd g2⟩
   ·rintro i H3 _ ⟨ys,_,_,_,e,_⟩
    exact SqL.of e
   ·rintro i y H3 hi ⟨ys,e1,e2,e3,e4,e5⟩
    obtain ⟨z,rfl,hz⟩:=ZW hi
    have hil:i < ns.length:=(List.getElem?_eq_some_iff.mp hz).1
    (simp only [L2.start,tSeq,zn,tAsg,tOp,tUn,tVar,tC,qE,gSub,tRet,zw,tIfS,zy,tLM,tTru,vN,tBM,tBM0,tRev,vF,vV,vT,qV,qU,vn,qW,xa,tSl,va,zx,rd_I,xh,rd_U,vm,xg,tCB,vH,tNil,tTup,tLst,tYes,tAnd,tOr,tNot,tB,tIf,zz,tOrV,z0,zm,xf,xc,xb,List.getElem?_cons_zero,List.getElem?_cons_succ,Option.some.injEq,exists_eq_left',List.set_cons_zero,List.set_cons_succ,vE,List.zip_cons_cons,List.zip_nil_left,List.zip_nil_right,List.map_cons,List.map_nil,List.length_cons,List.length_nil,List.replicate,List.append_nil,List.nil_append,List.cons_append,Bool.false_eq_true,if_true,if_false,decide_eq_true_eq,Nat.zero_add,qG,qF])
    refine ⟨⟨by (repeat (first | exact ExtS.nl | refine ExtS.sm ?_ | refine ExtS.no ?_)),trivial⟩,⟨by decide,by decide,by decide⟩,by decide,ys.map V.int,e1,vb (by simp; omega),ys ++ [(if z < 0 then -z else z) % 10 ^ (60:Int).toNat], ?_,by simp [e2], ?_,jD n3.symm e4,e5.upd g2⟩
    ·rw [upd_same,List.map_append]; rfl
    ·intro y hy
     rcases List.mem_append.mp hy with h | h
     ·exact e3 y h
     ·rw [List.mem_singleton.mp h]; exact Int.emod_nonneg _ (by decide)
   ·rintro H3 ⟨ys,e1,e2,e3,e4,e5⟩
    rw [List.length_map] at e2
    (simp only [L2.start,tSeq,zn,tAsg,tOp,tUn,tVar,tC,qE,gSub,tRet,zw,tIfS,zy,tLM,tTru,vN,tBM,tBM0,tRev,vF,vV,vT,qV,qU,vn,qW,xa,tSl,va,zx,rd_I,xh,rd_U,vm,xg,tCB,vH,tNil,tTup,tLst,tYes,tAnd,tOr,tNot,tB,tIf,zz,tOrV,z0,zm,xf,xc,xb,List.getElem?_cons_zero,List.getElem?_cons_succ,Option.some.injEq,exists_eq_left',List.set_cons_zero,List.set_cons_succ,vE,List.zip_cons_cons,List.zip_nil_left,List.zip_nil_right,List.map_cons,List.map_nil,List.length_cons,List.length_nil,List.replicate,List.append_nil,List.nil_append,List.cons_append,Bool.false_eq_true,if_true,if_false,decide_eq_true_eq,Nat.zero_add,qG,qF])
    refine ⟨by decide,fun b hb => ?_⟩
    refine k b _ (e5.free hb) (e5.upd (e5.free hb)) ⟨acc,ys,0,0,st,0,upd_same,xL hb e1,by decide,by omega,by omega,e3,by decide,h0,h1⟩
theorem Yu {H:Hp} {b c:Addr} {ns:List Int} {i a st n:Int} (hb:H b = some (.lst [.ref c, .int i, .int a, .int st, .int n])) (hc:H c = some (.lst (ns.map V.int))):c≠b:=by
 intro e
 subst e
 rw [hb] at hc
 injection hc with hc
 injection hc with hc
 cases ns with
 | nil => cases hc
 | cons z r => cases hc
def jg (H:Hp) (b c:Addr):Prop:=∃ r,H b = some (.lst (.ref c :: r))
theorem Q8 {H H':Hp} {b c:Addr} {r r':List V} (h:H b = some (.lst (.ref c :: r))) (h':H' b = some (.lst (.ref c :: r'))):∀ c',jg H b c'→jg H' b c':=fun c' ⟨q,e⟩ => by
 rw [h] at e
 injection e with e
 injection e with e
 injection e with e _
 injection e with e
 subst e
 exact ⟨r',h'⟩
theorem head_inj {H:Hp} {b c c':Addr} (h:jg H b c) (h':jg H b c'):c = c':=by
 obtain ⟨q,e⟩:=h
 obtain ⟨q',e'⟩:=h'
 rw [e] at e'
 injection e' with e'
 injection e' with e'
 injection e' with e' _
 injection e'
def spDraw2:Sp:=fun vs H Q _ => ∃ (b:Addr) (many:Int),vs = [.ref b, .int many]∧BagAt H b∧0 < many∧many.natAbs.log2 < 9000∧∀ (found:Int) (H':Hp),0≤found→found < many→BagAt H' b→(∀ x,x≠b→H' x = H x)→(∀ c,jg H b c→jg H' b c)→Q (.int found) H'
theorem BagAt.put {H:Hp} {b p c0:Addr} {o:HO} (h:BagAt H b) (hh:jg H b c0) (n1:p≠b) (n2:p≠c0):BagAt (L2.upd H p o) b:=by
 obtain ⟨c,ns,i,a,st,n,hb,hc,r⟩:=h.ex
 have e:c0 = c:=by
  obtain ⟨q,e⟩:=hh
  rw [hb] at e
  injection e with e
  injection e with e
  injection e with e _
  injection e with e
  exact e.symm
 subst e
 exact ⟨c0,ns,i,a,st,n,jD n1.symm hb,jD n2.symm hc,r⟩
theorem ok_draw2 {f:Addr} {fd:FuncData} (F:Fun K "_law_draw" "_law_draw" VG f fd) (N:Nms mg):FnOk P w K mg base CX0 1 f fd ["bag", "many"] spDraw2:=by
 refine F.okQ scDraw (fun vs H Q E h => ?_) (fun cdv A outer s H vs Q E hr h => ?_)
 ·obtain ⟨b,m,rfl,_⟩:=h
  rfl
 ·obtain ⟨b,many,rfl,⟨c,ns,i,a,st,n,hb,hc,i0,i1,hl,hns,a0,s0,s1⟩,m0,mb,k⟩:=h
  have hcb:=Yu hb hc
  refine ⟨_,(qi (v3 (qw_pt (qw_and (qJ op_eq (qC (qm (K:=K) rfl) (qv 0) qd (fun _ _ => rfl)) qd (qK _)) (JP (qJ VN (qC (qm (K:=K) rfl) (qv 0) qd (fun _ _ => rfl)) (qN jk (by rfl) N.len Yx (qa_c (qC (qm (K:=K) rfl) (qv 0) qd (fun _ _ => rfl)) qe)) (qK _)))))
   (qi (zM (qC (qm (K:=K) rfl) (qC (qm (K:=K) rfl) (qv 0) qd (fun _ _ => rfl)) (qC (qm (K:=K) rfl) (qv 0) qd (fun _ _ => rfl)) (fun _ _ => rfl)) (xk (qv 0) qd vO))
   (qk (zM (qw vM (qC (qm (K:=K) rfl) (qv 0) qd (fun _ _ => rfl)) qd) (xk (qv 0) qd vO))))
   (qk (v3 (qJ op_eq (qC (qm (K:=K) rfl) (qv 0) qd (fun _ _ => rfl)) qd (qK _))
    (qi (zM (qw vM (qC (qm (K:=K) rfl) (qv 0) qd (fun _ _ => rfl)) qd) (xk (qv 0) qd vO))
    (qi (zM (qw xI (qw vM (qw vM (qw vM (qw op_pow (qC (qm (K:=K) rfl) (qv 0) qd (fun _ _ => rfl)) qd) (qw QL qd (qC (qm (K:=K) rfl) (qv 0) qd (fun _ _ => rfl)))) (qw QL qd (qC (qm (K:=K) rfl) (qv 0) qd (fun _ _ => rfl)))) qd) qd) (xk (qv 0) qd vO))
    (qk (qx (qw xI (qw ZJ (qC (qm (K:=K) rfl) (qv 0) qd (fun _ _ => rfl)) qd) (qv 1))))))
    qR)))
  (qi (qH (i:=2) scDraw.nd rfl (Or.inl rfl) (qw xI (qC (qm (K:=K) rfl) (qv 0) qd (fun _ _ => rfl)) (qv 1)))
  (qi (zM (qw ZJ (qC (qm (K:=K) rfl) (qv 0) qd (fun _ _ => rfl)) (qv 1)) (xk (qv 0) qd vO))
  (qk (qx (qv 2)))))), ?_⟩
  (repeat (first | (simp only [L2.start,tSeq,zn,tAsg,tOp,tUn,tVar,tC,qE,gSub,tRet,zw,tIfS,zy,tLM,tTru,vN,tBM,tBM0,tRev,vF,vV,vT,qV,qU,vn,qW,xa,tSl,va,zx,rd_I,xh,rd_U,vm,xg,tCB,vH,tNil,tTup,tLst,tYes,tAnd,tOr,tNot,tB,tIf,zz,tOrV,z0,zm,xf,xc,xb,List.getElem?_cons_zero,List.getElem?_cons_succ,Option.some.injEq,exists_eq_left',List.set_cons_zero,List.set_cons_succ,vE,List.zip_cons_cons,List.zip_nil_left,List.zip_nil_right,List.map_cons,List.map_nil,List.length_cons,List.length_nil,List.replicate,List.append_nil,List.nil_append,List.cons_append,Bool.false_eq_true,if_true,if_false,decide_eq_true_eq,Nat.zero_add,qG,qF]) | refine qS (by walk_at "hp") rfl ?_ | refine zr (by walk_at "hp") rfl ?_ | refine qS (by walk_at "hp") at0 ?_ | refine vI (by walk_at "hp") rfl ?_ | refine zq (by walk_at "hp") ?_ | refine vf (by walk_at "hp") ?_ | refine vc (by walk_at "hp") ?_ | refine xP (by walk_at "hp") ?_ | refine xR (by walk_at "hp") ?_ | refine xT rfl ?_ | refine xN rfl ?_))
  have fin:∀ (z:Int) (H':Hp) (i' a' st' n':Int),0≤z→H' b = some (.lst [.ref c, .int i', .int (z / many), .int st', .int n'])→(∀ x,x≠b→H' x = H x)→0≤i'→i'≤ns.length→0≤st'→st' < 2147483647→Q (.int (z % many)) H':=fun z H' i' a' st' n' hz e1 e2 e3 e4 e5 e6 =>
   k _ _ (Int.emod_nonneg _ (by omega)) (Int.emod_lt_of_pos _ m0) ⟨c,ns,i',z / many,st',n',e1,by rw [e2 c hcb]; exact hc,e3,e4,hl,hns,Int.ediv_nonneg hz (by omega),e5,e6⟩ e2 (Q8 hb e1)
  refine ite2 (fun ha => ?_) (fun ha => ?_)
  ·(repeat (first | (simp only [L2.start,tSeq,zn,tAsg,tOp,tUn,tVar,tC,qE,gSub,tRet,zw,tIfS,zy,tLM,tTru,vN,tBM,tBM0,tRev,vF,vV,vT,qV,qU,vn,qW,xa,tSl,va,zx,rd_I,xh,rd_U,vm,xg,tCB,vH,tNil,tTup,tLst,tYes,tAnd,tOr,tNot,tB,tIf,zz,tOrV,z0,zm,xf,xc,xb,List.getElem?_cons_zero,List.getElem?_cons_succ,Option.some.injEq,exists_eq_left',List.set_cons_zero,List.set_cons_succ,vE,List.zip_cons_cons,List.zip_nil_left,List.zip_nil_right,List.map_cons,List.map_nil,List.length_cons,List.length_nil,List.replicate,List.append_nil,List.nil_append,List.cons_append,Bool.false_eq_true,if_true,if_false,decide_eq_true_eq,Nat.zero_add,qG,qF]) | refine qS (by walk_at "hp") rfl ?_ | refine zr (by walk_at "hp") rfl ?_ | refine qS (by walk_at "hp") at0 ?_ | refine vI (by walk_at "hp") rfl ?_ | refine zq (by walk_at "hp") ?_ | refine vf (by walk_at "hp") ?_ | refine vc (by walk_at "hp") ?_ | refine xP (by walk_at "hp") ?_ | refine xR (by walk_at "hp") ?_ | refine xT rfl ?_ | refine xN rfl ?_))
   refine ite2 (fun hi => ?_) (fun hi => ?_)
   ·rw [List.length_map] at hi
    obtain ⟨j,rfl⟩:∃ j:Nat,i = (j:Int):=⟨i.toNat,by omega⟩
    have hj:j < ns.length:=by omega
    (repeat (first | (simp only [L2.start,tSeq,zn,tAsg,tOp,tUn,tVar,tC,qE,gSub,tRet,zw,tIfS,zy,tLM,tTru,vN,tBM,tBM0,tRev,vF,vV,vT,qV,qU,vn,qW,xa,tSl,va,zx,rd_I,xh,rd_U,vm,xg,tCB,vH,tNil,tTup,tLst,tYes,tAnd,tOr,tNot,tB,tIf,zz,tOrV,z0,zm,xf,xc,xb,List.getElem?_cons_zero,List.getElem?_cons_succ,Option.some.injEq,exists_eq_left',List.set_cons_zero,List.set_cons_succ,vE,List.zip_cons_cons,List.zip_nil_left,List.zip_nil_right,List.map_cons,List.map_nil,List.length_cons,List.length_nil,List.replicate,List.append_nil,List.nil_append,List.cons_append,Bool.false_eq_true,if_true,if_false,decide_eq_true_eq,Nat.zero_add,qG,qF]) | refine qS (by walk_at "hp") rfl ?_ | refine zr (by walk_at "hp") rfl ?_ | refine qS (by walk_at "hp") at0 ?_ | refine vI (by walk_at "hp") rfl ?_ | refine zq (by walk_at "hp") ?_ | refine vf (by walk_at "hp") ?_ | refine vc (by walk_at "hp") ?_ | refine xP (by walk_at "hp") ?_ | refine xR (by walk_at "hp") ?_ | refine xT rfl ?_ | refine xN rfl ?_))
    refine qS hc (xt (v:=.int ns[j]) (by rw [List.getElem?_map,List.getElem?_eq_getElem hj]; rfl)) ?_
    (repeat (first | (simp only [L2.start,tSeq,zn,tAsg,tOp,tUn,tVar,tC,qE,gSub,tRet,zw,tIfS,zy,tLM,tTru,vN,tBM,tBM0,tRev,vF,vV,vT,qV,qU,vn,qW,xa,tSl,va,zx,rd_I,xh,rd_U,vm,xg,tCB,vH,tNil,tTup,tLst,tYes,tAnd,tOr,tNot,tB,tIf,zz,tOrV,z0,zm,xf,xc,xb,List.getElem?_cons_zero,List.getElem?_cons_succ,Option.some.injEq,exists_eq_left',List.set_cons_zero,List.set_cons_succ,vE,List.zip_cons_cons,List.zip_nil_left,List.zip_nil_right,List.map_cons,List.map_nil,List.length_cons,List.length_nil,List.replicate,List.append_nil,List.nil_append,List.cons_append,Bool.false_eq_true,if_true,if_false,decide_eq_true_eq,Nat.zero_add,qG,qF]) | refine qS (by walk_at "hp") rfl ?_ | refine zr (by walk_at "hp") rfl ?_ | refine qS (by walk_at "hp") at0 ?_ | refine vI (by walk_at "hp") rfl ?_ | refine zq (by walk_at "hp") ?_ | refine vf (by walk_at "hp") ?_ | refine vc (by walk_at "hp") ?_ | refine xP (by walk_at "hp") ?_ | refine xR (by walk_at "hp") ?_ | refine xT rfl ?_ | refine xN rfl ?_))
    refine ⟨m0, ?_⟩
    (repeat (first | (simp only [L2.start,tSeq,zn,tAsg,tOp,tUn,tVar,tC,qE,gSub,tRet,zw,tIfS,zy,tLM,tTru,vN,tBM,tBM0,tRev,vF,vV,vT,qV,qU,vn,qW,xa,tSl,va,zx,rd_I,xh,rd_U,vm,xg,tCB,vH,tNil,tTup,tLst,tYes,tAnd,tOr,tNot,tB,tIf,zz,tOrV,z0,zm,xf,xc,xb,List.getElem?_cons_zero,List.getElem?_cons_succ,Option.some.injEq,exists_eq_left',List.set_cons_zero,List.set_cons_succ,vE,List.zip_cons_cons,List.zip_nil_left,List.zip_nil_right,List.map_cons,List.map_nil,List.length_cons,List.length_nil,List.replicate,List.append_nil,List.nil_append,List.cons_append,Bool.false_eq_true,if_true,if_false,decide_eq_true_eq,Nat.zero_add,qG,qF]) | refine qS (by walk_at "hp") rfl ?_ | refine zr (by walk_at "hp") rfl ?_ | refine qS (by walk_at "hp") at0 ?_ | refine vI (by walk_at "hp") rfl ?_ | refine zq (by walk_at "hp") ?_ | refine vf (by walk_at "hp") ?_ | refine vc (by walk_at "hp") ?_ | refine xP (by walk_at "hp") ?_ | refine xR (by walk_at "hp") ?_ | refine xT rfl ?_ | refine xN rfl ?_))
    refine ⟨⟨m0,mb⟩, ?_⟩
    (repeat (first | (simp only [L2.start,tSeq,zn,tAsg,tOp,tUn,tVar,tC,qE,gSub,tRet,zw,tIfS,zy,tLM,tTru,vN,tBM,tBM0,tRev,vF,vV,vT,qV,qU,vn,qW,xa,tSl,va,zx,rd_I,xh,rd_U,vm,xg,tCB,vH,tNil,tTup,tLst,tYes,tAnd,tOr,tNot,tB,tIf,zz,tOrV,z0,zm,xf,xc,xb,List.getElem?_cons_zero,List.getElem?_cons_succ,Option.some.injEq,exists_eq_left',List.set_cons_zero,List.set_cons_succ,vE,List.zip_cons_cons,List.zip_nil_left,List.zip_nil_right,List.map_cons,List.map_nil,List.length_cons,List.length_nil,List.replicate,List.append_nil,List.nil_append,List.cons_append,Bool.false_eq_true,if_true,if_false,decide_eq_true_eq,Nat.zero_add,qG,qF]) | refine qS (by walk_at "hp") rfl ?_ | refine zr (by walk_at "hp") rfl ?_ | refine qS (by walk_at "hp") at0 ?_ | refine vI (by walk_at "hp") rfl ?_ | refine zq (by walk_at "hp") ?_ | refine vf (by walk_at "hp") ?_ | refine vc (by walk_at "hp") ?_ | refine xP (by walk_at "hp") ?_ | refine xR (by walk_at "hp") ?_ | refine xT rfl ?_ | refine xN rfl ?_))
    exact fin _ _ (j + 1) 0 st n (hns _ (List.getElem_mem hj)) upd_same (fun x hx => by rw [upd_ne hx,upd_ne hx,upd_ne hx]) (by omega) (by omega) s0 s1
   ·(repeat (first | (simp only [L2.start,tSeq,zn,tAsg,tOp,tUn,tVar,tC,qE,gSub,tRet,zw,tIfS,zy,tLM,tTru,vN,tBM,tBM0,tRev,vF,vV,vT,qV,qU,vn,qW,xa,tSl,va,zx,rd_I,xh,rd_U,vm,xg,tCB,vH,tNil,tTup,tLst,tYes,tAnd,tOr,tNot,tB,tIf,zz,tOrV,z0,zm,xf,xc,xb,List.getElem?_cons_zero,List.getElem?_cons_succ,Option.some.injEq,exists_eq_left',List.set_cons_zero,List.set_cons_succ,vE,List.zip_cons_cons,List.zip_nil_left,List.zip_nil_right,List.map_cons,List.map_nil,List.length_cons,List.length_nil,List.replicate,List.append_nil,List.nil_append,List.cons_append,Bool.false_eq_true,if_true,if_false,decide_eq_true_eq,Nat.zero_add,qG,qF]) | refine qS (by walk_at "hp") rfl ?_ | refine zr (by walk_at "hp") rfl ?_ | refine qS (by walk_at "hp") at0 ?_ | refine vI (by walk_at "hp") rfl ?_ | refine zq (by walk_at "hp") ?_ | refine vf (by walk_at "hp") ?_ | refine vc (by walk_at "hp") ?_ | refine xP (by walk_at "hp") ?_ | refine xR (by walk_at "hp") ?_ | refine xT rfl ?_ | refine xN rfl ?_))
    rw [if_pos ha]
    (repeat (first | (simp only [L2.start,tSeq,zn,tAsg,tOp,tUn,tVar,tC,qE,gSub,tRet,zw,tIfS,zy,tLM,tTru,vN,tBM,tBM0,tRev,vF,vV,vT,qV,qU,vn,qW,xa,tSl,va,zx,rd_I,xh,rd_U,vm,xg,tCB,vH,tNil,tTup,tLst,tYes,tAnd,tOr,tNot,tB,tIf,zz,tOrV,z0,zm,xf,xc,xb,List.getElem?_cons_zero,List.getElem?_cons_succ,Option.some.injEq,exists_eq_left',List.set_cons_zero,List.set_cons_succ,vE,List.zip_cons_cons,List.zip_nil_left,List.zip_nil_right,List.map_cons,List.map_nil,List.length_cons,List.length_nil,List.replicate,List.append_nil,List.nil_append,List.cons_append,Bool.false_eq_true,if_true,if_false,decide_eq_true_eq,Nat.zero_add,qG,qF]) | refine qS (by walk_at "hp") rfl ?_ | refine zr (by walk_at "hp") rfl ?_ | refine qS (by walk_at "hp") at0 ?_ | refine vI (by walk_at "hp") rfl ?_ | refine zq (by walk_at "hp") ?_ | refine vf (by walk_at "hp") ?_ | refine vc (by walk_at "hp") ?_ | refine xP (by walk_at "hp") ?_ | refine xR (by walk_at "hp") ?_ | refine xT rfl ?_ | refine xN rfl ?_))
    refine ⟨⟨by decide,by decide,by omega⟩, ?_⟩
    (repeat (first | (simp only [L2.start,tSeq,zn,tAsg,tOp,tUn,tVar,tC,qE,gSub,tRet,zw,tIfS,zy,tLM,tTru,vN,tBM,tBM0,tRev,vF,vV,vT,qV,qU,vn,qW,xa,tSl,va,zx,rd_I,xh,rd_U,vm,xg,tCB,vH,tNil,tTup,tLst,tYes,tAnd,tOr,tNot,tB,tIf,zz,tOrV,z0,zm,xf,xc,xb,List.getElem?_cons_zero,List.getElem?_cons_succ,Option.some.injEq,exists_eq_left',List.set_cons_zero,List.set_cons_succ,vE,List.zip_cons_cons,List.zip_nil_left,List.zip_nil_right,List.map_cons,List.map_nil,List.length_cons,List.length_nil,List.replicate,List.append_nil,List.nil_append,List.cons_append,Bool.false_eq_true,if_true,if_false,decide_eq_true_eq,Nat.zero_add,qG,qF]) | refine qS (by walk_at "hp") rfl ?_ | refine zr (by walk_at "hp") rfl ?_ | refine qS (by walk_at "hp") at0 ?_ | refine vI (by walk_at "hp") rfl ?_ | refine zq (by walk_at "hp") ?_ | refine vf (by walk_at "hp") ?_ | refine vc (by walk_at "hp") ?_ | refine xP (by walk_at "hp") ?_ | refine xR (by walk_at "hp") ?_ | refine xT rfl ?_ | refine xN rfl ?_))
    refine ⟨.inl ⟨by decide,by decide⟩, ?_⟩
    (repeat (first | (simp only [L2.start,tSeq,zn,tAsg,tOp,tUn,tVar,tC,qE,gSub,tRet,zw,tIfS,zy,tLM,tTru,vN,tBM,tBM0,tRev,vF,vV,vT,qV,qU,vn,qW,xa,tSl,va,zx,rd_I,xh,rd_U,vm,xg,tCB,vH,tNil,tTup,tLst,tYes,tAnd,tOr,tNot,tB,tIf,zz,tOrV,z0,zm,xf,xc,xb,List.getElem?_cons_zero,List.getElem?_cons_succ,Option.some.injEq,exists_eq_left',List.set_cons_zero,List.set_cons_succ,vE,List.zip_cons_cons,List.zip_nil_left,List.zip_nil_right,List.map_cons,List.map_nil,List.length_cons,List.length_nil,List.replicate,List.append_nil,List.nil_append,List.cons_append,Bool.false_eq_true,if_true,if_false,decide_eq_true_eq,Nat.zero_add,qG,qF]) | refine qS (by walk_at "hp") rfl ?_ | refine zr (by walk_at "hp") rfl ?_ | refine qS (by walk_at "hp") at0 ?_ | refine vI (by walk_at "hp") rfl ?_ | refine zq (by walk_at "hp") ?_ | refine vf (by walk_at "hp") ?_ | refine vc (by walk_at "hp") ?_ | refine xP (by walk_at "hp") ?_ | refine xR (by walk_at "hp") ?_ | refine xT rfl ?_ | refine xN rfl ?_))
    refine ⟨.inl ⟨by decide,by decide⟩,by decide, ?_⟩
    (repeat (first | (simp only [L2.start,tSeq,zn,tAsg,tOp,tUn,tVar,tC,qE,gSub,tRet,zw,tIfS,zy,tLM,tTru,vN,tBM,tBM0,tRev,vF,vV,vT,qV,qU,vn,qW,xa,tSl,va,zx,rd_I,xh,rd_U,vm,xg,tCB,vH,tNil,tTup,tLst,tYes,tAnd,tOr,tNot,tB,tIf,zz,tOrV,z0,zm,xf,xc,xb,List.getElem?_cons_zero,List.getElem?_cons_succ,Option.some.injEq,exists_eq_left',List.set_cons_zero,List.set_cons_succ,vE,List.zip_cons_cons,List.zip_nil_left,List.zip_nil_right,List.map_cons,List.map_nil,List.length_cons,List.length_nil,List.replicate,List.append_nil,List.nil_append,List.cons_append,Bool.false_eq_true,if_true,if_false,decide_eq_true_eq,Nat.zero_add,qG,qF]) | refine qS (by walk_at "hp") rfl ?_ | refine zr (by walk_at "hp") rfl ?_ | refine qS (by walk_at "hp") at0 ?_ | refine vI (by walk_at "hp") rfl ?_ | refine zq (by walk_at "hp") ?_ | refine vf (by walk_at "hp") ?_ | refine vc (by walk_at "hp") ?_ | refine xP (by walk_at "hp") ?_ | refine xR (by walk_at "hp") ?_ | refine xT rfl ?_ | refine xN rfl ?_))
    refine ⟨⟨by decide,by decide⟩,m0, ?_⟩
    refine k _ _ (Int.emod_nonneg _ (by omega)) (Int.emod_lt_of_pos _ m0) ⟨c,ns,i,a,_,n + 1,upd_same, ?_,i0,i1,hl,hns,a0,Int.emod_nonneg _ (by decide),Int.emod_lt_of_pos _ (by decide)⟩ (fun x hx => by rw [upd_ne hx,upd_ne hx]) (Q8 hb upd_same)
    walk_at "hp"
  ·(repeat (first | (simp only [L2.start,tSeq,zn,tAsg,tOp,tUn,tVar,tC,qE,gSub,tRet,zw,tIfS,zy,tLM,tTru,vN,tBM,tBM0,tRev,vF,vV,vT,qV,qU,vn,qW,xa,tSl,va,zx,rd_I,xh,rd_U,vm,xg,tCB,vH,tNil,tTup,tLst,tYes,tAnd,tOr,tNot,tB,tIf,zz,tOrV,z0,zm,xf,xc,xb,List.getElem?_cons_zero,List.getElem?_cons_succ,Option.some.injEq,exists_eq_left',List.set_cons_zero,List.set_cons_succ,vE,List.zip_cons_cons,List.zip_nil_left,List.zip_nil_right,List.map_cons,List.map_nil,List.length_cons,List.length_nil,List.replicate,List.append_nil,List.nil_append,List.cons_append,Bool.false_eq_true,if_true,if_false,decide_eq_true_eq,Nat.zero_add,qG,qF]) | refine qS (by walk_at "hp") rfl ?_ | refine zr (by walk_at "hp") rfl ?_ | refine qS (by walk_at "hp") at0 ?_ | refine vI (by walk_at "hp") rfl ?_ | refine zq (by walk_at "hp") ?_ | refine vf (by walk_at "hp") ?_ | refine vc (by walk_at "hp") ?_ | refine xP (by walk_at "hp") ?_ | refine xR (by walk_at "hp") ?_ | refine xT rfl ?_ | refine xN rfl ?_))
   rw [if_neg ha]
   (repeat (first | (simp only [L2.start,tSeq,zn,tAsg,tOp,tUn,tVar,tC,qE,gSub,tRet,zw,tIfS,zy,tLM,tTru,vN,tBM,tBM0,tRev,vF,vV,vT,qV,qU,vn,qW,xa,tSl,va,zx,rd_I,xh,rd_U,vm,xg,tCB,vH,tNil,tTup,tLst,tYes,tAnd,tOr,tNot,tB,tIf,zz,tOrV,z0,zm,xf,xc,xb,List.getElem?_cons_zero,List.getElem?_cons_succ,Option.some.injEq,exists_eq_left',List.set_cons_zero,List.set_cons_succ,vE,List.zip_cons_cons,List.zip_nil_left,List.zip_nil_right,List.map_cons,List.map_nil,List.length_cons,List.length_nil,List.replicate,List.append_nil,List.nil_append,List.cons_append,Bool.false_eq_true,if_true,if_false,decide_eq_true_eq,Nat.zero_add,qG,qF]) | refine qS (by walk_at "hp") rfl ?_ | refine zr (by walk_at "hp") rfl ?_ | refine qS (by walk_at "hp") at0 ?_ | refine vI (by walk_at "hp") rfl ?_ | refine zq (by walk_at "hp") ?_ | refine vf (by walk_at "hp") ?_ | refine vc (by walk_at "hp") ?_ | refine xP (by walk_at "hp") ?_ | refine xR (by walk_at "hp") ?_ | refine xT rfl ?_ | refine xN rfl ?_))
   refine ⟨m0, ?_⟩
   (repeat (first | (simp only [L2.start,tSeq,zn,tAsg,tOp,tUn,tVar,tC,qE,gSub,tRet,zw,tIfS,zy,tLM,tTru,vN,tBM,tBM0,tRev,vF,vV,vT,qV,qU,vn,qW,xa,tSl,va,zx,rd_I,xh,rd_U,vm,xg,tCB,vH,tNil,tTup,tLst,tYes,tAnd,tOr,tNot,tB,tIf,zz,tOrV,z0,zm,xf,xc,xb,List.getElem?_cons_zero,List.getElem?_cons_succ,Option.some.injEq,exists_eq_left',List.set_cons_zero,List.set_cons_succ,vE,List.zip_cons_cons,List.zip_nil_left,List.zip_nil_right,List.map_cons,List.map_nil,List.length_cons,List.length_nil,List.replicate,List.append_nil,List.nil_append,List.cons_append,Bool.false_eq_true,if_true,if_false,decide_eq_true_eq,Nat.zero_add,qG,qF]) | refine qS (by walk_at "hp") rfl ?_ | refine zr (by walk_at "hp") rfl ?_ | refine qS (by walk_at "hp") at0 ?_ | refine vI (by walk_at "hp") rfl ?_ | refine zq (by walk_at "hp") ?_ | refine vf (by walk_at "hp") ?_ | refine vc (by walk_at "hp") ?_ | refine xP (by walk_at "hp") ?_ | refine xR (by walk_at "hp") ?_ | refine xT rfl ?_ | refine xN rfl ?_))
   refine ⟨⟨m0,mb⟩, ?_⟩
   (repeat (first | (simp only [L2.start,tSeq,zn,tAsg,tOp,tUn,tVar,tC,qE,gSub,tRet,zw,tIfS,zy,tLM,tTru,vN,tBM,tBM0,tRev,vF,vV,vT,qV,qU,vn,qW,xa,tSl,va,zx,rd_I,xh,rd_U,vm,xg,tCB,vH,tNil,tTup,tLst,tYes,tAnd,tOr,tNot,tB,tIf,zz,tOrV,z0,zm,xf,xc,xb,List.getElem?_cons_zero,List.getElem?_cons_succ,Option.some.injEq,exists_eq_left',List.set_cons_zero,List.set_cons_succ,vE,List.zip_cons_cons,List.zip_nil_left,List.zip_nil_right,List.map_cons,List.map_nil,List.length_cons,List.length_nil,List.replicate,List.append_nil,List.nil_append,List.cons_append,Bool.false_eq_true,if_true,if_false,decide_eq_true_eq,Nat.zero_add,qG,qF]) | refine qS (by walk_at "hp") rfl ?_ | refine zr (by walk_at "hp") rfl ?_ | refine qS (by walk_at "hp") at0 ?_ | refine vI (by walk_at "hp") rfl ?_ | refine zq (by walk_at "hp") ?_ | refine vf (by walk_at "hp") ?_ | refine vc (by walk_at "hp") ?_ | refine xP (by walk_at "hp") ?_ | refine xR (by walk_at "hp") ?_ | refine xT rfl ?_ | refine xN rfl ?_))
   exact fin _ _ i 0 st n a0 upd_same (fun x hx => by rw [upd_ne hx]) i0 i1 s0 s1
def MB (M:MM) (k:Nat) (o:MO) (L:List MO):MM:=M.set k o ++ L
theorem MB_len {M:MM} {k:Nat} {o:MO} {L:List MO}:(MB M k o L).length = M.length + L.length:=by unfold MB; rw [List.length_append,List.length_set]
theorem MB_new {M:MM} {k:Nat} {o x:MO} {L:List MO}:MB M k o L ++ [x] = MB M k o (L ++ [x]):=by unfold MB; rw [List.append_assoc]
theorem MB_get {M:MM} {k i:Nat} {o:MO} {L:List MO}:(MB M k o L)[M.length + i]? = L[i]?:=by
 unfold MB
 rw [List.getElem?_append_right (by rw [List.length_set]; omega),List.length_set,Nat.add_sub_cancel_left]
theorem zH {M:MM} {k i:Nat} {o x:MO} {L:List MO} (h:L[i]? = some x:=by rfl):(MB M k o L)[M.length + i]? = some x:=MB_get.trans h
theorem MB_set {M:MM} {k i:Nat} {o x:MO} {L:List MO}:(MB M k o L).set (M.length + i) x = MB M k o (L.set i x):=by
 unfold MB
 rw [List.set_append_right _ _ (by rw [List.length_set]; omega),List.length_set,Nat.add_sub_cancel_left]
theorem MB_bag {M:MM} {k:Nat} {o:MO} {L:List MO} (h:k < M.length):(MB M k o L)[k]? = some o:=by
 unfold MB
 rw [List.getElem?_append_left (by rw [List.length_set]; exact h),List.getElem?_set_self h]
theorem Vr {M:MM} {k:Nat} {o o':MO} {L:List MO} (h:k < M.length):(MB M k o L).set k o' = MB M k o' L:=by
 unfold MB
 rw [List.set_append_left _ _ (by rw [List.length_set]; exact h),List.set_set]
theorem Ql {M:MM} {k:Nat} {o:MO} {L:List MO}:(MB M k o L).take M.length = M.set k o:=by
 unfold MB
 rw [List.take_left' (by rw [List.length_set])]
theorem Qm {M:MM} {k:Nat} {o:MO} (h:M[k]? = some o):k < M.length∧M = MB M k o []:=by
 refine ⟨(List.getElem?_eq_some_iff.mp h).1, ?_⟩
 unfold MB
 rw [List.append_nil]
 obtain ⟨hk,rfl⟩:=List.getElem?_eq_some_iff.mp h
 rw [List.set_getElem_self]
theorem Qk {M:MM} {k:Nat} {o:MO} {L:List MO} (h:PurO o):xK M (MB M k o L):=fun i x hi e => by
 unfold MB at e
 rw [List.getElem?_append_left (by rw [List.length_set]; exact hi)] at e
 by_cases hk:k = i
 ·subst hk
  rw [List.getElem?_set_self hi] at e
  cases e
  exact .inr h
 ·rw [List.getElem?_set_ne hk] at e
  exact .inl e
structure BagO (o:MO):Prop where
 ex:∃ (ns:List Int) (i a st n:Int),o = .lst [.p (intsT ns), .p (.int i), .p (.int a), .p (.int st), .p (.int n)]∧0≤i∧i≤ns.length∧ns.length≤63∧(∀ x ∈ ns,0≤x)∧0≤a∧0≤st∧st < 2147483647
theorem BagO.pur {o:MO} (h:BagO o):PurO o:=by
 obtain ⟨ns,i,a,st,n,rfl,_⟩:=h.ex
 exact ⟨[intsT ns, .int i, .int a, .int st, .int n],rfl⟩
def Qb:List U→MM→UK→Prop:=fun us M Q => ∃ (k:Nat) (o:MO) (many:Int),us = [.m k, .p (.int many)]∧M[k]? = some o∧BagO o∧0 < many∧many.natAbs.log2 < 9000∧∀ (found:Int) (o':MO),0≤found→found < many→BagO o'→Q (.p (.int found)) (M.set k o')
theorem ve {M:MM} {k:Nat} {o:MO} {L:List MO} {many:Int} {Q:UK} (hk:k < M.length) (B:BagO o) (h0:0 < many) (h1:many.natAbs.log2 < 9000) (q:∀ (found:Int) (o':MO),0≤found→found < many→BagO o'→Q (.p (.int found)) (MB M k o' L)):Qb [.m k, .p (.int many)] (MB M k o L) Q :=
 ⟨k,o,many,rfl,MB_bag hk,B,h0,h1,fun f o' f0 f1 B' => by rw [Vr hk]; exact q f o' f0 f1 B'⟩
theorem ints_inv {A:Addr→Prop} {H:Hp} {v:V} {ns:List Int} (r:RepT A H v (intsT ns)):∃ p,v = .ref p∧¬ A p∧H p = some (.lst (ns.map V.int)):=by
 obtain ⟨p,vs,rfl,na,h,q⟩:=r.lst_inv
 refine ⟨p,rfl,na, ?_⟩
 have:vs = ns.map V.int:=by
  clear h r na
  induction ns generalizing vs with
  | nil => cases q; rfl
  | cons n ns ih =>
   cases q with
   | cons a b => cases a; rw [ih _ b]; rfl
 rw [h,this]
theorem ZV {A:Addr→Prop} {H:Hp} {p:Addr} {ns:List Int} (na:¬ A p) (h:H p = some (.lst (ns.map V.int))):RepT A H (.ref p) (intsT ns):=by
 refine .lstP na h ?_
 induction ns with
 | nil => exact .nil
 | cons n ns ih => exact .cons (.int n) (by
   clear h ih
   induction ns with
   | nil => exact .nil
   | cons n ns ih => exact .cons (.int n) ih)
theorem bag_obj {A:Addr→Prop} {ι:List Addr} {H:Hp} {b:Addr} {o:MO} (hb:BagO o) (r:ObjR A ι H b o):BagAt H b∧∃ c,jg H b c∧¬ Av A ι c∧∃ ns:List Int,H c = some (.lst (ns.map V.int)):=by
 obtain ⟨ns,i,a,st,n,rfl,k⟩:=hb.ex
 obtain ⟨vs,h,q⟩:=r
 cases q with
 | cons q1 q =>
 cases q with
 | cons q2 q =>
 cases q with
 | cons q3 q =>
 cases q with
 | cons q4 q =>
 cases q with
 | cons q5 q =>
 cases q
 cases q1 with
 | p q1 =>
 obtain ⟨c,rfl,nc,hc⟩:=ints_inv q1
 cases q2 with
 | p q2 =>
 cases q3 with
 | p q3 =>
 cases q4 with
 | p q4 =>
 cases q5 with
 | p q5 =>
 cases q2; cases q3; cases q4; cases q5
 exact ⟨⟨c,ns,i,a,st,n,h,hc,k⟩,c,⟨_,h⟩,nc,ns,hc⟩
theorem Xd {A:Addr→Prop} {ι:List Addr} {H:Hp} {b c:Addr} (B:BagAt H b) (hd:jg H b c) (nc:¬ Av A ι c):∃ o,BagO o∧ObjR A ι H b o∧∃ x,H b = some x∧∀ H',H' b = some x→(∀ y z,H y = some z→y≠b→H' y = some z)→ObjR A ι H' b o:=by
 obtain ⟨c',ns,i,a,st,n,h,hc,k⟩:=B.ex
 have:c = c':=head_inj hd ⟨_,h⟩
 subst this
 have ncb:c≠b:=Yu h hc
 refine ⟨_,⟨ns,i,a,st,n,rfl,k⟩,⟨_,h, .cons (.p (ZV nc hc)) (.cons (.p (.int _)) (.cons (.p (.int _)) (.cons (.p (.int _)) (.cons (.p (.int _)) .nil))))⟩,_,h,fun H' e f => ⟨_,e, .cons (.p (ZV nc (f _ _ hc ncb))) (.cons (.p (.int _)) (.cons (.p (.int _)) (.cons (.p (.int _)) (.cons (.p (.int _)) .nil))))⟩⟩
theorem ok_drawU {f:Addr} {fd:FuncData} (F:Fun K "_law_draw" "_law_draw" VG f fd) (N:Nms mg):FnOk P w K mg base CX0 1 f fd ["bag", "many"] (spU Qb):=by
 refine (ok_draw2 F N).imp fun vs H Q E h => ?_
 obtain ⟨A,ι,M,us,Qu,w1,r,⟨k,o,many,rfl,em,hb,h0,h1,q⟩,kk⟩:=h
 cases r with
 | cons r1 r =>
 cases r with
 | cons r2 r =>
 cases r
 cases r2 with
 | p r2 =>
 cases r2
 cases r1 with
 | m ek =>
 rename_i b
 have ro:=w1.obj k b o ek em
 obtain ⟨B,c,hd,nc,ns,hcs⟩:=bag_obj hb ro
 refine ⟨b,many,rfl,B,h0,h1,fun found H' f0 f1 B' fr hdk => ?_⟩
 have hd':=hdk c hd
 have hmem:=List.mem_of_getElem? ek
 obtain ⟨o',hb',ro',x,hx,_⟩:=Xd (A:=A) (ι:=ι) B' hd' nc
 have eH:H' = L2.upd H b x:=by
  funext y
  by_cases z:y = b
  ·subst z; rw [L2.upd_same]; exact hx
  ·rw [L2.upd_ne z]; exact fr y z
 subst eH
 exact kk _ _ ι _ _ (.put hmem) (w1.put ek ro') (.p (.int _)) (q found o' f0 f1 hb')
theorem up1 {a:T} {R:T→Prop}:(∃ t,U.p a = .p t∧R t) = R a:=propext ⟨fun ⟨_,e,h⟩ => by cases e; exact h,fun h => ⟨a,rfl,h⟩⟩
theorem jK {k:Nat} {ts:List T} {ρ0:UEnv} {M:MM} {ug:UG} {ut:UT} {ua:UE} {Q:UK} (hz:ts.length≤sizeLine) (Iv:Nat→List T→MM→Prop) (h0:Iv 0 [] M) (hk:∀ i acc M2,Iv i acc M2→M2[k]? = some (.lst (ts.map U.p))) (hs:∀ i t acc M2,ts[i]? = some t→acc.length≤i→Iv i acc M2→ug (.p t) ρ0 M2 fun ρ4 M4 => ut ρ4 M4 fun b M5 => if b = true then ua ρ4 M5 fun z M6 => ∃ t,z = .p t∧Iv (i + 1) (acc ++ [t]) M6 else Iv (i + 1) acc M5) (hd:∀ acc M2,Iv ts.length acc M2→Q (.p (.lst acc)) M2):UComp (itU (.m k) (ts.map U.p)) ug ut ua ρ0 M Q:=by
 refine ⟨by simpa [itU] using hz,Iv,h0,fun i acc M2 hi ha h => ⟨by show qM M2 (.m k) = _; simp [qM,hk i acc M2 h],fun u hu => ?_⟩,fun acc M2 h => ⟨by show qM M2 (.m k) = _; simp [qM,hk _ acc M2 h],hd acc M2 (by simpa [itU] using h)⟩⟩
 have hu:(ts.map U.p)[i]? = some u:=hu
 rw [List.getElem?_map] at hu
 cases e:ts[i]? with
 | none => rw [e] at hu; cases hu
 | some t => rw [e] at hu; cases hu; exact hs i t acc M2 e ha h
theorem get_map {α β:Type} {f:α→β} {l:List α} {i:Nat} {y:β} (h:(l.map f)[i]? = some y):∃ x,l[i]? = some x∧y = f x:=by
 rw [List.getElem?_map] at h
 cases e:l[i]? with
 | none => rw [e] at h; cases h
 | some n => rw [e] at h; cases h; exact ⟨n,rfl,rfl⟩
theorem t2_at {M:MM} {u a b:U} {R:U→U→Prop} (h:zb M u = some [a,b]) (q:R a b):T2S M u R:=⟨a,b,h,q⟩
theorem t3_at {M:MM} {u a b c:U} {R:U→U→U→Prop} (h:zb M u = some [a,b,c]) (q:R a b c):T3S M u R:=⟨a,b,c,h,q⟩
theorem slm_at {M:MM} {k:Nat} {ts:List T} {l h:Option Int} {Q:UK} (e:M[k]? = some (.lst (ts.map U.p))) (q:Q (.p (.lst (cutT ts l h))) M):SlS M (.m k) l h Q:=⟨ts,by simp [sn,e],q⟩
theorem useq {a b:US} {E:UEnds} {ρ:UEnv} {M:MM} (h:a { E with nx:=b E } ρ M):uSeq a b E ρ M:=h
local macro_rules | `(tactic| walk_at "us") => `(tactic| simp only [xi,uSeq,uNext,uAsg,Xf,Zv,Zu,rd_var,Jn,uC,uCons,uNil,rd_op,rd_opS,rd_sI,rd_sI0,rd_eqI,rd_neI,rd_eqS,rd_neS,rd_eqB,rd_neB,uIsN,Q6,JE,rd_blS,rd_neg,JK,rd_b,JL,rd_orV,Jx,uAnd,uOr,uNot,uIf,Zy,rd_chP,rd_ch,Ju,Jt,VH,rd_tup,rd_lst,uNew,uNewT,rd_ix,Jp,Jo,rd_cb,JM,Jy,JA,JG,JF,rd_len,JC,rd_sl,rd_slS,Jv,QD,rd_cat,rd_str,JD,Zx,Jq,uFor,uComp,Kq,rd_t2,rd_t3,ZC,ZB,Zz,rd_me,rd_app,uDrop,uRet,uRetN,uIfS,uYes,ss,uIsi,uIsi2,isU,isT,uIxK,uInK,vt,uDNew,rd_din,JI,JH,Zw,rd_sub,rd_par,Jw,rd_p2,rd_p3,Zt,rd_t4,rd_fld,QF,Jz,JB,QC,Bool.or_true,Bool.true_or,Bool.or_false,Bool.false_or,uIfC,ZU,ZR,rd_rev,Jr,up1,K2,frzN_p,MO.lst.injEq,JJ,Qr,MB_new,MB_len,MB_get,MB_set,Option.some.injEq,List.map_cons,List.map_nil,List.length_cons,List.length_nil,List.replicate,List.append_nil,List.nil_append,List.cons_append,List.getElem?_cons_zero,List.getElem?_cons_succ,List.set_cons_zero,List.set_cons_succ,List.zip_cons_cons,List.zip_nil_left,List.zip_nil_right,Bool.false_eq_true,if_true,if_false,decide_eq_true_eq,decide_true,decide_false,Bool.not_true,Bool.not_false,true_and,and_true,Nat.reduceAdd,Nat.reduceSub,Nat.zero_add,exists_eq_left'])
local macro_rules | `(tactic| walk_at "u") => `(tactic| repeat (first | walk_at "us" | refine vU rfl ?_ | refine vU at0 ?_ | refine vU at1 ?_ | refine ixt_at rfl ?_ | refine t2_at rfl ?_ | refine t3_at rfl ?_ | refine me_at rfl ?_ | refine kP rfl ?_ | refine me_at zH ?_ | refine kP zH ?_))
local macro_rules | `(tactic| walk_at "vs") => `(tactic| simp only [xi,uNext,uAsg,Xf,Zv,Zu,rd_var,Jn,uC,uCons,uNil,rd_op,rd_opS,rd_sI,rd_sI0,rd_eqI,rd_neI,rd_eqS,rd_neS,rd_eqB,rd_neB,uIsN,Q6,JE,rd_blS,rd_neg,JK,rd_b,JL,rd_orV,Jx,uAnd,uOr,uNot,uIf,Zy,rd_chP,rd_ch,Ju,Jt,VH,rd_tup,rd_lst,uNew,uNewT,rd_ix,Jp,Jo,rd_cb,JM,Jy,JA,JG,JF,rd_len,JC,rd_sl,rd_slS,Jv,QD,rd_cat,rd_str,JD,Zx,Jq,uFor,uComp,Kq,rd_t2,rd_t3,ZC,ZB,Zz,rd_me,rd_app,uDrop,uRet,uRetN,uIfS,uYes,ss,uIsi,uIsi2,isU,isT,uIxK,uInK,vt,uDNew,rd_din,JI,JH,Zw,rd_sub,rd_par,Jw,rd_p2,rd_p3,Zt,rd_t4,rd_fld,QF,Jz,JB,QC,Bool.or_true,Bool.true_or,Bool.or_false,Bool.false_or,uIfC,ZU,ZR,rd_rev,Jr,up1,K2,frzN_p,MO.lst.injEq,JJ,Qr,MB_new,MB_len,MB_get,MB_set,Option.some.injEq,List.map_cons,List.map_nil,List.length_cons,List.length_nil,List.replicate,List.append_nil,List.nil_append,List.cons_append,List.getElem?_cons_zero,List.getElem?_cons_succ,List.set_cons_zero,List.set_cons_succ,List.zip_cons_cons,List.zip_nil_left,List.zip_nil_right,Bool.false_eq_true,if_true,if_false,decide_eq_true_eq,decide_true,decide_false,Bool.not_true,Bool.not_false,true_and,and_true,Nat.reduceAdd,Nat.reduceSub,Nat.zero_add,exists_eq_left'])
local macro_rules | `(tactic| walk_at "v") => `(tactic| repeat (first | with_reducible refine useq ?_ | walk_at "vs" | ((with_reducible refine gdIx ?_); first | refine vU rfl ?_ | refine vU at0 ?_ | refine vU at1 ?_ | refine ixt_at rfl ?_) | ((with_reducible refine gdT2 ?_); refine t2_at rfl ?_) | ((with_reducible refine gdT3 ?_); refine t3_at rfl ?_) | ((with_reducible refine gdMe ?_); first | refine me_at rfl ?_ | refine me_at zH ?_) | ((with_reducible refine gdLen ?_); first | refine kP rfl ?_ | refine kP zH ?_)))
abbrev Mk3:=Str × Int × Int
def on (word:Int) (m:Mk3):Bool:=decide (word % 2 ^ m.2.1.toNat = m.2.2)
def Wd (ms:List Mk3):Prop:=∀ m ∈ ms,0≤m.2.1∧m.2.1≤1000
theorem vz (k:Nat):(0:Int) < 2 ^ k:=Int.pow_pos (by decide)
theorem vi {α:Type} {l:List α} {i:Nat} {x:α} (h:l[i]? = some x):l.take (i + 1) = l.take i ++ [x]:=by
 obtain ⟨hi,e⟩:=List.getElem?_eq_some_iff.mp h
 rw [List.take_succ_eq_append_getElem hi,e]
def OfKind (ms:List Mk3) (kind:Str) (m:Mk3):Prop:=∃ rest,ms.filter (fun m => decide (m.1 = kind)) = m :: rest
def ke:List Str:=["small", "far", "pair", "sign", "one"]
abbrev Nd:=Int × Int
def Disj (a b:Nd):Prop:=∀ x:Int,¬ (x % 2 ^ a.1.toNat = a.2∧x % 2 ^ b.1.toNat = b.2)
theorem Disj.symm {a b:Nd} (h:Disj a b):Disj b a:=fun x ⟨p,q⟩ => h x ⟨q,p⟩
def NdOk (a:Nd):Prop:=0≤a.1∧a.1≤60∧0≤a.2∧a.2 < 2 ^ a.1.toNat
theorem jv {x:Int} {a b:Nat} (h:a≤b):x % 2 ^ b % 2 ^ a = x % 2 ^ a:=by
 refine Int.emod_emod_of_dvd x ?_
 obtain ⟨c,rfl⟩:=Nat.exists_eq_add_of_le h
 exact ⟨2 ^ c,Int.pow_add ..⟩
def zY (a:Nd) (s:Int):Nd:=(a.1 + 1,a.2 + s * 2 ^ a.1.toNat)
theorem Yk {a:Nd} {s x:Int} (ha:NdOk a) (h:x % 2 ^ (zY a s).1.toNat = (zY a s).2):x % 2 ^ a.1.toNat = a.2:=by
 have e:(zY a s).1.toNat = a.1.toNat + 1:=by show (a.1 + 1).toNat = _; have:=ha.1; omega
 rw [e] at h
 rw [← jv (Nat.le_succ a.1.toNat),h]
 show (a.2 + s * 2 ^ a.1.toNat) % 2 ^ a.1.toNat = a.2
 rw [Int.mul_comm,Int.add_mul_emod_self_left]
 exact Int.emod_eq_of_lt ha.2.2.1 ha.2.2.2
theorem kz {a b:Nd} {s:Int} (ha:NdOk a) (h:Disj a b):Disj (zY a s) b:=fun x ⟨p,q⟩ => h x ⟨Yk ha p,q⟩
theorem Yj {a:Nd} {s t:Int} (hs:s≠t):Disj (zY a s) (zY a t):=fun x ⟨p,q⟩ => by
 rw [show (zY a t).1 = (zY a s).1 from rfl,p] at q
 have:(a.2 + s * 2 ^ a.1.toNat) = a.2 + t * 2 ^ a.1.toNat:=q
 have h2:s * 2 ^ a.1.toNat = t * 2 ^ a.1.toNat:=by omega
 exact hs (Int.eq_of_mul_eq_mul_right (Int.ne_of_gt (vz _)) h2)
theorem Z7 {a:Nd} {s:Int} (ha:NdOk a) (h59:a.1≤59) (hs:s = 0∨s = 1):NdOk (zY a s):=by
 obtain ⟨h1,h2,h3,h4⟩:=ha
 have e:(a.1 + 1).toNat = a.1.toNat + 1:=by omega
 refine ⟨by show 0≤a.1 + 1; omega,by show a.1 + 1≤60; omega, ?_, ?_⟩
 ·show 0≤a.2 + s * 2 ^ a.1.toNat
  have:=vz a.1.toNat
  rcases hs with rfl | rfl <;> omega
 ·show a.2 + s * 2 ^ a.1.toNat < 2 ^ (a.1 + 1).toNat
  rw [e,Int.pow_succ]
  rcases hs with rfl | rfl <;> omega
theorem disj_of {a b:Nd} (h:a.2 % 2 ^ (min a.1.toNat b.1.toNat)≠b.2 % 2 ^ (min a.1.toNat b.1.toNat)):Disj a b:=fun x ⟨p,q⟩ => by
 refine h ?_
 rw [← p, ← q,jv (Nat.min_le_left _ _),jv (Nat.min_le_right _ _)]
theorem km {α:Type}:∀ {l:List α} {i:Nat} {x:α},l[i]? = some x→l.Perm (x :: l.eraseIdx i)
 | [],_,_,h => by simp at h
 | y :: l,0,x,h => by simp at h; subst h; simp
 | y :: l,i + 1,x,h => by
  have:=km (l:=l) (i:=i) (x:=x) (by simpa using h)
  exact (List.Perm.cons y this).trans (List.Perm.swap ..)
def need (kind:Str):Int:=if kind = "sign" then 7 else if kind = "small" then 2 else if kind = "one" then 2 else 3
structure Right (bits:Int) (ms:List Mk3):Prop where
 b:8≤bits∧bits≤32
 n:ms.length = 5
 k:(ms.map (·.1)).Perm ke
 w:∀ m ∈ ms,1≤m.2.1∧m.2.1≤bits - need m.1
 p:∀ m ∈ ms,0≤m.2.2∧m.2.2 < 2 ^ m.2.1.toNat
 d:ms.Pairwise fun m m' => Disj m.2 m'.2
theorem zE (k:Str):2≤need k:=by unfold need; split <;> (try split) <;> (try split) <;> decide
theorem Right.wd {bits:Int} {ms:List Mk3} (r:Right bits ms):Wd ms:=fun m hm => by
 have:=r.w m hm
 have h2:=zE m.1
 have:=r.b
 omega
theorem Right.kind {bits:Int} {ms:List Mk3} (r:Right bits ms) {kind:Str} (h:kind ∈ ke):∃ m,OfKind ms kind m:=by
 have:kind ∈ ms.map (·.1):=r.k.mem_iff.mpr h
 obtain ⟨m,hm,e⟩:=List.mem_map.mp this
 cases q:ms.filter (fun m => decide (m.1 = kind)) with
 | nil =>
  have:m ∈ ms.filter (fun m => decide (m.1 = kind)):=List.mem_filter.mpr ⟨hm,by simp [e]⟩
  rw [q] at this; cases this
 | cons m0 rest => exact ⟨m0,rest,q⟩
theorem Right.of_perm {bits:Int} {ms ns:List Mk3} (r:Right bits ms) (h:ms.Perm ns):Right bits ns :=
 ⟨r.b,h.length_eq.symm.trans r.n,(h.map _).symm.trans r.k,fun m hm => r.w m (h.mem_iff.mpr hm),fun m hm => r.p m (h.mem_iff.mpr hm),(h.pairwise_iff fun h => h.symm).mp r.d⟩
theorem log2_lt {n:Int} (h0:0 < n) (h1:n < 2 ^ 62):n.natAbs.log2 < 9000:=by
 have:n.natAbs.log2 < 62:=(Nat.log2_lt (by omega)).mpr (by omega)
 omega
def T0:List Nd:=[(1,0),(2,1),(3,3),(4,7),(4,15)]
def T1:List Nd:=[(1,0),(3,1),(3,3),(3,5),(3,7)]
def T2:List Nd:=[(2,0),(2,1),(2,2),(3,3),(3,7)]
def Tbl (bits:Int) (t:List Nd):Prop:=t = T0∨t = T1∨(t = T2∧9≤bits)
def xm (mask:Int) (n:Nd):Nd:=(n.1,Builtin.bitXor n.2 mask % 2 ^ n.1.toNat)
def fm (mask:Int) (o:Str) (n:Nd):Mk3:=(o,xm mask n)
def cnt (bits:Int) (t:List Nd):Nat:=(t.filter fun n => decide (n.1≤bits - 7)).length
theorem cnt_pos {bits:Int} {t:List Nd} (hb:8≤bits) (h:Tbl bits t):0 < cnt bits t:=by
 unfold cnt
 refine List.length_pos_iff.mpr fun e => ?_
 rcases h with rfl | rfl | ⟨rfl,h9⟩
 ·have:((1,0):Nd) ∈ T0.filter fun n => decide (n.1≤bits - 7):=List.mem_filter.mpr ⟨by decide,by simp; omega⟩
  rw [e] at this; cases this
 ·have:((1,0):Nd) ∈ T1.filter fun n => decide (n.1≤bits - 7):=List.mem_filter.mpr ⟨by decide,by simp; omega⟩
  rw [e] at this; cases this
 ·have:((2,0):Nd) ∈ T2.filter fun n => decide (n.1≤bits - 7):=List.mem_filter.mpr ⟨by decide,by simp; omega⟩
  rw [e] at this; cases this
theorem kD {bits:Int} {t:List Nd} (h:Tbl bits t):t.length = 5:=by rcases h with rfl | rfl | ⟨rfl,_⟩ <;> rfl
theorem tbl_w {bits:Int} {t:List Nd} (h:Tbl bits t):∀ n ∈ t,1≤n.1∧n.1≤4:=by rcases h with rfl | rfl | ⟨rfl,_⟩ <;> decide
theorem tbl_sign {bits:Int} {t:List Nd} (hb:8≤bits) (h:Tbl bits t) {at':Nat} (ha:at' < cnt bits t) {n:Nd} (hn:t[at']? = some n):n.1≤bits - 7:=by
 by_cases h11:11≤bits
 ·have:=(tbl_w h n (List.mem_of_getElem? hn)).2
  omega
 ·have hl:at' < 5:=by
   have:=(List.getElem?_eq_some_iff.mp hn).1
   rw [kD h] at this
   exact this
  have key:∀ b ∈ ([8,9,10]:List Int),∀ t ∈ [T0,T1,T2],∀ i ∈ List.range 5,i < cnt b t→∀ n ∈ t[i]?,n.1≤b - 7:=by decide +kernel
  have hbm:bits ∈ ([8,9,10]:List Int):=by
   rcases (show bits = 8∨bits = 9∨bits = 10 by omega) with rfl | rfl | rfl <;> decide
  have htm:t ∈ [T0,T1,T2]:=by rcases h with rfl | rfl | ⟨rfl,_⟩ <;> simp
  exact key bits hbm t htm at' (List.mem_range.mpr hl) ha n hn
theorem tbl_disj {bits mask:Int} {t:List Nd} (h:Tbl bits t) (m0:0≤mask) (m1:mask < 16):(t.map (xm mask)).Pairwise Disj:=by
 have key:∀ k ∈ List.range 16,∀ t ∈ [T0,T1,T2],(t.map (xm (k:Int))).Pairwise fun a b => a.2 % 2 ^ (min a.1.toNat b.1.toNat)≠b.2 % 2 ^ (min a.1.toNat b.1.toNat):=by decide +kernel
 obtain ⟨k,rfl⟩:∃ k:Nat,mask = (k:Int):=⟨mask.toNat,by omega⟩
 have htm:t ∈ [T0,T1,T2]:=by rcases h with rfl | rfl | ⟨rfl,_⟩ <;> simp
 exact (key k (List.mem_range.mpr (by omega)) t htm).imp fun h => disj_of h
def four:List Str:=["small", "far", "pair", "one"]
theorem Kk {k:Str} (h:k ≠ "sign"):need k≤3:=by unfold need; rw [if_neg h]; split <;> (try split) <;> decide
theorem jH {mask:Int}:∀ {os:List Str} {t:List Nd},os.length = t.length→(List.zipWith (fm mask) os t).map (·.2) = t.map (xm mask)
 | [], [],_ => rfl
 | o :: os,n :: t,h => by
  have:=jH (mask:=mask) (os:=os) (t:=t) (by simpa using h)
  simp only [List.zipWith_cons_cons,List.map_cons,this]; rfl
theorem jI {mask:Int}:∀ {os:List Str} {t:List Nd},os.length = t.length→(List.zipWith (fm mask) os t).map (·.1) = os
 | [], [],_ => rfl
 | o :: os,n :: t,h => by
  have:=jI (mask:=mask) (os:=os) (t:=t) (by simpa using h)
  simp only [List.zipWith_cons_cons,List.map_cons,this]; rfl
theorem XS {bits mask:Int} {t:List Nd} {ks:List Str} {at':Nat} (hb:8≤bits∧bits≤32) (h:Tbl bits t) (m0:0≤mask) (m1:mask < 16) (hk:ks.Perm four) (ha:at' < cnt bits t) (ha4:at'≤4) :
  Right bits (List.zipWith (fm mask) (ks.take at' ++ (["sign"]:List Str) ++ ks.drop at') t):=by
 have hk4:ks.length = 4:=hk.length_eq
 have hol:(ks.take at' ++ (["sign"]:List Str) ++ ks.drop at').length = t.length:=by
  rw [kD h]; simp only [List.length_append,List.length_take,List.length_drop,List.length_cons,List.length_nil]; omega
 have hns:∀ k ∈ ks,k ≠ "sign" := fun k hkm => by
  have:k ∈ four:=hk.mem_iff.mp hkm
  intro e; subst e; exact absurd this (by decide +kernel)
 have hget:∀ m ∈ List.zipWith (fm mask) (ks.take at' ++ (["sign"]:List Str) ++ ks.drop at') t,∃ i o n,(ks.take at' ++ (["sign"]:List Str) ++ ks.drop at')[i]? = some o∧t[i]? = some n∧m = fm mask o n:=fun m hm => by
  obtain ⟨i,hi⟩:=List.mem_iff_getElem?.mp hm
  rw [List.getElem?_zipWith_eq_some] at hi
  obtain ⟨o,n,h1,h2,h3⟩:=hi
  exact ⟨i,o,n,h1,h2,h3.symm⟩
 refine ⟨hb, ?_, ?_,fun m hm => ?_,fun m hm => ?_, ?_⟩
 ·rw [List.length_zipWith,hol,Nat.min_self,kD h]
 ·rw [jI hol]
  have p1:(ks.take at' ++ (["sign"]:List Str) ++ ks.drop at').Perm ("sign" :: (ks.take at' ++ ks.drop at')):=by
   rw [List.append_assoc]; exact List.perm_middle
  rw [List.take_append_drop] at p1
  exact p1.trans ((List.Perm.cons _ hk).trans (by decide +kernel))
 ·obtain ⟨i,o,n,h1,h2,rfl⟩:=hget m hm
  have hw:=tbl_w h n (List.mem_of_getElem? h2)
  show 1≤n.1∧n.1≤bits - need o
  by_cases ho:o = "sign"
  ·have hi:i = at':=by
    have hl:(ks.take at').length = at':=by simp; omega
    rcases Nat.lt_trichotomy i at' with z | z | z
    ·rw [List.append_assoc,List.getElem?_append_left (by omega)] at h1
     have:o ∈ ks:=List.mem_of_mem_take (List.mem_of_getElem? h1)
     exact absurd ho (hns o this)
    ·exact z
    ·rw [List.getElem?_append_right (by simp; omega)] at h1
     have:o ∈ ks:=List.mem_of_mem_drop (List.mem_of_getElem? h1)
     exact absurd ho (hns o this)
   subst hi
   have:=tbl_sign hb.1 h ha h2
   rw [ho]
   have e7:need "sign" = 7:=by decide +kernel
   rw [e7]; omega
  ·have:=Kk ho
   omega
 ·obtain ⟨i,o,n,h1,h2,rfl⟩:=hget m hm
  exact ⟨Int.emod_nonneg _ (Int.ne_of_gt (vz _)),Int.emod_lt_of_pos _ (vz _)⟩
 ·have:=tbl_disj h m0 m1
  rw [← jH hol,List.pairwise_map] at this
  exact this
def L0:List Str:=["small", "far", "pair", "one"]
def L1:List Str:=["far", "one", "small", "pair"]
def rot (L:List Str) (α:Nat):List Str:=((L ++ L).drop α).take 4
theorem rot_perm {L:List Str} {α:Nat} (h:L = L0∨L = L1) (ha:α < 4):(rot L α).Perm four:=by
 have key:∀ L ∈ [L0,L1],∀ α ∈ List.range 4,(rot L α).Perm four:=by decide +kernel
 exact key L (by rcases h with rfl | rfl <;> simp) α (List.mem_range.mpr ha)
structure LInv (bits:Int) (KS:List Str) (i:Nat) (ns:List Nd) (ms:List Mk3):Prop where
 ok:∀ n ∈ ns,NdOk n
 low:∃ n ∈ ns,n.1≤i
 len:ns.length≤1 + 31 * i
 kinds:ms.map (·.1) = KS.take i
 w:∀ m ∈ ms,1≤m.2.1∧m.2.1≤bits - need m.1
 p:∀ m ∈ ms,NdOk m.2
 d:(ns ++ ms.map (·.2)).Pairwise Disj
structure WInv (i:Nat) (w0:Int) (c:Nd) (ns:List Nd) (ms:List Mk3):Prop where
 cok:NdOk c
 w:w0≤c.1
 ok:∀ n ∈ ns,NdOk n
 low:(∃ n ∈ ns,n.1≤i + 1)∨(c.1 = w0∧w0≤i)
 len:(ns.length:Int)≤31 * i + c.1
 d:(c :: (ns ++ ms.map (·.2))).Pairwise Disj
theorem LInv.pick {bits:Int} {KS:List Str} {i j:Nat} {ns:List Nd} {ms:List Mk3} {n:Nd} (h:LInv bits KS i ns ms) (hj:ns[j]? = some n):WInv i n.1 n (ns.eraseIdx j) ms:=by
 have hp:=km hj
 have hn:n ∈ ns:=List.mem_of_getElem? hj
 have hl:=hp.length_eq
 have:=h.len
 have hok:=h.ok n hn
 refine ⟨hok,Int.le_refl _,fun m hm => h.ok m (List.mem_of_mem_eraseIdx hm), ?_, ?_, ?_⟩
 ·obtain ⟨m,hm,hw⟩:=h.low
  rcases List.mem_cons.mp (hp.mem_iff.mp hm) with rfl | z
  ·exact .inr ⟨rfl,hw⟩
  ·exact .inl ⟨m,z,by omega⟩
 ·have:=hok.1
  simp only [List.length_cons] at hl
  omega
 ·exact ((hp.append_right (ms.map (·.2))).pairwise_iff fun h => h.symm).mp h.d
theorem WInv.step {i:Nat} {w0:Int} {c:Nd} {ns:List Nd} {ms:List Mk3} {s:Int} (h:WInv i w0 c ns ms) (hs:s = 0∨s = 1) (h59:c.1≤59):WInv i w0 (zY c s) (ns ++ [zY c (1 - s)]) ms:=by
 have hs':1 - s = 0∨1 - s = 1:=by omega
 obtain ⟨dc,dr⟩:=List.pairwise_cons.mp h.d
 have cw:(zY c s).1 = c.1 + 1:=rfl
 refine ⟨Z7 h.cok h59 hs,by rw [cw]; have:=h.w; omega,fun n hn => ?_, ?_, ?_, ?_⟩
 ·rcases List.mem_append.mp hn with z | z
  ·exact h.ok n z
  ·rw [List.mem_singleton.mp z]; exact Z7 h.cok h59 hs'
 ·rcases h.low with ⟨n,hn,hw⟩ | ⟨e,hw⟩
  ·exact .inl ⟨n,List.mem_append_left _ hn,hw⟩
  ·exact .inl ⟨zY c (1 - s),List.mem_append_right _ (List.mem_singleton.mpr rfl),by show c.1 + 1≤_; omega⟩
 ·have:=h.len
  rw [cw,List.length_append,List.length_singleton]
  push_cast; omega
 ·have p1:(zY c s :: (ns ++ [zY c (1 - s)] ++ ms.map (·.2))).Perm (zY c s :: zY c (1 - s) :: (ns ++ ms.map (·.2))):=by
   refine List.Perm.cons _ ?_
   rw [List.append_assoc]
   exact List.perm_middle
  refine (p1.pairwise_iff fun h => h.symm).mpr ?_
  refine List.pairwise_cons.mpr ⟨fun n hn => ?_,List.pairwise_cons.mpr ⟨fun n hn => kz h.cok (dc n hn),dr⟩⟩
  rcases List.mem_cons.mp hn with rfl | z
  ·exact Yj (by omega)
  ·exact kz h.cok (dc n z)
theorem WInv.fin {bits w0 goal:Int} {KS:List Str} {kind:Str} {i:Nat} {c:Nd} {ns ns0:List Nd} {ms:List Mk3} (h:WInv i w0 c ns ms) (h0:LInv bits KS i ns0 ms) (hk:KS[i]? = some kind) (hg:c.1 = goal) (hw:w0 < goal) (h1:1≤goal) (h2:goal≤bits - need kind) (h31:goal≤31) :
  LInv bits KS (i + 1) ns (ms ++ [(kind,c)]):=by
 have hl:=h.len
 refine ⟨h.ok, ?_, ?_, ?_,fun m hm => ?_,fun m hm => ?_, ?_⟩
 ·rcases h.low with ⟨n,hn,hw'⟩ | ⟨e,_⟩
  ·exact ⟨n,hn,by push_cast; exact hw'⟩
  ·omega
 ·omega
 ·rw [List.map_append,h0.kinds,vi hk]; rfl
 ·rcases List.mem_append.mp hm with z | z
  ·exact h0.w m z
  ·rw [List.mem_singleton.mp z]; exact ⟨by show 1≤c.1; omega,by show c.1≤bits - need kind; omega⟩
 ·rcases List.mem_append.mp hm with z | z
  ·exact h0.p m z
  ·rw [List.mem_singleton.mp z]; exact h.cok
 ·rw [List.map_append, ← List.append_assoc]
  have p1:(ns ++ ms.map (·.2) ++ [c]).Perm (c :: (ns ++ ms.map (·.2))):=List.perm_append_comm
  exact (p1.pairwise_iff fun h => h.symm).mpr h.d
theorem LInv.right {bits:Int} {KS:List Str} {ns:List Nd} {ms:List Mk3} (h:LInv bits KS 5 ns ms) (hK:KS.Perm ke) (hb:8≤bits∧bits≤32):Right bits ms:=by
 have hl:KS.length = 5:=hK.length_eq
 have hk:ms.map (·.1) = KS:=by rw [h.kinds,List.take_of_length_le (by omega)]
 refine ⟨hb, ?_,by rw [hk]; exact hK,h.w,fun m hm => ⟨(h.p m hm).2.2.1,(h.p m hm).2.2.2⟩, ?_⟩
 ·have:=congrArg List.length hk
  rw [List.length_map,hl] at this
  exact this
 ·have:=(List.pairwise_append.mp h.d).2.1
  rw [List.pairwise_map] at this
  exact this
theorem ks_low {L:List Str} {α i:Nat} {kind:Str} {bits:Int} (hb:8≤bits) (hp:(rot L α).Perm four) (hk:(("sign" : Str) :: rot L α)[i]? = some kind):(i:Int) < bits - need kind∧kind ∈ ke∧i < 5:=by
 have hl:(rot L α).length = 4:=hp.length_eq
 cases i with
 | zero =>
  simp at hk; subst hk
  have e7:need "sign" = 7:=by decide +kernel
  rw [e7]
  exact ⟨by omega,by decide +kernel,by omega⟩
 | succ i =>
  simp at hk
  have hm:kind ∈ four:=hp.mem_iff.mp (List.mem_of_getElem? hk)
  have hi:=(List.getElem?_eq_some_iff.mp hk).1
  have hns:kind ≠ "sign" := fun e => by subst e; exact absurd hm (by decide +kernel)
  have:=Kk hns
  have sub:∀ k ∈ four,k ∈ ke:=by decide +kernel
  exact ⟨by push_cast; omega,sub kind hm,by omega⟩
theorem Z0 {α:Type} [DecidableEq α]:∀ {l:List α} {x:α},x ∈ l→∃ j:Nat,l[j]? = some x∧∀ m:Nat,m < j→l[m]? ≠ some x
 | [],_,h => by cases h
 | y :: l,x,h => by
  by_cases e:y = x
  ·exact ⟨0,by simp [e],fun m hm => by omega⟩
  ·have:x ∈ l:=by
    rcases List.mem_cons.mp h with z | z
    ·exact absurd z.symm e
    ·exact z
   obtain ⟨j,h1,h2⟩:=Z0 this
   refine ⟨j + 1,by simpa using h1,fun m hm => ?_⟩
   cases m with
   | zero => simpa using e
   | succ m => simpa using h2 m (by omega)
theorem OfKind.mem {ms:List Mk3} {kind:Str} {m:Mk3} (h:OfKind ms kind m):m ∈ ms:=by
 obtain ⟨rest,e⟩:=h
 have:m ∈ ms.filter (fun m => decide (m.1 = kind)):=by rw [e]; exact List.mem_cons_self
 exact (List.mem_filter.mp this).1
theorem OfKind.is {ms:List Mk3} {kind:Str} {m:Mk3} (h:OfKind ms kind m):m.1 = kind:=by
 obtain ⟨rest,e⟩:=h
 have:m ∈ ms.filter (fun m => decide (m.1 = kind)):=by rw [e]; exact List.mem_cons_self
 exact of_decide_eq_true (List.mem_filter.mp this).2
def jx (m:Mk3):T:=.tup [.str m.1, .int m.2.1, .int m.2.2]
def layT (bits:Int) (ms:List Mk3):T:=.tup [.int bits, .lst (ms.map jx)]
def ndT (n:Nd):T:=.tup [.int n.1, .int n.2]
def Vy (ks:List Str):T:=.lst (ks.map T.str)
theorem cutT_map {α:Type} {f:α→T} {xs:List α} {a b:Nat} (h1:a≤b) (h2:b≤xs.length):cutT (xs.map f) (some (a:Int)) (some (b:Int)) = ((xs.drop a).take (b - a)).map f:=by
 unfold cutT
 have e1:HT.sIx (xs.map f).length 0 (some (a:Int)) = min a (xs.map f).length:=HT.sIx_nat _ _ a
 have e2:HT.sIx (xs.map f).length (xs.map f).length (some (b:Int)) = min b (xs.map f).length:=HT.sIx_nat _ _ b
 rw [e1,e2]
 simp only [List.length_map]
 rw [Nat.min_eq_left (show a≤xs.length by omega),Nat.min_eq_left h2,List.map_take,List.map_drop]
theorem Vg {α:Type} {f:α→T} {xs:List α} {a:Nat} (h:a≤xs.length):cutT (xs.map f) none (some (a:Int)) = (xs.take a).map f:=by
 unfold cutT
 have e1:HT.sIx (xs.map f).length 0 none = 0:=rfl
 have e2:HT.sIx (xs.map f).length (xs.map f).length (some (a:Int)) = min a (xs.map f).length:=HT.sIx_nat _ _ a
 rw [e1,e2]
 simp only [List.length_map,List.drop_zero,Nat.sub_zero,Nat.min_eq_left h,List.map_take]
theorem Vh {α:Type} {f:α→T} {xs:List α} {a:Nat} (h:a≤xs.length):cutT (xs.map f) (some (a:Int)) none = (xs.drop a).map f:=by
 unfold cutT
 have e1:HT.sIx (xs.map f).length 0 (some (a:Int)) = min a (xs.map f).length:=HT.sIx_nat _ _ a
 have e2:HT.sIx (xs.map f).length (xs.map f).length none = (xs.map f).length:=rfl
 rw [e1,e2]
 simp only [List.length_map,Nat.min_eq_left h]
 rw [List.take_of_length_le (by simp),List.map_drop]
theorem atT {α:Type} {f:α→T} {xs:List α} {i:Nat} {x:α} (h:xs[i]? = some x):atI (xs.map f) (i:Int) = some (f x):=xt (by rw [List.getElem?_map,h]; rfl)
abbrev vZ:Stmt:=top 50
theorem scFullLaying:FnScope ["bag", "bits", "order", "rows", "some", "mask", "at"] ["bag", "bits", "order"] (qc vZ):=⟨rfl,rfl,rfl,by decide +kernel,rfl,by decide +kernel,by decide +kernel⟩
theorem kO:(["bag", "bits", "order", "rows", "some", "mask", "at", "one"]:List Str).Nodup:=by decide +kernel
theorem kN:(["bag", "bits", "order", "rows", "some", "mask", "at", "k"]:List Str).Nodup:=by decide +kernel
def gFull:List U→MM→UK→Prop:=fun us M Q => ∃ (k:Nat) (o:MO) (bits:Int) (ks:List Str),us = [.m k, .p (.int bits), .p (Vy ks)]∧M[k]? = some o∧BagO o∧ks.Perm four∧(8≤bits∧bits≤32)∧∀ (o':MO) (ms:List Mk3),BagO o'→Right bits ms→Q (.p (layT bits ms)) (M.set k o')
theorem ok_fullU {f:Addr} {fd:FuncData} (F:Fun K "_law_full_laying" "_law_full_laying" vZ f fd) (N:Nms mg) (DDraw:Def P w K mg base "_law_draw" 1 ["bag", "many"] (spU Qb)):FnOk P w K mg base CX0 2 f fd ["bag", "bits", "order"] (spU gFull):=by
 refine F.zV scFullLaying (fun us M Qu h => ?_) (fun cdv A outer s H E hr => ?_)
 ·obtain ⟨_,_,_,_,rfl,_⟩:=h
  rfl
 refine ⟨_,(qi (qH (i:=3) scFullLaying.nd rfl (Or.inl rfl) (vg (qa_c (vg (qa_c (qX (qa_c qd (qa_c qd qe))) (qa_c (qX (qa_c qd (qa_c qd qe))) (qa_c (qX (qa_c qd (qa_c qd qe))) (qa_c (qX (qa_c qd (qa_c qd qe))) (qa_c (qX (qa_c qd (qa_c qd qe))) qe)))))) (qa_c (vg (qa_c (qX (qa_c qd (qa_c qd qe))) (qa_c (qX (qa_c qd (qa_c qd qe))) (qa_c (qX (qa_c qd (qa_c qd qe))) (qa_c (qX (qa_c qd (qa_c qd qe))) (qa_c (qX (qa_c qd (qa_c qd qe))) qe)))))) qe))))
  (qi (zo (qe_lm PySem.F.slot_list_append PySem.F.type_list_append jc (qv 3) (qa_c (vg (qa_c (qX (qa_c qd (qa_c qd qe))) (qa_c (qX (qa_c qd (qa_c qd qe))) (qa_c (qX (qa_c qd (qa_c qd qe))) (qa_c (qX (qa_c qd (qa_c qd qe))) (qa_c (qX (qa_c qd (qa_c qd qe))) qe)))))) qe)))
  (qi (qH (i:=4) scFullLaying.nd rfl (Or.inr rfl) (qC (qm (K:=K) rfl) (qv 3) (qo DDraw (hr.mono (by first | decide | exact Nat.le_refl _)) (qa_c (qv 0) (qa_c (qw vM qd (ja Yr (by rfl) N.int XY (qa_c (xl op_gt (qv 1) qd (qK _)) qe))) qe))) (fun _ _ => rfl)))
  (qi (qH (i:=5) scFullLaying.nd rfl (Or.inr rfl) (qo DDraw (hr.mono (by first | decide | exact Nat.le_refl _)) (qa_c (qv 0) (qa_c qd qe))))
  (qi (qH (i:=6) scFullLaying.nd rfl (Or.inl rfl) (qo DDraw (hr.mono (by first | decide | exact Nat.le_refl _)) (qa_c (qv 0) (qa_c (qN jk (by rfl) N.len Yx (qa_c (j7 [false,true,false,false,false,false,false] ["one"] (vP (K:=K) rfl (qv 4)) (fun _ _ _ => (v5 (i:=7) kO rfl (Or.inl rfl))) (fun _ _ _ => jP (qJ op_le (qC (qL (K:=K) rfl) (qv 7) qd (fun _ _ => rfl)) (qw vL (qv 1) qd) (qK _))) (fun _ _ _ => (qv 7))) qe)) qe))))
  (qi (qH (i:=2) scFullLaying.nd rfl (Or.inr rfl) (qw ZK (qw ZK (zC (zA (K:=K) rfl) (qv 2) js (zD (qv 6))) (vg (qa_c qy qe))) (zC (zA (K:=K) rfl) (qv 2) (zD (qv 6)) js)))
  (qk (qx (qX (qa_c (qv 1) (qa_c (j7 [false,false,true,false,true,true,false] ["k"] (x3 rfl N.range (qa_c qd qe)) (fun _ _ _ => (v5 (i:=7) kN rfl (Or.inl rfl))) (fun _ _ _ => jr) (fun _ _ _ => (qX (qa_c (qC (qm (K:=K) rfl) (qv 2) (qv 7) (fun _ _ => rfl)) (qa_c (qC (qL (K:=K) rfl) (qC (qm (K:=K) rfl) (qv 4) (qv 7) (fun _ _ => rfl)) qd (fun _ _ => rfl)) (qa_c (qw xI (qw op_xor (qC (qL (K:=K) rfl) (qC (qm (K:=K) rfl) (qv 4) (qv 7) (fun _ _ => rfl)) qd (fun _ _ => rfl)) (qv 5)) (qw zZ qd (qC (qL (K:=K) rfl) (qC (qm (K:=K) rfl) (qv 4) (qv 7) (fun _ _ => rfl)) qd (fun _ _ => rfl)))) qe)))))) qe))))))))))),_,(ql (qB (Xa (qa (vG (qa (qY (qa (ce_c (.int _)) (qa (ce_c (.int _)) qf))) (qa (qY (qa (ce_c (.int _)) (qa (ce_c (.int _)) qf))) (qa (qY (qa (ce_c (.int _)) (qa (ce_c (.int _)) qf))) (qa (qY (qa (ce_c (.int _)) (qa (ce_c (.int _)) qf))) (qa (qY (qa (ce_c (.int _)) (qa (ce_c (.int _)) qf))) qf)))))) (qa (vG (qa (qY (qa (ce_c (.int _)) (qa (ce_c (.int _)) qf))) (qa (qY (qa (ce_c (.int _)) (qa (ce_c (.int _)) qf))) (qa (qY (qa (ce_c (.int _)) (qa (ce_c (.int _)) qf))) (qa (qY (qa (ce_c (.int _)) (qa (ce_c (.int _)) qf))) (qa (qY (qa (ce_c (.int _)) (qa (ce_c (.int _)) qf))) qf)))))) qf))) (qu 3))
   (ql (zu (ce_me jw (qb 3) (qa (vG (qa (qY (qa (ce_c (.int _)) (qa (ce_c (.int _)) qf))) (qa (qY (qa (ce_c (.int _)) (qa (ce_c (.int _)) qf))) (qa (qY (qa (ce_c (.int _)) (qa (ce_c (.int _)) qf))) (qa (qY (qa (ce_c (.int _)) (qa (ce_c (.int _)) qf))) (qa (qY (qa (ce_c (.int _)) (qa (ce_c (.int _)) qf))) qf)))))) qf)))
   (ql (qB (qZ (qb 3) (qp (qa (qb 0) (qa (qr (qD fun _ _ => .int _) (ce_c (.int _)) (Qi cbl_int (qa (qr (qD fun _ _ => .bl _) (qb 1) (ce_c (.int _))) qf))) qf)))) (qu 4))
   (ql (qB (qp (qa (qb 0) (qa (ce_c (.int _)) qf))) (qu 5))
   (ql (qB (qp (qa (qb 0) (qa (Ym (qa (zG (zW (qb 4)) (zc 7) (qP (qr (qD fun _ _ => .bl _) (vk (qb 7) (ce_c (.int _))) (qr (qD fun _ _ => .int _) (qb 1) (ce_c (.int _))))) (qb 7)) qf)) qf))) (qu 6))
   (ql (qB (qr kK (qr kK (XW (qb 2) Qg (xq (qb 6))) (vG (qa (ce_c (.str _)) qf))) (XW (qb 2) (xq (qb 6)) Qg)) (qu 2))
   (qA (qY (qa (qb 1) (qa (zG (Qh (qa (ce_c (.int _)) qf)) (zc 7) Vi (qY (qa (qZ (qb 2) (qb 7)) (qa (vk (qZ (qb 4) (qb 7)) (ce_c (.int _))) (qa (qr (zS fun _ _ => .int _) (qr (qD fun _ _ => .int _) (vk (qZ (qb 4) (qb 7)) (ce_c (.int _))) (qb 5)) (qr (zS fun _ _ => .int _) (ce_c (.int _)) (vk (qZ (qb 4) (qb 7)) (ce_c (.int _))))) qf))))) qf)))))))))),fun us M M1 Qu e1 h => ?_⟩
 obtain ⟨k,o,bits,ks,rfl,em,hB,hk,hb,post⟩:=h
 obtain ⟨hkl,eM⟩:=Qm em
 rw [e1.trans eM]
 walk_at "u"
 refine ⟨by show 2 < sizeLine; decide, ?_⟩
 have hmany:(2:Int)≤2 + (if 8 < bits then 1 else 0)∧(2:Int) + (if 8 < bits then 1 else 0)≤3:=by split <;> omega
 refine ve hkl hB (by omega) (log2_lt (by omega) (by omega)) fun d o1 d0 d1 B1 => ?_
 have hpick:∃ t,atI [U.p (.lst (T0.map ndT)), .p (.lst (T1.map ndT)), .p (.lst (T2.map ndT))] d = some (.p (.lst (t.map ndT)))∧Tbl bits t:=by
  rcases (show d = 0∨d = 1∨d = 2 by omega) with rfl | rfl | rfl
  ·exact ⟨T0,rfl, .inl rfl⟩
  ·exact ⟨T1,rfl, .inr (.inl rfl)⟩
  ·exact ⟨T2,rfl, .inr (.inr ⟨rfl,by split at d1 <;> omega⟩)⟩
 obtain ⟨t,hat,hT⟩:=hpick
 refine VY (by simp only [qM,MB_get]; rfl) hat ?_
 refine ve hkl B1 (by decide) (by decide) fun mask o2 m0 m1 B2 => ?_
 have ht5:=kD hT
 walk_at "u"
 refine xu (by rw [List.length_map,ht5]; decide) (fun i acc M' => M' = MB M k o2 [MO.lst [U.p (.lst (T0.map ndT)), .p (.lst (T1.map ndT)), .p (.lst (T2.map ndT))]]∧acc = ((t.take i).filter fun n => decide (n.1≤bits - 7)).map ndT) ⟨rfl,rfl⟩ ?_ ?_
 ·rintro i x acc M' hx _ ⟨rfl,rfl⟩
  obtain ⟨n,hn,rfl⟩:∃ n,t[i]? = some n∧x = ndT n:=by
   rw [List.getElem?_map] at hx
   cases e:t[i]? with
   | none => rw [e] at hx; cases hx
   | some n => rw [e] at hx; cases hx; exact ⟨n,rfl,rfl⟩
  walk_at "u"
  rw [vi hn,List.filter_append,List.map_append]
  refine ite2 (fun hh => ?_) (fun hh => ?_) <;> simp [hh]
 ·rintro acc M' ⟨rfl,rfl⟩
  rw [List.length_map,List.take_length]
  walk_at "u"
  have hcl:(((t.filter fun n => decide (n.1≤bits - 7)).map ndT).length:Int) = (cnt bits t:Int):=by rw [List.length_map]; rfl
  rw [hcl]
  have hcp:=cnt_pos hb.1 hT
  have hc5:cnt bits t≤5:=by
   have:=List.length_filter_le (fun n:Nd => decide (n.1≤bits - 7)) t
   rw [ht5] at this
   exact this
  refine ve hkl B2 (by omega) (log2_lt (by omega) (by omega)) fun α o3 α0 α1 B3 => ?_
  obtain ⟨at',rfl⟩:∃ j:Nat,α = (j:Int):=⟨α.toNat,by omega⟩
  have hk4:ks.length = 4:=hk.length_eq
  have ha4:at'≤4:=by omega
  unfold Vy
  walk_at "u"
  rw [Vg (by omega),Vh (by omega)]
  have hright:=XS (mask:=mask) hb hT m0 m1 hk (by omega) ha4
  have hlo:(ks.take at' ++ (["sign"]:List Str) ++ ks.drop at').length = 5:=by simp; omega
  have em2:(ks.take at').map T.str ++ [T.str "sign"] ++ (ks.drop at').map T.str = (ks.take at' ++ (["sign"]:List Str) ++ ks.drop at').map T.str:=by simp
  refine ⟨by simp; exact Nat.le_of_lt (vb (by omega)),by simp; exact Nat.le_of_lt (vb (by omega)),Zr (by decide) (by decide) ?_⟩
  rw [em2]
  generalize ks.take at' ++ (["sign"]:List Str) ++ ks.drop at' = os at hright hlo ⊢
  refine jJ (by decide) (fun i acc M' => M' = MB M k o3 [MO.lst [U.p (.lst (T0.map ndT)), .p (.lst (T1.map ndT)), .p (.lst (T2.map ndT))]]∧acc = ((List.zipWith (fm mask) os t).take i).map jx) ⟨rfl,rfl⟩ ?_ ?_
  ·rintro i acc M' hi _ ⟨rfl,rfl⟩
   have hi5:i < 5:=hi
   have hoi:os[i]? = some (os[i]'(by omega)):=List.getElem?_eq_getElem _
   have hti:t[i]? = some (t[i]'(by omega)):=List.getElem?_eq_getElem _
   have hw:=tbl_w hT _ (List.mem_of_getElem? hti)
   have hz:(List.zipWith (fm mask) os t)[i]? = some (fm mask (os[i]'(by omega)) (t[i]'(by omega))):=by
    rw [List.getElem?_zipWith,hoi,hti]
   walk_at "u"
   refine vU (atT hoi) ?_
   refine vU (atT hti) ?_
   walk_at "u"
   refine vU (atT hti) ?_
   walk_at "u"
   refine vU (atT hti) ?_
   walk_at "u"
   refine ⟨⟨by omega,by omega,by decide⟩, ?_, ?_⟩
   ·rw [Int.one_mul]; exact vz _
   ·rw [vi hz,List.map_append,Int.one_mul]
    rfl
  ·rintro acc M' ⟨rfl,rfl⟩
   have e5:(Int.toNat 5) = (List.zipWith (fm mask) os t).length:=by rw [hright.n] <;> rfl
   rw [e5,List.take_length]
   walk_at "u"
   refine ⟨Qk B3.pur, ?_⟩
   rw [Ql]
   exact post o3 _ B3 hright
abbrev jq:Stmt:=top 51
theorem scLaying:FnScope ["bag", "bits", "kinds", "at", "most", "free", "marks", "kind", "some", "width", "pattern", "goal", "side", "turn"] ["bag"] (qc jq):=⟨rfl,rfl,rfl,by decide +kernel,rfl,by decide +kernel,by decide +kernel⟩
theorem Kl:(["bag", "bits", "kinds", "at", "most", "free", "marks", "kind", "some", "width", "pattern", "goal", "side", "turn", "node"]:List Str).Nodup:=by decide +kernel
def kY:List U→MM→UK→Prop:=fun us M Q => ∃ (k:Nat) (o:MO),us = [.m k]∧M[k]? = some o∧BagO o∧∀ (o':MO) (bits:Int) (ms:List Mk3),BagO o'→Right bits ms→Q (.p (layT bits ms)) (M.set k o')
abbrev QZ (bits:Int):List (Key × U):=[(.inr "sign", .p (.int (bits - 7))),(.inr "small", .p (.int (bits - 2))),(.inr "one", .p (.int (bits - 2))),(.inr "far", .p (.int (bits - 3))),(.inr "pair", .p (.int (bits - 3)))]
theorem Ko {bits:Int} {kind:Str} (h:kind ∈ ke):valU (xJ [] (QZ bits)) (.inr kind) = some (.p (.int (bits - need kind))):=by
 have e:xJ [] (QZ bits) = QZ bits:=rfl
 rw [e]
 have h':kind = "small" ∨ kind = "far" ∨ kind = "pair" ∨ kind = "sign" ∨ kind = "one" := by simpa [ke] using h
 rcases h' with rfl | rfl | rfl | rfl | rfl <;> rfl
theorem nd_eqT {a b:Nd} {n:Nat}:EqT (n + 1) (ndT a) (ndT b) (decide (a = b)):=by
 have h:=EqT.tup (n:=n) (xs:=[.int a.1, .int a.2]) (ys:=[.int b.1, .int b.2]) (e:=fun j => if j = 0 then decide (a.1 = b.1) else decide (a.2 = b.2)) (fun j x y hx hy => by
  match j,hx,hy with
  | 0,hx,hy =>
   cases hx; cases hy
   have:=EqT.flat (n:=n) (a:=.int a.1) (b:=.int b.1) rfl rfl
   rw [show eqV (.int a.1) (.int b.1) = decide (a.1 = b.1) by simp [eqV,Bool.beq_eq_decide_eq]] at this; exact this
  | 1,hx,hy =>
   cases hx; cases hy
   have:=EqT.flat (n:=n) (a:=.int a.2) (b:=.int b.2) rfl rfl
   rw [show eqV (.int a.2) (.int b.2) = decide (a.2 = b.2) by simp [eqV,Bool.beq_eq_decide_eq]] at this; exact this
  | j + 2,hx,_ => cases hx)
 have e:((List.range (min [T.int a.1,T.int a.2].length [T.int b.1,T.int b.2].length)).all (fun j => if j = 0 then decide (a.1 = b.1) else decide (a.2 = b.2)) && [T.int a.1,T.int a.2].length == [T.int b.1,T.int b.2].length) = decide (a = b):=by
  obtain ⟨a1,a2⟩:=a
  obtain ⟨b1,b2⟩:=b
  simp [List.range_succ]
 rw [e] at h
 exact h
theorem XA {f:Addr} {fd:FuncData} (F:Fun K "_law_laying" "_law_laying" jq f fd) (N:Nms mg) (DDraw:Def P w K mg base "_law_draw" 1 ["bag", "many"] (spU Qb)) (DFullLaying:Def P w K mg base "_law_full_laying" 2 ["bag", "bits", "order"] (spU gFull)):FnOk P w K mg base CX0 3 f fd ["bag"] (spU kY):=by
 refine F.zV scLaying (fun us M Qu h => ?_) (fun cdv A outer s H E hr => ?_)
 ·obtain ⟨_,_,rfl,_⟩:=h
  rfl
 refine ⟨_,(qi (qH (i:=1) scLaying.nd rfl (Or.inl rfl) (qC (qm (K:=K) rfl) (vg (qa_c qd (qa_c qd (qa_c qd (qa_c qd (qa_c qd (qa_c qd (qa_c qd (qa_c (qw vM qd (qo DDraw (hr.mono (by first | decide | exact Nat.le_refl _)) (qa_c (qv 0) (qa_c qd qe)))) qe))))))))) (qo DDraw (hr.mono (by first | decide | exact Nat.le_refl _)) (qa_c (qv 0) (qa_c qd qe))) (fun _ _ => rfl)))
  (qi (qH (i:=2) scLaying.nd rfl (Or.inl rfl) (qw J4 (qC (qm (K:=K) rfl) (vg (qa_c (vg (qa_c qy (qa_c qy (qa_c qy (qa_c qy qe))))) (qa_c (vg (qa_c qy (qa_c qy (qa_c qy (qa_c qy qe))))) qe))) (qo DDraw (hr.mono (by first | decide | exact Nat.le_refl _)) (qa_c (qv 0) (qa_c qd qe))) (fun _ _ => rfl)) qd))
  (qi (qH (i:=3) scLaying.nd rfl (Or.inl rfl) (qo DDraw (hr.mono (by first | decide | exact Nat.le_refl _)) (qa_c (qv 0) (qa_c qd qe))))
  (qi (v3 (qJ op_eq (qo DDraw (hr.mono (by first | decide | exact Nat.le_refl _)) (qa_c (qv 0) (qa_c qd qe))) qd (qK _))
   (qk (qx (qo DFullLaying (hr.mono (by first | decide | exact Nat.le_refl _)) (qa_c (qv 0) (qa_c (qv 1) (qa_c (zC (zA (K:=K) rfl) (qv 2) (zD (qv 3)) (zD (qw vM (qv 3) qd))) qe))))))
   qR)
  (qi (qH (i:=4) scLaying.nd rfl (Or.inr rfl) (JT (zB qy (qw vL (qv 1) qd) (zB qy (qw vL (qv 1) qd) (zB qy (qw vL (qv 1) qd) (zB qy (qw vL (qv 1) qd) (zB qy (qw vL (qv 1) qd) JR))))) rfl rfl (fun z => nomatch z) (by decide)))
  (qi (qH (i:=5) scLaying.nd rfl (Or.inl rfl) (vg (qa_c (qX (qa_c qd (qa_c qd qe))) qe)))
  (qi (qH (i:=6) scLaying.nd rfl (Or.inl rfl) (vg qe))
  (qi (ZF PassesOwn.never rfl (vP (K:=K) rfl (qw ZK (vg (qa_c qy qe)) (zC (zA (K:=K) rfl) (qv 2) (zD (qv 3)) (zD (qw vM (qv 3) qd))))) (v5 (i:=7) scLaying.nd rfl (Or.inr rfl))
   (qi (qs_lc (i:=8) [false,false,false,false,true,false,false,true,false,false,false,false,false,false] ["node"] scLaying.nd rfl rfl (vP (K:=K) rfl (qv 5)) (fun _ _ _ => (v5 (i:=14) Kl rfl (Or.inl rfl))) (fun _ _ _ => jP (qJ VN (qC (qL (K:=K) rfl) (qv 14) qd (fun _ _ => rfl)) (VM (hu_of hr) (qv 4) (qv 7) (fun _ _ => rfl)) (qK _))) (fun _ _ _ => (qv 14)))
   (qi (zM (qC (qm (K:=K) rfl) (qv 8) (qo DDraw (hr.mono (by first | decide | exact Nat.le_refl _)) (qa_c (qv 0) (qa_c (qN jk (by rfl) N.len Yx (qa_c (qv 8) qe)) qe))) (fun _ _ => rfl)) (qg_t2K (K:=K) (i:=9) (j:=10) rfl scLaying.nd rfl rfl rfl (Or.inl rfl) (Or.inl rfl) (Or.inl rfl) (Or.inl rfl)))
   (qi (zo (qe_lm PySem.F.slot_list_remove PySem.F.type_list_remove (XE (K:=K) rfl hr.units) (qv 5) (qa_c (qX (qa_c (qv 9) (qa_c (qv 10) qe))) qe)))
   (qi (qH (i:=11) scLaying.nd rfl (Or.inl rfl) (qN (Vm rfl) (by rfl) N.min b_min (qa_c (VM (hu_of hr) (qv 4) (qv 7) (fun _ _ => rfl)) (qa_c (qw vM (qv 9) (qC (qm (K:=K) rfl) (vg (qa_c qd (qa_c qd (qa_c qd (qa_c qd (qa_c (qw vM qd (qo DDraw (hr.mono (by first | decide | exact Nat.le_refl _)) (qa_c (qv 0) (qa_c qd qe)))) qe)))))) (qo DDraw (hr.mono (by first | decide | exact Nat.le_refl _)) (qa_c (qv 0) (qa_c qd qe))) (fun _ _ => rfl))) qe))))
   (qi (qs_while PassesOwn.never (qJ VN (qv 9) (qv 11) (qK _))
    (qi (qH (i:=12) scLaying.nd rfl (Or.inl rfl) (qo DDraw (hr.mono (by first | decide | exact Nat.le_refl _)) (qa_c (qv 0) (qa_c qd qe))))
    (qi (zo (qe_lm PySem.F.slot_list_append PySem.F.type_list_append jc (qv 5) (qa_c (qX (qa_c (qw vM (qv 9) qd) (qa_c (qw vM (qv 10) (qw zZ (qw vL qd (qv 12)) (qv 9))) qe))) qe)))
    (qi (qH (i:=10) scLaying.nd rfl (Or.inl rfl) (qw vM (qv 10) (qw zZ (qv 12) (qv 9))))
    (qk (qH (i:=9) scLaying.nd rfl (Or.inl rfl) (qw vM (qv 9) qd)))))))
   (qk (zo (qe_lm PySem.F.slot_list_append PySem.F.type_list_append jc (qv 6) (qa_c (qX (qa_c (qv 7) (qa_c (qv 9) (qa_c (qv 10) qe)))) qe))))))))))
  (qi (qH (i:=13) scLaying.nd rfl (Or.inl rfl) (qo DDraw (hr.mono (by first | decide | exact Nat.le_refl _)) (qa_c (qv 0) (qa_c qd qe))))
  (qk (qx (qX (qa_c (qv 1) (qa_c (qw ZK (zC (zA (K:=K) rfl) (qv 6) (zD (qv 13)) js) (zC (zA (K:=K) rfl) (qv 6) js (zD (qv 13)))) qe)))))))))))))),_,(ql (qB (qZ (vG (qa (ce_c (.int _)) (qa (ce_c (.int _)) (qa (ce_c (.int _)) (qa (ce_c (.int _)) (qa (ce_c (.int _)) (qa (ce_c (.int _)) (qa (ce_c (.int _)) (qa (qr (qD fun _ _ => .int _) (ce_c (.int _)) (qp (qa (qb 0) (qa (ce_c (.int _)) qf)))) qf))))))))) (qp (qa (qb 0) (qa (ce_c (.int _)) qf)))) (qu 1))
   (ql (qB (qr opl_rep (qZ (vG (qa (vG (qa (ce_c (.str _)) (qa (ce_c (.str _)) (qa (ce_c (.str _)) (qa (ce_c (.str _)) qf))))) (qa (vG (qa (ce_c (.str _)) (qa (ce_c (.str _)) (qa (ce_c (.str _)) (qa (ce_c (.str _)) qf))))) qf))) (qp (qa (qb 0) (qa (ce_c (.int _)) qf)))) (ce_c (.int _))) (qu 2))
   (ql (qB (qp (qa (qb 0) (qa (ce_c (.int _)) qf))) (qu 3))
   (ql (v6 (qP (qr vQ (qp (qa (qb 0) (qa (ce_c (.int _)) qf))) (ce_c (.int _))))
   (qA (qp (qa (qb 0) (qa (qb 1) (qa (XW (qb 2) (xq (qb 3)) (xq (qr (qD fun _ _ => .int _) (qb 3) (ce_c (.int _))))) qf)))))
   qQ)
   (ql (qB (Yo (xp (ce_c (.str _)) (qr (qD fun _ _ => .int _) (qb 1) (ce_c (.int _))) (xp (ce_c (.str _)) (qr (qD fun _ _ => .int _) (qb 1) (ce_c (.int _))) (xp (ce_c (.str _)) (qr (qD fun _ _ => .int _) (qb 1) (ce_c (.int _))) (xp (ce_c (.str _)) (qr (qD fun _ _ => .int _) (qb 1) (ce_c (.int _))) (xp (ce_c (.str _)) (qr (qD fun _ _ => .int _) (qb 1) (ce_c (.int _))) cp_nil)))))) (qu 4))
   (ql (qB (Xa (qa (qY (qa (ce_c (.int _)) (qa (ce_c (.int _)) qf))) qf)) (qu 5))
   (ql (qB (Xa qf) (qu 6))
   (ql (Yh (zW (qr kK (vG (qa (ce_c (.str _)) qf)) (XW (qb 2) (xq (qb 3)) (xq (qr (qD fun _ _ => .int _) (qb 3) (ce_c (.int _))))))) (qu 7)
   (ql (qB (zG (zW (qb 5)) (zc 14) (qP (qr (qD fun _ _ => .bl _) (vk (qb 14) (ce_c (.int _))) (Ze (qb 4) (qb 7)))) (qb 14)) (qu 8))
   (ql (qB (qZ (qb 8) (qp (qa (qb 0) (qa (Ym (qa (qb 8) qf)) qf)))) (Z8 9 10))
   (ql (zu (ce_me XF (qb 5) (qa (qY (qa (qb 9) (qa (qb 10) qf))) qf)))
   (ql (qB (Qi Yp (qa (Ze (qb 4) (qb 7)) (qa (qr (qD fun _ _ => .int _) (qb 9) (qZ (vG (qa (ce_c (.int _)) (qa (ce_c (.int _)) (qa (ce_c (.int _)) (qa (ce_c (.int _)) (qa (qr (qD fun _ _ => .int _) (ce_c (.int _)) (qp (qa (qb 0) (qa (ce_c (.int _)) qf)))) qf)))))) (qp (qa (qb 0) (qa (ce_c (.int _)) qf))))) qf))) (qu 11))
   (ql (cs_while (qP (qr (qD fun _ _ => .bl _) (qb 9) (qb 11)))
   (ql (qB (qp (qa (qb 0) (qa (ce_c (.int _)) qf))) (qu 12))
   (ql (zu (ce_me jw (qb 5) (qa (qY (qa (qr (qD fun _ _ => .int _) (qb 9) (ce_c (.int _))) (qa (qr (qD fun _ _ => .int _) (qb 10) (qr (zS fun _ _ => .int _) (qr (qD fun _ _ => .int _) (ce_c (.int _)) (qb 12)) (qb 9))) qf))) qf)))
   (ql (qB (qr (qD fun _ _ => .int _) (qb 10) (qr (zS fun _ _ => .int _) (qb 12) (qb 9))) (qu 10))
   (qB (qr (qD fun _ _ => .int _) (qb 9) (ce_c (.int _))) (qu 9))))))
   (zu (ce_me jw (qb 6) (qa (qY (qa (qb 7) (qa (qb 9) (qa (qb 10) qf)))) qf)))))))))
   (ql (qB (qp (qa (qb 0) (qa (ce_c (.int _)) qf))) (qu 13))
   (qA (qY (qa (qb 1) (qa (qr kK (XW (qb 6) (xq (qb 13)) Qg) (XW (qb 6) Qg (xq (qb 13)))) qf))))))))))))),fun us M M1 Qu e1 h => ?_⟩
 obtain ⟨k,o,rfl,em,hB,post⟩:=h
 obtain ⟨hkl,eM⟩:=Qm em
 rw [e1.trans eM]
 walk_at "u"
 refine ve hkl hB (by decide) (by decide) fun e o1 e0 e1 B1 => ?_
 walk_at "u"
 refine ve hkl B1 (by decide) (by decide) fun d o2 d0 d1 B2 => ?_
 have hbits:∃ bits:Int,atI [T.int 8, .int 9, .int 10, .int 12, .int 16, .int 24, .int 32, .int (8 + e)] d = some (.int bits)∧8≤bits∧bits≤32:=by
  rcases (show d = 0∨d = 1∨d = 2∨d = 3∨d = 4∨d = 5∨d = 6∨d = 7 by omega) with rfl | rfl | rfl | rfl | rfl | rfl | rfl | rfl
  ·exact ⟨_,rfl,by decide,by decide⟩
  ·exact ⟨_,rfl,by decide,by decide⟩
  ·exact ⟨_,rfl,by decide,by decide⟩
  ·exact ⟨_,rfl,by decide,by decide⟩
  ·exact ⟨_,rfl,by decide,by decide⟩
  ·exact ⟨_,rfl,by decide,by decide⟩
  ·exact ⟨_,rfl,by decide,by decide⟩
  ·exact ⟨_,rfl,by omega,by omega⟩
 obtain ⟨bits,hbt,hb0,hb1⟩:=hbits
 refine vU hbt ?_
 walk_at "u"
 refine ve hkl B2 (by decide) (by decide) fun d2 o3 d20 d21 B3 => ?_
 obtain ⟨L,hat2,hL⟩:∃ L,atI [Vy L0,Vy L1] d2 = some (Vy L)∧(L = L0∨L = L1):=by
  rcases (show d2 = 0∨d2 = 1 by omega) with rfl | rfl
  ·exact ⟨L0,rfl, .inl rfl⟩
  ·exact ⟨L1,rfl, .inr rfl⟩
 refine vU hat2 ?_
 walk_at "u"
 have hL8:(L ++ L).length = 8:=by rcases hL with rfl | rfl <;> rfl
 refine ⟨L.map T.str,2,rfl,rfl,by decide,by decide,(by rcases hL with rfl | rfl <;> (show 4 * 2≤sizeLine; decide)), ?_⟩
 have hflat:(List.replicate (2:Int).toNat (L.map T.str)).flatten = (L ++ L).map T.str:=by rcases hL with rfl | rfl <;> rfl
 rw [hflat]
 refine ve hkl B3 (by decide) (by decide) fun α o4 α0 α1 B4 => ?_
 obtain ⟨at',rfl⟩:∃ j:Nat,α = (j:Int):=⟨α.toNat,by omega⟩
 have ha:at' < 4:=by omega
 have hrp:=rot_perm (α:=at') hL ha
 have hrl:(rot L at').length = 4:=hrp.length_eq
 have hcut:cutT ((L ++ L).map T.str) (some (at':Int)) (some ((at':Int) + 4)) = (rot L at').map T.str:=by
  have e4:(at':Int) + 4 = ((at' + 4:Nat):Int):=by omega
  rw [e4,cutT_map (by omega) (by omega),show at' + 4 - at' = 4 by omega]
  rfl
 walk_at "u"
 refine ve hkl B4 (by decide) (by decide) fun d4 o5 d40 d41 B5 => ?_
 walk_at "u"
 rw [hcut]
 refine ite2 (fun _ => ?_) (fun _ => ?_)
 ·refine ⟨k,o5,bits,rot L at',rfl,MB_bag hkl,B5,hrp,⟨hb0,hb1⟩,fun o6 ms B6 hR => ?_⟩
  rw [Vr hkl]
  walk_at "u"
  refine ⟨Qk B6.pur, ?_⟩
  rw [Ql]
  exact post o6 bits ms B6 hR
 simp only [uDisp]
 walk_at "u"
 refine ⟨QZ bits,rfl,by show 5≤15; decide, ?_⟩
 refine ⟨by simp [hrl]; exact Nat.le_of_lt (vb (by decide)), ?_⟩
 refine Qq (ts:=((("sign" : Str) :: rot L at').map T.str)) (fun i ρ M' => ∃ (o:MO) (ns:List Nd) (ms:List Mk3) (x7 x8 x9 x10 x11 x12 x13:Option U),ρ = [some (.m k),some (.p (.int bits)),some (.p (.lst ((L ++ L).map T.str))),some (.p (.int at')),some (.m (M.length + 0)),some (.m (M.length + 1)),some (.m (M.length + 2)),x7,x8,x9,x10,x11,x12,x13]∧M' = MB M k o [.dK (xJ [] (QZ bits)), .lst ((ns.map ndT).map U.p), .lst ((ms.map jx).map U.p)]∧BagO o∧LInv bits (("sign" : Str) :: rot L at') i ns ms) ?_ ?_ ?_
 ·refine ⟨o5, [(0,0)], [],_,_,_,_,_,_,_,rfl,rfl,B5,⟨?_,⟨(0,0),by simp,by decide⟩,by decide,rfl,(fun _ h => nomatch h),(fun _ h => nomatch h),by simp⟩⟩
  intro n hn
  rw [List.mem_singleton.mp hn]
  exact ⟨by decide,by decide,by decide,by decide⟩
 ·rintro i y ρ M' hi ⟨o,ns,ms,x7,x8,x9,x10,x11,x12,x13,rfl,rfl,B6,LI⟩
  obtain ⟨kind,hki,rfl⟩:=get_map hi
  obtain ⟨hlow,hk5,hi5⟩:=ks_low hb0 hrp hki
  have hval:=Ko (bits:=bits) hk5
  have hneed:=zE kind
  have hnl:=LI.len
  walk_at "u"
  refine VZ (zH rfl) ?_
  refine jK (by rw [List.length_map]; exact Nat.le_of_lt (vb (by omega))) (fun j acc M2 => M2 = MB M k o [.dK (xJ [] (QZ bits)), .lst ((ns.map ndT).map U.p), .lst ((ms.map jx).map U.p)]∧acc = ((ns.take j).filter fun n => decide (n.1 < bits - need kind)).map ndT) ⟨rfl,rfl⟩ (fun j acc M2 ⟨e,_⟩ => by rw [e]; exact zH rfl) ?_ ?_
  ·rintro j y acc M2 hj _ ⟨rfl,rfl⟩
   obtain ⟨n,hn,rfl⟩:=get_map hj
   walk_at "u"
   refine Qf (zH rfl) hval ?_
   walk_at "u"
   rw [vi hn,List.filter_append,List.map_append]
   refine ite2 (fun hh => ?_) (fun hh => ?_) <;> simp [hh]
  ·rintro acc M2 ⟨rfl,rfl⟩
   rw [List.length_map,List.take_length]
   generalize hfs:(ns.filter fun n => decide (n.1 < bits - need kind)) = fs
   have hpos:0 < fs.length:=by
    obtain ⟨n,hn,hw⟩:=LI.low
    have:n ∈ fs:=by rw [← hfs]; exact List.mem_filter.mpr ⟨hn,by simp; omega⟩
    exact List.length_pos_of_mem this
   have hfl:fs.length≤200:=by
    rw [← hfs]
    have:=List.length_filter_le (fun n:Nd => decide (n.1 < bits - need kind)) ns
    omega
   walk_at "u"
   rw [List.length_map]
   refine ve hkl B6 (by omega) (log2_lt (by omega) (by omega)) fun d o7 d0 d1 B7 => ?_
   obtain ⟨jj,rfl⟩:∃ j:Nat,d = (j:Int):=⟨d.toNat,by omega⟩
   have hjj:fs[jj]? = some (fs[jj]'(by omega)):=List.getElem?_eq_getElem _
   generalize fs[jj]'(by omega) = n at hjj
   have hnf:=List.mem_filter.mp (show n ∈ ns.filter fun n => decide (n.1 < bits - need kind) by rw [hfs]; exact List.mem_of_getElem? hjj)
   have hnw:n.1 < bits - need kind:=by simpa using hnf.2
   have hnok:=LI.ok n hnf.1
   refine vU (atT hjj) ?_
   walk_at "u"
   obtain ⟨j,hj,hjm⟩:=Z0 hnf.1
   have hjl:=(List.getElem?_eq_some_iff.mp hj).1
   refine ⟨ns.map ndT,ndT n,j,fun m => decide (ns[m]? = some n),rfl,rfl,by rw [List.length_map]; exact hjl,by simp [hj],fun m hm => by simp [hjm m hm],fun m z hm hz => ?_, ?_⟩
   ·obtain ⟨nm,hnm,rfl⟩:=get_map hz
    have e9:decide (ns[m]? = some n) = decide (nm = n):=by
     rw [hnm]
     by_cases e:nm = n <;> simp [e]
    show EqT 20 _ _ (decide (ns[m]? = some n))
    rw [e9]
    exact nd_eqT
   have W0:=LI.pick hj
   rw [← Q0]
   walk_at "u"
   refine Qf (zH rfl) hval ?_
   walk_at "u"
   refine ve hkl B7 (by decide) (by decide) fun e o8 e0 e1 B8 => ?_
   walk_at "u"
   refine ve hkl B8 (by decide) (by decide) fun d5 o9 d50 d51 B9 => ?_
   have hdel:∃ δ:Int,atI [T.int 1, .int 1, .int 2, .int 3, .int (1 + e)] d5 = some (.int δ)∧1≤δ∧δ≤30:=by
    rcases (show d5 = 0∨d5 = 1∨d5 = 2∨d5 = 3∨d5 = 4 by omega) with rfl | rfl | rfl | rfl | rfl
    ·exact ⟨_,rfl,by decide,by decide⟩
    ·exact ⟨_,rfl,by decide,by decide⟩
    ·exact ⟨_,rfl,by decide,by decide⟩
    ·exact ⟨_,rfl,by decide,by decide⟩
    ·exact ⟨_,rfl,by omega,by omega⟩
   obtain ⟨δ,hδ,δ0,δ1⟩:=hdel
   refine vU hδ ?_
   walk_at "u"
   obtain ⟨g,hgE,hg1,hg2⟩:∃ g:Int,(if n.1 + δ < bits - need kind then n.1 + δ else bits - need kind) = g∧n.1 < g∧g≤bits - need kind:=⟨_,rfl,by split <;> omega,by split <;> omega⟩
   rw [hgE]
   have hn0':=hnok.1
   refine ⟨fun m ρ M' => ∃ (o:MO) (c:Nd) (ns2:List Nd) (x12:Option U),m = (g - c.1).toNat∧ρ = [some (.m k),some (.p (.int bits)),some (.p (.lst ((L ++ L).map T.str))),some (.p (.int at')),some (.m (M.length + 0)),some (.m (M.length + 1)),some (.m (M.length + 2)),some (.p (.str kind)),some (.p (.lst (fs.map ndT))),some (.p (.int c.1)),some (.p (.int c.2)),some (.p (.int g)),x12,x13]∧M' = MB M k o [.dK (xJ [] (QZ bits)), .lst ((ns2.map ndT).map U.p), .lst ((ms.map jx).map U.p)]∧BagO o∧c.1≤g∧WInv i n.1 c ns2 ms,⟨_,o9,n,ns.eraseIdx j,_,rfl,rfl,rfl,B9,by omega,W0⟩, ?_⟩
   rintro m ρ M' ⟨o10,c,ns2,y12,rfl,rfl,rfl,B10,hcg,WI⟩
   have hcok:=WI.cok
   have hwl:=WI.len
   have hww:=WI.w
   have hc0:=hcok.1
   walk_at "u"
   refine ite2 (fun hlt => ?_) (fun hge => ?_)
   ·refine ⟨fun ρ'' M'' => ∃ m',m' < (g - c.1).toNat∧∃ (o:MO) (c:Nd) (ns2:List Nd) (x12:Option U),m' = (g - c.1).toNat∧ρ'' = [some (.m k),some (.p (.int bits)),some (.p (.lst ((L ++ L).map T.str))),some (.p (.int at')),some (.m (M.length + 0)),some (.m (M.length + 1)),some (.m (M.length + 2)),some (.p (.str kind)),some (.p (.lst (fs.map ndT))),some (.p (.int c.1)),some (.p (.int c.2)),some (.p (.int g)),x12,x13]∧M'' = MB M k o [.dK (xJ [] (QZ bits)), .lst ((ns2.map ndT).map U.p), .lst ((ms.map jx).map U.p)]∧BagO o∧c.1≤g∧WInv i n.1 c ns2 ms,fun _ _ h => h, ?_⟩
    walk_at "u"
    refine ve hkl B10 (by decide) (by decide) fun sd o11 s0 s1 B11 => ?_
    walk_at "u"
    refine ⟨⟨by omega,by omega,by omega⟩, ?_⟩
    walk_at "u"
    refine ⟨by rw [List.length_map,List.length_map]; exact vb (by omega), ?_⟩
    refine ⟨⟨by omega,by omega,by omega⟩, ?_⟩
    refine ⟨(g - (c.1 + 1)).toNat,by omega,o11,zY c sd,ns2 ++ [zY c (1 - sd)],_,rfl,rfl, ?_,B11,by show c.1 + 1≤g; omega,WI.step (by omega) (by omega)⟩
    rw [List.map_append,List.map_append]
    rfl
   ·have hce:c.1 = g:=by omega
    walk_at "u"
    have h2:=congrArg List.length LI.kinds
    rw [List.length_map,List.length_take] at h2
    refine ⟨by rw [List.length_map,List.length_map]; exact vb (by omega), ?_⟩
    refine ⟨o10,ns2,ms ++ [(kind,c)],_,_,_,_,_,_,_,rfl, ?_,B10,WI.fin LI hki hce (by omega) (by omega) (by omega) (by omega)⟩
    rw [List.map_append,List.map_append]
    rfl
 ·rintro ρ M' ⟨o,ns,ms,x7,x8,x9,x10,x11,x12,x13,rfl,rfl,B6,LI⟩
  have h5:((("sign" : Str) :: rot L at').map T.str).length = 5:=by simp [hrl]
  rw [h5] at LI
  have hKp:(("sign" : Str) :: rot L at').Perm ke:=(List.Perm.cons _ hrp).trans (by decide +kernel)
  have hR:=LI.right hKp ⟨hb0,hb1⟩
  have hn5:=hR.n
  walk_at "u"
  refine ve hkl B6 (by decide) (by decide) fun tu o7 t0 t1 B7 => ?_
  obtain ⟨tn,rfl⟩:∃ j:Nat,tu = (j:Int):=⟨tu.toNat,by omega⟩
  walk_at "u"
  refine slm_at (zH rfl) ?_
  refine slm_at (zH rfl) ?_
  rw [Vh (by omega),Vg (by omega)]
  walk_at "u"
  have pm:ms.Perm (ms.drop tn ++ ms.take tn):=by
   have:=List.perm_append_comm (l₁:=ms.take tn) (l₂:=ms.drop tn)
   rw [List.take_append_drop] at this
   exact this
  refine ⟨by simp; exact Nat.le_of_lt (vb (by omega)),Qk B7.pur, ?_⟩
  rw [Ql, ← List.map_append]
  exact post o7 bits _ B7 (hR.of_perm pm)
def kX:List T→(T→Prop)→Prop:=fun ts Q => ∃ (bits:Int) (ms:List Mk3) (kind:Str) (m:Mk3),ts = [layT bits ms, .str kind]∧ms.length≤900∧OfKind ms kind m∧Q (jx m)
def Va:List T→(T→Prop)→Prop:=fun ts Q => ∃ (bits:Int) (ms:List Mk3) (kind:Str) (m:Mk3),ts = [layT bits ms, .str kind]∧ms.length≤900∧OfKind ms kind m∧Q (.int (bits - m.2.1))
abbrev xz:Stmt:=top 8
theorem Jh:FnScope ["laying", "kind"] ["laying", "kind"] (qc xz):=⟨rfl,rfl,rfl,by decide +kernel,rfl,by decide +kernel,by decide +kernel⟩
theorem XC:(["laying", "kind", "mark"]:List Str).Nodup:=by decide +kernel
theorem QP {f:Addr} {fd:FuncData} (F:Fun K "mark_for" "mark_for" xz f fd):FnOk P w K mg base CX0 1 f fd ["laying", "kind"] (spP kX):=by
 refine F.zP Jh (fun ts Qt h => ?_) (fun cdv A outer s H E hr => ?_)
 ·obtain ⟨_,_,_,_,rfl,_⟩:=h
  rfl
 refine ⟨_,(qk (qx (qC (qm (K:=K) rfl) (j7 [false,true] ["mark"] (vP (K:=K) rfl (qC (qL (K:=K) rfl) (qv 0) qd (fun _ _ => rfl))) (fun _ _ _ => (v5 (i:=2) XC rfl (Or.inl rfl))) (fun _ _ _ => jP (qJ op_eq (qC (qL (K:=K) rfl) (qv 2) qd (fun _ _ => rfl)) (qv 1) (qK _))) (fun _ _ _ => (qv 2))) qd (fun _ _ => rfl)))),_,(qA (qZ (zG (zW (vk (qb 0) (ce_c (.int _)))) (zc 2) (qP (qr vQ (vk (qb 2) (ce_c (.int _))) (qb 1))) (qb 2)) (ce_c (.int _)))),fun ts Qt h => ?_⟩
 obtain ⟨bits,ms,kind,m,rfl,hl,⟨rest,hm⟩,q⟩:=h
 walk_at "u"
 refine xu (by rw [List.length_map]; exact Nat.le_of_lt (vb (by omega))) (fun i acc M' => M' = []∧acc = ((ms.take i).filter fun m => decide (m.1 = kind)).map jx) ⟨rfl,rfl⟩ ?_ ?_
 ·rintro i x acc M' hx _ ⟨rfl,rfl⟩
  obtain ⟨n,hn,rfl⟩:=get_map hx
  walk_at "u"
  rw [vi hn,List.filter_append,List.map_append]
  refine ite2 (fun hh => ?_) (fun hh => ?_) <;> simp [hh]
 ·rintro acc M' ⟨rfl,rfl⟩
  rw [List.length_map,List.take_length,hm]
  walk_at "u"
  exact q
abbrev Xp:Stmt:=top 53
theorem scMark:FnScope ["laying", "kind"] ["laying", "kind"] (qc Xp):=⟨rfl,rfl,rfl,by decide +kernel,rfl,by decide +kernel,by decide +kernel⟩
theorem ndMark1:(["laying", "kind", "one"]:List Str).Nodup:=by decide +kernel
theorem QQ {f:Addr} {fd:FuncData} (F:Fun K "_law_mark" "_law_mark" Xp f fd):FnOk P w K mg base CX0 1 f fd ["laying", "kind"] (spP kX):=by
 refine F.zP scMark (fun ts Qt h => ?_) (fun cdv A outer s H E hr => ?_)
 ·obtain ⟨_,_,_,_,rfl,_⟩:=h
  rfl
 refine ⟨_,(qk (qx (qC (qm (K:=K) rfl) (j7 [false,true] ["one"] (vP (K:=K) rfl (qC (qL (K:=K) rfl) (qv 0) qd (fun _ _ => rfl))) (fun _ _ _ => (v5 (i:=2) ndMark1 rfl (Or.inl rfl))) (fun _ _ _ => jP (qJ op_eq (qC (qL (K:=K) rfl) (qv 2) qd (fun _ _ => rfl)) (qv 1) (qK _))) (fun _ _ _ => (qv 2))) qd (fun _ _ => rfl)))),_,(qA (qZ (zG (zW (vk (qb 0) (ce_c (.int _)))) (zc 2) (qP (qr vQ (vk (qb 2) (ce_c (.int _))) (qb 1))) (qb 2)) (ce_c (.int _)))),fun ts Qt h => ?_⟩
 obtain ⟨bits,ms,kind,m,rfl,hl,⟨rest,hm⟩,q⟩:=h
 walk_at "u"
 refine xu (by rw [List.length_map]; exact Nat.le_of_lt (vb (by omega))) (fun i acc M' => M' = []∧acc = ((ms.take i).filter fun m => decide (m.1 = kind)).map jx) ⟨rfl,rfl⟩ ?_ ?_
 ·rintro i x acc M' hx _ ⟨rfl,rfl⟩
  obtain ⟨n,hn,rfl⟩:=get_map hx
  walk_at "u"
  rw [vi hn,List.filter_append,List.map_append]
  refine ite2 (fun hh => ?_) (fun hh => ?_) <;> simp [hh]
 ·rintro acc M' ⟨rfl,rfl⟩
  rw [List.length_map,List.take_length,hm]
  walk_at "u"
  exact q
abbrev zK:Stmt:=top 9
theorem Xn:FnScope ["laying", "kind"] ["laying", "kind"] (qc zK):=⟨rfl,rfl,rfl,by decide +kernel,rfl,by decide +kernel,by decide +kernel⟩
theorem kL {f:Addr} {fd:FuncData} (F:Fun K "load_bits" "load_bits" zK f fd) (DMarkFor:Def P w K mg base "mark_for" 1 ["laying", "kind"] (spP kX)):FnOk P w K mg base CX0 2 f fd ["laying", "kind"] (spP Va):=by
 refine F.zP Xn (fun ts Qt h => ?_) (fun cdv A outer s H E hr => ?_)
 ·obtain ⟨_,_,_,_,rfl,_⟩:=h
  rfl
 refine ⟨_,(qk (qx (qw vL (qC (qL (K:=K) rfl) (qv 0) qd (fun _ _ => rfl)) (qC (qL (K:=K) rfl) (qo DMarkFor (hr.mono (by first | decide | exact Nat.le_refl _)) (qa_c (qv 0) (qa_c (qv 1) qe))) qd (fun _ _ => rfl))))),_,(qA (qr (qD fun _ _ => .int _) (vk (qb 0) (ce_c (.int _))) (vk (qt (qa (qb 0) (qa (qb 1) qf))) (ce_c (.int _))))),fun ts Qt h => ?_⟩
 obtain ⟨bits,ms,kind,m,rfl,hl,hm,q⟩:=h
 walk_at "u"
 refine ⟨bits,ms,kind,m,rfl,hl,hm, ?_⟩
 walk_at "u"
 exact q
abbrev Xq:Stmt:=top 54
theorem scLoad:FnScope ["laying", "kind"] ["laying", "kind"] (qc Xq):=⟨rfl,rfl,rfl,by decide +kernel,rfl,by decide +kernel,by decide +kernel⟩
theorem QR {f:Addr} {fd:FuncData} (F:Fun K "_law_load" "_law_load" Xq f fd) (DMark:Def P w K mg base "_law_mark" 1 ["laying", "kind"] (spP kX)):FnOk P w K mg base CX0 2 f fd ["laying", "kind"] (spP Va):=by
 refine F.zP scLoad (fun ts Qt h => ?_) (fun cdv A outer s H E hr => ?_)
 ·obtain ⟨_,_,_,_,rfl,_⟩:=h
  rfl
 refine ⟨_,(qk (qx (qw vL (qC (qL (K:=K) rfl) (qv 0) qd (fun _ _ => rfl)) (qC (qL (K:=K) rfl) (qo DMark (hr.mono (by first | decide | exact Nat.le_refl _)) (qa_c (qv 0) (qa_c (qv 1) qe))) qd (fun _ _ => rfl))))),_,(qA (qr (qD fun _ _ => .int _) (vk (qb 0) (ce_c (.int _))) (vk (qt (qa (qb 0) (qa (qb 1) qf))) (ce_c (.int _))))),fun ts Qt h => ?_⟩
 obtain ⟨bits,ms,kind,m,rfl,hl,hm,q⟩:=h
 walk_at "u"
 refine ⟨bits,ms,kind,m,rfl,hl,hm, ?_⟩
 walk_at "u"
 exact q
abbrev xA:Stmt:=top 6
theorem Ji:FnScope ["marks", "word"] ["marks", "word"] (qc xA):=⟨rfl,rfl,rfl,by decide +kernel,rfl,by decide +kernel,by decide +kernel⟩
theorem XD:(["marks", "word", "kind", "width", "pattern"]:List Str).Nodup:=by decide +kernel
def kZ:List T→(T→Prop)→Prop:=fun ts Q => ∃ (ms:List Mk3) (word:Int),ts = [.lst (ms.map jx), .int word]∧Wd ms∧ms.length≤900∧Q (Vy ((ms.filter (on word)).map (·.1)))
theorem QU {f:Addr} {fd:FuncData} (F:Fun K "kinds_on" "kinds_on" xA f fd):FnOk P w K mg base CX0 1 f fd ["marks", "word"] (spP kZ):=by
 refine F.zP Ji (fun ts Qt h => ?_) (fun cdv A outer s H E hr => ?_)
 ·obtain ⟨_,_,rfl,_⟩:=h
  rfl
 refine ⟨_,(qk (qx (j7 [false,true] ["kind", "width", "pattern"] (vP (K:=K) rfl (qv 0)) (fun _ _ _ => (qg_t3K (K:=K) (i:=2) (j:=3) (k:=4) rfl XD rfl rfl rfl rfl (Or.inl rfl) (Or.inl rfl) (Or.inl rfl) (Or.inr rfl) (Or.inr rfl) (Or.inr rfl))) (fun _ _ _ => jP (qJ op_eq (qw xI (qv 1) (qw zZ qd (qv 3))) (qv 4) (qK _))) (fun _ _ _ => (qv 2))))),_,(qA (zG (zW (qb 0)) (Yl 2 3 4) (qP (qr vQ (qr (zS fun _ _ => .int _) (qb 1) (qr (zS fun _ _ => .int _) (ce_c (.int _)) (qb 3))) (qb 4))) (qb 2))),fun ts Qt h => ?_⟩
 obtain ⟨ms,word,rfl,hw,hl,q⟩:=h
 walk_at "u"
 refine xu (by rw [List.length_map]; exact Nat.le_of_lt (vb (by omega))) (fun i acc M' => M' = []∧acc = (((ms.take i).filter (on word)).map (·.1)).map T.str) ⟨rfl,rfl⟩ ?_ ?_
 ·rintro i x acc M' hx _ ⟨rfl,rfl⟩
  obtain ⟨m,hm,rfl⟩:=get_map hx
  have hmw:=hw m (List.mem_of_getElem? hm)
  walk_at "u"
  refine ⟨⟨by omega,by omega,by decide⟩, ?_, ?_⟩
  ·rw [Int.one_mul]; exact vz _
  rw [vi hm,List.filter_append,List.map_append,List.map_append,Int.one_mul]
  refine ite2 (fun hh => ?_) (fun hh => ?_) <;> simp [on,hh]
 ·rintro acc M' ⟨rfl,rfl⟩
  rw [List.length_map,List.take_length]
  walk_at "u"
  exact q
abbrev jo:Stmt:=top 7
theorem scMarkOf:FnScope ["laying", "word", "kinds"] ["laying", "word"] (qc jo):=⟨rfl,rfl,rfl,by decide +kernel,rfl,by decide +kernel,by decide +kernel⟩
def jU (word:Int) (ms:List Mk3):T:=match ms.filter (on word) with
 | [] => .non
 | m :: _ => .str m.1
def j2:List T→(T→Prop)→Prop:=fun ts Q => ∃ (bits:Int) (ms:List Mk3) (word:Int),ts = [layT bits ms, .int word]∧Wd ms∧ms.length≤900∧Q (jU word ms)
theorem VQ {f:Addr} {fd:FuncData} (F:Fun K "mark_of" "mark_of" jo f fd) (DKindsOn:Def P w K mg base "kinds_on" 1 ["marks", "word"] (spP kZ)):FnOk P w K mg base CX0 2 f fd ["laying", "word"] (spP j2):=by
 refine F.zP scMarkOf (fun ts Qt h => ?_) (fun cdv A outer s H E hr => ?_)
 ·obtain ⟨_,_,_,rfl,_⟩:=h
  rfl
 refine ⟨_,(qi (qH (i:=2) scMarkOf.nd rfl (Or.inl rfl) (qo DKindsOn (hr.mono (by first | decide | exact Nat.le_refl _)) (qa_c (qC (qL (K:=K) rfl) (qv 0) qd (fun _ _ => rfl)) (qa_c (qv 1) qe))))
  (qk (qx (zQ (JQ (K:=K) rfl (qv 2) (fun _ => rfl)) (qC (qm (K:=K) rfl) (qv 2) qd (fun _ _ => rfl)) kj)))),_,(ql (qB (qt (qa (vk (qb 0) (ce_c (.int _))) (qa (qb 1) qf))) (qu 2))
   (qA (Yn (ct_tru (qb 2)) (qZ (qb 2) (ce_c (.int _))) (ce_c .non)))),fun ts Qt h => ?_⟩
 obtain ⟨bits,ms,word,rfl,hw,hl,q⟩:=h
 walk_at "u"
 refine ⟨ms,word,rfl,hw,hl, ?_⟩
 unfold jU at q
 unfold Vy
 cases e:ms.filter (on word) with
 | nil =>
  rw [e] at q
  simp only [uTru]
  walk_at "u"
  refine ⟨false,rfl, ?_⟩
  walk_at "u"
  exact q
 | cons m r =>
  rw [e] at q
  simp only [uTru]
  walk_at "u"
  refine ⟨true,rfl, ?_⟩
  walk_at "u"
  exact q
abbrev jp:Stmt:=top 25
theorem scLoadOf:FnScope ["laying", "word", "kind"] ["laying", "word", "kind"] (qc jp):=⟨rfl,rfl,rfl,by decide +kernel,rfl,by decide +kernel,by decide +kernel⟩
def V4:List T→(T→Prop)→Prop:=fun ts Q => ∃ (bits:Int) (ms:List Mk3) (word:Int) (kind:Str) (m:Mk3),ts = [layT bits ms, .int word, .str kind]∧ms.length≤900∧OfKind ms kind m∧0≤m.2.1∧Q (.int (word / 2 ^ m.2.1.toNat))
theorem VR {f:Addr} {fd:FuncData} (F:Fun K "load_of" "load_of" jp f fd) (DMarkFor:Def P w K mg base "mark_for" 1 ["laying", "kind"] (spP kX)):FnOk P w K mg base CX0 2 f fd ["laying", "word", "kind"] (spP V4):=by
 refine F.zP scLoadOf (fun ts Qt h => ?_) (fun cdv A outer s H E hr => ?_)
 ·obtain ⟨_,_,_,_,_,rfl,_⟩:=h
  rfl
 refine ⟨_,(qk (qx (qw op_shr (qv 1) (qC (qL (K:=K) rfl) (qo DMarkFor (hr.mono (by first | decide | exact Nat.le_refl _)) (qa_c (qv 0) (qa_c (qv 2) qe))) qd (fun _ _ => rfl))))),_,(qA (qr (zS fun _ _ => .int _) (qb 1) (vk (qt (qa (qb 0) (qa (qb 2) qf))) (ce_c (.int _))))),fun ts Qt h => ?_⟩
 obtain ⟨bits,ms,word,kind,m,rfl,hl,hm,h0,q⟩:=h
 walk_at "u"
 refine ⟨bits,ms,kind,m,rfl,hl,hm, ?_⟩
 walk_at "u"
 exact ⟨h0,q⟩
abbrev jn:Stmt:=top 26
theorem scMarked:FnScope ["laying", "kind", "load", "mark"] ["laying", "kind", "load"] (qc jn):=⟨rfl,rfl,rfl,by decide +kernel,rfl,by decide +kernel,by decide +kernel⟩
def V3:List T→(T→Prop)→Prop:=fun ts Q => ∃ (bits:Int) (ms:List Mk3) (kind:Str) (load:Int) (m:Mk3),ts = [layT bits ms, .str kind, .int load]∧ms.length≤900∧OfKind ms kind m∧0≤m.2.1∧m.2.1≤1000∧load.natAbs < 2 ^ 64∧Q (.int (load * 2 ^ m.2.1.toNat + m.2.2))
theorem Xy {f:Addr} {fd:FuncData} (F:Fun K "marked" "marked" jn f fd) (DMarkFor:Def P w K mg base "mark_for" 1 ["laying", "kind"] (spP kX)):FnOk P w K mg base CX0 2 f fd ["laying", "kind", "load"] (spP V3):=by
 refine F.zP scMarked (fun ts Qt h => ?_) (fun cdv A outer s H E hr => ?_)
 ·obtain ⟨_,_,_,_,_,rfl,_⟩:=h
  rfl
 refine ⟨_,(qi (qH (i:=3) scMarked.nd rfl (Or.inl rfl) (qo DMarkFor (hr.mono (by first | decide | exact Nat.le_refl _)) (qa_c (qv 0) (qa_c (qv 1) qe))))
  (qk (qx (qw vM (qw zZ (qv 2) (qC (qL (K:=K) rfl) (qv 3) qd (fun _ _ => rfl))) (qC (qL (K:=K) rfl) (qv 3) qd (fun _ _ => rfl)))))),_,(ql (qB (qt (qa (qb 0) (qa (qb 1) qf))) (qu 3))
   (qA (qr (qD fun _ _ => .int _) (qr (zS fun _ _ => .int _) (qb 2) (vk (qb 3) (ce_c (.int _)))) (vk (qb 3) (ce_c (.int _)))))),fun ts Qt h => ?_⟩
 obtain ⟨bits,ms,kind,load,m,rfl,hl,hm,h0,h1,h2,q⟩:=h
 walk_at "u"
 refine ⟨bits,ms,kind,m,rfl,hl,hm, ?_⟩
 walk_at "u"
 refine ⟨⟨h0,by omega,h2⟩, ?_⟩
 walk_at "u"
 exact q
abbrev xy:Stmt:=top 27
theorem Jg:FnScope ["bits", "load"] ["bits", "load"] (qc xy):=⟨rfl,rfl,rfl,by decide +kernel,rfl,by decide +kernel,by decide +kernel⟩
def jL (s load:Int):Int:=if 2 ^ (s - 1).toNat≤load then load - 2 ^ s.toNat else load
def kU:List T→(T→Prop)→Prop:=fun ts Q => ∃ (s load:Int),ts = [.int s, .int load]∧1≤s∧s≤1000∧Q (.int (jL s load))
theorem QN {f:Addr} {fd:FuncData} (F:Fun K "small_of" "small_of" xy f fd):FnOk P w K mg base CX0 1 f fd ["bits", "load"] (spP kU):=by
 refine F.zP Jg (fun ts Qt h => ?_) (fun cdv A outer s H E hr => ?_)
 ·obtain ⟨_,_,rfl,_⟩:=h
  rfl
 refine ⟨_,(qk (qx (zQ (qJ op_ge (qv 1) (qw zZ qd (qw vL (qv 0) qd)) (qK _)) (qw vL (qv 1) (qw zZ qd (qv 0))) (qv 1)))),_,(qA (Yn (qP (qr (qD fun _ _ => .bl _) (qb 1) (qr (zS fun _ _ => .int _) (ce_c (.int _)) (qr (qD fun _ _ => .int _) (qb 0) (ce_c (.int _)))))) (qr (qD fun _ _ => .int _) (qb 1) (qr (zS fun _ _ => .int _) (ce_c (.int _)) (qb 0))) (qb 1))),fun ts Qt h => ?_⟩
 obtain ⟨sb,load,rfl,h0,h1,q⟩:=h
 walk_at "u"
 unfold jL at q
 refine ⟨⟨by omega,by omega,by decide⟩, ?_⟩
 rw [Int.one_mul]
 refine ite2 (fun hh => ?_) (fun hh => ?_)
 ·rw [if_pos hh] at q
  refine ⟨⟨by omega,by omega,by decide⟩, ?_⟩
  rw [Int.one_mul]
  exact q
 ·rw [if_neg hh] at q
  exact q
theorem QY:∀ {ms:List Mk3} {m m':Mk3},(ms.map (·.1)).Nodup→m ∈ ms→m' ∈ ms→m.1 = m'.1→m = m'
 | [],_,_,_,h,_,_ => nomatch h
 | x :: ms,m,m',hn,h,h',e => by
  obtain ⟨n1,n2⟩:=List.nodup_cons.mp (show (x.1 :: ms.map (·.1)).Nodup from hn)
  rcases List.mem_cons.mp h with z | h
  ·rcases List.mem_cons.mp h' with z' | h'
   ·rw [z,z']
   ·exact absurd (List.mem_map.mpr ⟨m',h',by rw [← e,z]⟩) n1
  ·rcases List.mem_cons.mp h' with z' | h'
   ·exact absurd (List.mem_map.mpr ⟨m,h,by rw [e,z']⟩) n1
   ·exact QY n2 h h' e
theorem Right.ofKind {bits:Int} {ms:List Mk3} (r:Right bits ms) {m:Mk3} (hm:m ∈ ms):OfKind ms m.1 m:=by
 have hk:m.1 ∈ ke:=r.k.mem_iff.mp (List.mem_map.mpr ⟨m,hm,rfl⟩)
 obtain ⟨m',h'⟩:=r.kind hk
 have nd:(ms.map (·.1)).Nodup:=r.k.nodup_iff.mpr (by decide)
 have:m' = m:=QY nd h'.mem hm h'.is
 rw [← this] at h' ⊢
 exact h'
def three3:List Str:=["none", "no", "yes"]
theorem zl {j:Nat} {t:Str} (h:three3[j]? = some t):∀ m,m < j→three3[m]? ≠ some t:=by
 have hj:j < 3:=(List.getElem?_eq_some_iff.mp h).1
 intro m hm
 rcases (show j = 1∨j = 2 by omega) with rfl | rfl
 ·have:m = 0:=by omega
  subst this
  simp [three3] at h ⊢
  subst h; decide
 ·simp [three3] at h
  subst h
  rcases (show m = 0∨m = 1 by omega) with rfl | rfl <;> simp [three3] <;> decide
def xG (bits:Int) (m:Mk3) (load:Int):Int:=load % 2 ^ (bits - m.2.1).toNat * 2 ^ m.2.1.toNat + m.2.2
abbrev xx:Stmt:=top 28
theorem scWorthOf:FnScope ["laying", "word", "kind", "load"] ["laying", "word"] (qc xx):=⟨rfl,rfl,rfl,by decide +kernel,rfl,by decide +kernel,by decide +kernel⟩
def XZ (bits:Int) (m:Mk3) (load:Int):T:=if m.1 = "small" then .int (jL (bits - m.2.1) load) else if m.1 = "one" then (if load < 3 then .str (three3.getD load.toNat "none") else .non) else if m.1 = "sign" ∧ 128≤load then .non else .tup [.str m.1, .int load]
def Qn (bits:Int) (ms:List Mk3) (word:Int):T:=match ms.filter (on word) with
 | [] => .non
 | m :: _ => XZ bits m (word / 2 ^ m.2.1.toNat)
def kT:List T→(T→Prop)→Prop:=fun ts Q => ∃ (bits:Int) (ms:List Mk3) (word:Int),ts = [layT bits ms, .int word]∧Right bits ms∧0≤word∧Q (Qn bits ms word)
theorem QM {three:Addr} {f:Addr} {fd:FuncData} (F:Fun K "worth_of" "worth_of" xx f fd) (N:Nms mg) (T3:Tup3 K mg "THREE" three "none" "no" "yes") (GSigns:GInt mg "SIGNS" 128) (DMarkOf:Def P w K mg base "mark_of" 2 ["laying", "word"] (spP j2)) (DLoadOf:Def P w K mg base "load_of" 2 ["laying", "word", "kind"] (spP V4)) (DSmallOf:Def P w K mg base "small_of" 1 ["bits", "load"] (spP kU)) (DLoadBits:Def P w K mg base "load_bits" 2 ["laying", "kind"] (spP Va)):FnOk P w K mg base CX0 3 f fd ["laying", "word"] (spP kT):=by
 refine F.zP scWorthOf (fun ts Qt h => ?_) (fun cdv A outer s H E hr => ?_)
 ·obtain ⟨_,_,_,rfl,_⟩:=h
  rfl
 refine ⟨_,(qi (qH (i:=2) scWorthOf.nd rfl (Or.inl rfl) (qo DMarkOf (hr.mono (by first | decide | exact Nat.le_refl _)) (qa_c (qv 0) (qa_c (qv 1) qe))))
  (qi (v3 (qJ op_isN (qv 2) kj (qK _))
   (qk (qx kj))
   qR)
  (qi (qH (i:=3) scWorthOf.nd rfl (Or.inl rfl) (qo DLoadOf (hr.mono (by first | decide | exact Nat.le_refl _)) (qa_c (qv 0) (qa_c (qv 1) (qa_c (qv 2) qe)))))
  (qi (v3 (qJ op_eq (qv 2) qy (qK _))
   (qk (qx (qo DSmallOf (hr.mono (by first | decide | exact Nat.le_refl _)) (qa_c (qo DLoadBits (hr.mono (by first | decide | exact Nat.le_refl _)) (qa_c (qv 0) (qa_c (qv 2) qe))) (qa_c (qv 3) qe)))))
   qR)
  (qi (v3 (qJ op_eq (qv 2) qy (qK _))
   (qk (qx (zQ (qJ VN (qv 3) (qN (XX (K:=K) rfl) (by rfl) N.len Yx (qa_c (VL (v:=.ref three) rfl T3.mg rfl) qe)) (qK _)) (qC (qL (K:=K) rfl) (VL (v:=.ref three) rfl T3.mg rfl) (qv 3) (fun _ _ => rfl)) kj)))
   qR)
  (qi (v3 (qw_pt (qw_and (qJ op_eq (qv 2) qy (qK _)) (JP (qJ op_ge (qv 3) (JS GSigns rfl) (qK _)))))
   (qk (qx kj))
   qR)
  (qk (qx (qX (qa_c (qv 2) (qa_c (qv 3) qe))))))))))),_,(ql (qB (qt (qa (qb 0) (qa (qb 1) qf))) (qu 2))
   (ql (v6 (qP (ce_isN (qb 2)))
   (qA (ce_c .non))
   qQ)
   (ql (qB (qt (qa (qb 0) (qa (qb 1) (qa (qb 2) qf)))) (qu 3))
   (ql (v6 (qP (qr vQ (qb 2) (ce_c (.str _))))
   (qA (qt (qa (qt (qa (qb 0) (qa (qb 2) qf))) (qa (qb 3) qf))))
   qQ)
   (ql (v6 (qP (qr vQ (qb 2) (ce_c (.str _))))
   (qA (Yn (qP (qr (qD fun _ _ => .bl _) (qb 3) (ce_lenK T3.kt))) (ce_ixK T3.kt (Je [_,_,_]) (qb 3)) (ce_c .non)))
   qQ)
   (ql (v6 (ct_and (qP (qr vQ (qb 2) (ce_c (.str _)))) (qP (qr (qD fun _ _ => .bl _) (qb 3) (ce_c (.int _)))))
   (qA (ce_c .non))
   qQ)
   (qA (qY (qa (qb 2) (qa (qb 3) qf)))))))))),fun ts Qt h => ?_⟩
 obtain ⟨bits,ms,word,rfl,hR,hw0,q⟩:=h
 have hb1:=hR.b
 have hn5:=hR.n
 walk_at "u"
 refine ⟨bits,ms,word,rfl,hR.wd,by omega, ?_⟩
 unfold Qn at q
 unfold jU
 cases e:ms.filter (on word) with
 | nil =>
  rw [e] at q
  walk_at "u"
  exact q
 | cons m r =>
  rw [e] at q
  have hmem:m ∈ ms:=(List.mem_filter.mp (by rw [e]; exact List.mem_cons_self)).1
  have hmk:=hR.ofKind hmem
  have hmw:=hR.w m hmem
  have hnd:=zE m.1
  simp only at q
  generalize hld:word / 2 ^ m.2.1.toNat = load at q
  have hl0:0≤load:=by rw [← hld]; exact Int.ediv_nonneg hw0 (Int.le_of_lt (vz _))
  unfold XZ at q
  walk_at "u"
  refine ⟨bits,ms,word,m.1,m,rfl,by omega,hmk,by omega, ?_⟩
  rw [hld]
  walk_at "u"
  refine ite2 (fun h1 => ?_) (fun h1 => ?_)
  ·rw [if_pos h1] at q
   refine ⟨bits,ms,m.1,m,rfl,by omega,hmk, ?_⟩
   walk_at "u"
   refine ⟨bits - m.2.1,load,rfl,by omega,by omega, ?_⟩
   walk_at "u"
   exact q
  rw [if_neg h1] at q
  refine ite2 (fun h2 => ?_) (fun h2 => ?_)
  ·rw [if_pos h2] at q
   refine ite2 (fun h3 => ?_) (fun h3 => ?_)
   ·rw [if_pos (show load < 3 by omega)] at q
    rcases (show load = 0∨load = 1∨load = 2 by omega) with rfl | rfl | rfl
    ·exact ⟨_,rfl,q⟩
    ·exact ⟨_,rfl,q⟩
    ·exact ⟨_,rfl,q⟩
   ·rw [if_neg (show ¬ load < 3 by omega)] at q
    exact q
  rw [if_neg h2] at q
  refine ite2 (fun h3 => ?_) (fun h3 => ?_)
  ·refine ite2 (fun h4 => ?_) (fun h4 => ?_)
   ·rw [if_pos ⟨h3,h4⟩] at q
    exact q
   ·rw [if_neg (fun z => h4 z.2)] at q
    walk_at "u"
    exact q
  ·rw [if_neg (fun z => h3 z.1)] at q
   walk_at "u"
   exact q
abbrev jl:Stmt:=top 29
theorem scWordOf:FnScope ["laying", "worth"] ["laying", "worth"] (qc jl):=⟨rfl,rfl,rfl,by decide +kernel,rfl,by decide +kernel,by decide +kernel⟩
inductive WorthT:T→Str→Int→Prop
 | int (n:Int):WorthT (.int n) "small" n
 | one {t:Str} {j:Nat} (h:three3[j]? = some t):WorthT (.str t) "one" j
 | tup {kind:Str} (load:Int):WorthT (.tup [.str kind, .int load]) kind load
def xS:List T→(T→Prop)→Prop:=fun ts Q => ∃ (bits:Int) (ms:List Mk3) (t:T) (kind:Str) (load:Int) (m:Mk3),ts = [layT bits ms,t]∧ms.length≤900∧WorthT t kind load∧OfKind ms kind m∧0≤m.2.1∧0≤bits - m.2.1∧bits≤60∧((∃ n,t = .int n)∨(0≤load∧load < 2 ^ (bits - m.2.1).toNat))∧Q (.int (xG bits m load))
theorem pow60 {s:Int} (h:s≤60):(2:Int) ^ s.toNat≤2 ^ 60:=by
 have:(2:Nat) ^ s.toNat≤2 ^ 60:=Nat.pow_le_pow_right (by decide) (by omega)
 exact_mod_cast this
theorem VP {three:Addr} {f:Addr} {fd:FuncData} (F:Fun K "word_of" "word_of" jl f fd) (N:Nms mg) (T3:Tup3 K mg "THREE" three "none" "no" "yes") (DMarked:Def P w K mg base "marked" 2 ["laying", "kind", "load"] (spP V3)) (DLoadBits:Def P w K mg base "load_bits" 2 ["laying", "kind"] (spP Va)):FnOk P w K mg base CX0 3 f fd ["laying", "worth"] (spP xS):=by
 refine F.zP scWordOf (fun ts Qt h => ?_) (fun cdv A outer s H E hr => ?_)
 ·obtain ⟨_,_,_,_,_,_,rfl,_⟩:=h
  rfl
 refine ⟨_,(qi (v3 (v9 (qN (vS (K:=K) rfl) (by rfl) N.isinstance vd (qa_c (qv 1) (qa_c (zR (v:=.ty "int") (by rfl) N.int XY rfl) qe))))
   (qk (qx (qo DMarked (hr.mono (by first | decide | exact Nat.le_refl _)) (qa_c (qv 0) (qa_c qy (qa_c (qw xI (qv 1) (qw zZ qd (qo DLoadBits (hr.mono (by first | decide | exact Nat.le_refl _)) (qa_c (qv 0) (qa_c qy qe))))) qe))))))
   qR)
  (qi (v3 (v9 (qN (vS (K:=K) rfl) (by rfl) N.isinstance vd (qa_c (qv 1) (qa_c (zR (v:=.ty "str") (by rfl) N.str b_str rfl) qe))))
   (qk (qx (qo DMarked (hr.mono (by first | decide | exact Nat.le_refl _)) (qa_c (qv 0) (qa_c qy (qa_c (qe_bm PySem.F.plainAttrs_tuple PySem.F.slot_tuple_index PySem.F.type_tuple_index (Kn (K:=K) rfl T3) (VL (v:=.ref three) rfl T3.mg rfl) (qa_c (qv 1) qe)) qe))))))
   qR)
  (qk (qx (qo DMarked (hr.mono (by first | decide | exact Nat.le_refl _)) (qa_c (qv 0) (qa_c (qC (qL (K:=K) rfl) (qv 1) qd (fun _ _ => rfl)) (qa_c (qC (qL (K:=K) rfl) (qv 1) qd (fun _ _ => rfl)) qe)))))))),_,(ql (v6 (ct_b (ji .int (qb 1)))
   (qA (qt (qa (qb 0) (qa (ce_c (.str _)) (qa (qr (zS fun _ _ => .int _) (qb 1) (qr (zS fun _ _ => .int _) (ce_c (.int _)) (qt (qa (qb 0) (qa (ce_c (.str _)) qf))))) qf)))))
   qQ)
   (ql (v6 (ct_b (ji .str (qb 1)))
   (qA (qt (qa (qb 0) (qa (ce_c (.str _)) (qa (ce_idxK T3 (qa (qb 1) qf)) qf)))))
   qQ)
   (qA (qt (qa (qb 0) (qa (vk (qb 1) (ce_c (.int _))) (qa (vk (qb 1) (ce_c (.int _))) qf))))))),fun ts Qt h => ?_⟩
 obtain ⟨bits,ms,t,kind,load,m,rfl,hl,hwt,hm,h0,h1,h60,hb,q⟩:=h
 have hp:=vz (bits - m.2.1).toNat
 have hp60:=pow60 (s:=bits - m.2.1) (by omega)
 unfold xG at q
 cases hwt with
 | int n =>
  have hlt:=Int.emod_lt_of_pos load hp
  have hnn:=Int.emod_nonneg load (Int.ne_of_gt hp)
  walk_at "u"
  refine ⟨bits,ms, "small", m,rfl,hl,hm, ?_⟩
  walk_at "u"
  refine ⟨⟨h1,by omega,by decide⟩,by rw [Int.one_mul]; exact hp, ?_⟩
  rw [Int.one_mul]
  refine ⟨bits,ms, "small", _,m,rfl,hl,hm,h0,by omega,by omega, ?_⟩
  walk_at "u"
  exact q
 | @one t j hj =>
  have hj3:j < 3:=(List.getElem?_eq_some_iff.mp hj).1
  obtain ⟨g0,g1⟩:0≤(j:Int)∧(j:Int) < 2 ^ (bits - m.2.1).toNat:=hb.resolve_left fun ⟨_,z⟩ => by cases z
  walk_at "u"
  refine ⟨t,j,rfl,hj,zl hj, ?_⟩
  walk_at "u"
  refine ⟨bits,ms, "one", _,m,rfl,hl,hm,h0,by omega,by omega, ?_⟩
  rw [Int.emod_eq_of_lt g0 g1] at q
  walk_at "u"
  exact q
 | tup load =>
  obtain ⟨g0,g1⟩:0≤load∧load < 2 ^ (bits - m.2.1).toNat:=hb.resolve_left fun ⟨_,z⟩ => by cases z
  walk_at "u"
  refine ⟨bits,ms,kind,load,m,rfl,hl,hm,h0,by omega,by omega, ?_⟩
  rw [Int.emod_eq_of_lt g0 g1] at q
  walk_at "u"
  exact q
def Jc (s n:Int):Bool:=decide (-(2 ^ (s - 1).toNat)≤n∧n < 2 ^ (s - 1).toNat)
abbrev xB:Stmt:=top 30
theorem scIsSmall:FnScope ["laying", "n", "half"] ["laying", "n"] (qc xB):=⟨rfl,rfl,rfl,by decide +kernel,rfl,by decide +kernel,by decide +kernel⟩
def Qa:List T→(T→Prop)→Prop:=fun ts Q => ∃ (bits:Int) (ms:List Mk3) (n:Int) (m:Mk3),ts = [layT bits ms, .int n]∧ms.length≤900∧OfKind ms "small" m∧1≤bits - m.2.1∧bits - m.2.1≤60∧Q (.bl (Jc (bits - m.2.1) n))
theorem QV {f:Addr} {fd:FuncData} (F:Fun K "is_small" "is_small" xB f fd) (DLoadBits:Def P w K mg base "load_bits" 2 ["laying", "kind"] (spP Va)):FnOk P w K mg base CX0 3 f fd ["laying", "n"] (spP Qa):=by
 refine F.zP scIsSmall (fun ts Qt h => ?_) (fun cdv A outer s H E hr => ?_)
 ·obtain ⟨_,_,_,_,rfl,_⟩:=h
  rfl
 refine ⟨_,(qi (qH (i:=2) scIsSmall.nd rfl (Or.inl rfl) (qw zZ qd (qw vL (qo DLoadBits (hr.mono (by first | decide | exact Nat.le_refl _)) (qa_c (qv 0) (qa_c qy qe))) qd)))
  (qk (qx (qe_chain op_le VN (qe_un un_neg (qv 2)) (qv 1) (qv 2))))),_,(ql (qB (qr (zS fun _ _ => .int _) (ce_c (.int _)) (qr (qD fun _ _ => .int _) (qt (qa (qb 0) (qa (ce_c (.str _)) qf))) (ce_c (.int _)))) (qu 2))
   (qA (ce_chain (qD fun _ _ => .bl _) (qD fun _ _ => .bl _) (ce_neg (qb 2)) (qb 1) (qb 2)))),fun ts Qt h => ?_⟩
 obtain ⟨bits,ms,n,m,rfl,hl,hm,s0,s1,q⟩:=h
 walk_at "u"
 refine ⟨bits,ms, "small", m,rfl,hl,hm, ?_⟩
 walk_at "u"
 refine ⟨⟨by omega,by omega,by decide⟩, ?_⟩
 rw [Int.one_mul]
 unfold Jc at q
 generalize (2:Int) ^ (bits - m.2.1 - 1).toNat = half at q ⊢
 by_cases h1 : -half≤n
 ·rw [if_pos h1]
  simpa only [h1,true_and] using q
 ·rw [if_neg h1]
  simpa only [h1,false_and,decide_false] using q
theorem JV {bits width:Int} (h0:0≤width) (h1:width≤bits):(2:Int) ^ bits.toNat = 2 ^ (bits - width).toNat * 2 ^ width.toNat:=by
 rw [← Int.pow_add]
 congr 1
 omega
theorem word_lt {bits width load pattern:Int} (h0:0≤width) (h1:width≤bits) (l0:0≤load) (l1:load < 2 ^ (bits - width).toNat) (p0:0≤pattern) (p1:pattern < 2 ^ width.toNat) :
  0≤load * 2 ^ width.toNat + pattern∧load * 2 ^ width.toNat + pattern < 2 ^ bits.toNat:=by
 have hp:=vz width.toNat
 have m0:=Int.mul_nonneg l0 (Int.le_of_lt hp)
 refine ⟨by omega, ?_⟩
 rw [JV h0 h1]
 have:(load + 1) * 2 ^ width.toNat≤2 ^ (bits - width).toNat * 2 ^ width.toNat:=Int.mul_le_mul_of_nonneg_right (by omega) (Int.le_of_lt hp)
 rw [Int.add_mul,Int.one_mul] at this
 omega
abbrev KL:=Str × Int
def tOf (x:KL):T:=if x.1 = "small" then .int x.2 else if x.1 = "one" then .str (three3.getD x.2.toNat "none") else .tup [.str x.1, .int x.2]
structure Vld (bits:Int) (ms:List Mk3) (x:KL) (m:Mk3):Prop where
 k:OfKind ms x.1 m
 s:x.1 = "small" → -(2 ^ (bits - m.2.1 - 1).toNat)≤x.2∧x.2 < 2 ^ (bits - m.2.1 - 1).toNat
 o:x.1 ≠ "small" → 0≤x.2∧x.2 < 2 ^ (bits - m.2.1).toNat
 g:x.1 = "sign" → x.2 < 128
 t:x.1 = "one" → x.2 < 3
theorem J6 {bits:Int} {ms:List Mk3} (r:Right bits ms) {word:Int} {m:Mk3} (hm:m ∈ ms) (h:on word m = true):∃ l,ms.filter (on word) = m :: l:=by
 have hmem:m ∈ ms.filter (on word):=List.mem_filter.mpr ⟨hm,h⟩
 have hpw:(ms.filter (on word)).Pairwise fun m m' => Disj m.2 m'.2:=r.d.sublist List.filter_sublist
 cases e:ms.filter (on word) with
 | nil => rw [e] at hmem; cases hmem
 | cons a l =>
  rw [e] at hmem hpw
  rcases List.mem_cons.mp hmem with rfl | hl
  ·exact ⟨l,rfl⟩
  ·have ha:on word a = true:=(List.mem_filter.mp (by rw [e]; exact List.mem_cons_self)).2
   exact absurd ⟨of_decide_eq_true ha,of_decide_eq_true h⟩ ((List.pairwise_cons.mp hpw).1 m hl word)
theorem half_two {s:Int} (h:1≤s):(2:Int) ^ s.toNat = 2 * 2 ^ (s - 1).toNat:=by
 have e:s.toNat = (s - 1).toNat + 1:=by omega
 rw [e,Int.pow_succ,Int.mul_comm]
theorem Xi {s l:Int} (h:1≤s) (h1 : -(2 ^ (s - 1).toNat)≤l) (h2:l < 2 ^ (s - 1).toNat):jL s (l % 2 ^ s.toNat) = l:=by
 unfold jL
 rw [half_two h]
 generalize (2:Int) ^ (s - 1).toNat = a at h1 h2 ⊢
 by_cases hl:0≤l
 ·rw [Int.emod_eq_of_lt hl (by omega),if_neg (by omega)]
 ·have:l % (2 * a) = l + 2 * a:=by
   rw [← Int.add_emod_right,Int.emod_eq_of_lt (by omega) (by omega)]
  rw [this,if_pos (by omega)]
  omega
theorem Z3 {load w p:Int} (p0:0≤p) (p1:p < 2 ^ w.toNat):(load * 2 ^ w.toNat + p) / 2 ^ w.toNat = load∧(load * 2 ^ w.toNat + p) % 2 ^ w.toNat = p:=by
 have hp:=vz w.toNat
 constructor
 ·rw [Int.add_comm,Int.add_mul_ediv_right _ _ (Int.ne_of_gt hp),Int.ediv_eq_zero_of_lt p0 p1,Int.zero_add]
 ·rw [Int.add_comm,Int.add_mul_emod_self_right]
  exact Int.emod_eq_of_lt p0 p1
theorem Vld.load {bits:Int} {ms:List Mk3} {x:KL} {m:Mk3} (h:Vld bits ms x m):0≤x.2 % 2 ^ (bits - m.2.1).toNat∧x.2 % 2 ^ (bits - m.2.1).toNat < 2 ^ (bits - m.2.1).toNat :=
 ⟨Int.emod_nonneg _ (Int.ne_of_gt (vz _)),Int.emod_lt_of_pos _ (vz _)⟩
theorem Vld.there {bits:Int} {ms:List Mk3} (r:Right bits ms) {x:KL} {m:Mk3} (h:Vld bits ms x m):0≤xG bits m x.2∧xG bits m x.2 < 2 ^ bits.toNat∧Qn bits ms (xG bits m x.2) = tOf x:=by
 have hb:=r.b
 have hmw:=r.w m h.k.mem
 have hmp:=r.p m h.k.mem
 have hnd:=zE m.1
 have hl:=h.load
 have hwd:=word_lt (bits:=bits) (width:=m.2.1) (by omega) (by omega) hl.1 hl.2 hmp.1 hmp.2
 refine ⟨hwd.1,hwd.2, ?_⟩
 unfold xG
 have hd:=Z3 (load:=x.2 % 2 ^ (bits - m.2.1).toNat) (w:=m.2.1) hmp.1 hmp.2
 obtain ⟨l,e⟩:=J6 r (word:=x.2 % 2 ^ (bits - m.2.1).toNat * 2 ^ m.2.1.toNat + m.2.2) h.k.mem (decide_eq_true hd.2)
 unfold Qn
 rw [e]
 simp only
 rw [hd.1]
 unfold XZ tOf
 rw [h.k.is]
 by_cases h1:x.1 = "small"
 ·rw [if_pos h1,if_pos h1]
  rw [Xi (by omega) (h.s h1).1 (h.s h1).2]
 ·have ho:=h.o h1
  rw [if_neg h1,if_neg h1,Int.emod_eq_of_lt ho.1 ho.2]
  by_cases h2:x.1 = "one"
  ·rw [if_pos h2,if_pos h2,if_pos (h.t h2)]
  ·rw [if_neg h2,if_neg h2,if_neg (fun z => by have:=h.g z.1; omega)]
theorem three_at {l:Int} (h0:0≤l) (h1:l < 3):three3[l.toNat]? = some (three3.getD l.toNat "none"):=by
 rcases (show l = 0∨l = 1∨l = 2 by omega) with rfl | rfl | rfl <;> rfl
theorem Vld.worth {bits:Int} {ms:List Mk3} {x:KL} {m:Mk3} (h:Vld bits ms x m):WorthT (tOf x) x.1 x.2:=by
 unfold tOf
 split
 ·rename_i h1; rw [h1]; exact .int _
 ·split
  ·rename_i h1 h2
   have ho:=h.o h1
   have:=WorthT.one (three_at ho.1 (h.t h2))
   rw [Int.toNat_of_nonneg ho.1] at this
   rw [h2]
   exact this
  ·exact .tup _
theorem WorthT.det {t:T} {k k':Str} {l l':Int} (a:WorthT t k l) (b:WorthT t k' l'):k = k'∧l = l':=by
 cases a with
 | int n => cases b; exact ⟨rfl,rfl⟩
 | tup => cases b; exact ⟨rfl,rfl⟩
 | @one _ j h =>
  cases b with
  | @one _ j' h' =>
   have:=zl h j'
   have:=zl h' j
   refine ⟨rfl, ?_⟩
   rcases Nat.lt_trichotomy j j' with z | z | z
   ·exact absurd h (zl h' j z)
   ·rw [z]
   ·exact absurd h' (zl h j' z)
theorem tOf_inj {bits:Int} {ms:List Mk3} {x y:KL} {m m':Mk3} (h:Vld bits ms x m) (h':Vld bits ms y m') (e:tOf x = tOf y):x = y:=by
 have a:=h.worth
 rw [e] at a
 obtain ⟨e1,e2⟩:=a.det h'.worth
 exact Prod.ext e1 e2
def vB (ms:List Mk3) (kind:Str):Mk3:=(ms.filter fun m => decide (m.1 = kind)).headD ("", 0,0)
theorem OfKind.mk {ms:List Mk3} {kind:Str} {m:Mk3} (h:OfKind ms kind m):vB ms kind = m:=by
 obtain ⟨r,e⟩:=h
 unfold vB
 rw [e]
 rfl
def wdK (bits:Int) (ms:List Mk3) (x:KL):Int:=xG bits (vB ms x.1) x.2
theorem ZQ {p:Prop} [Decidable p] {a b:Prop} (h:¬ p) (q:b):if p then a else b:=by rw [if_neg h]; exact q
theorem kQ {p:Prop} [Decidable p] {a b:Prop} (h:p) (q:a):if p then a else b:=by rw [if_pos h]; exact q
def hw (bits:Int) (ms:List Mk3) (ws:List KL):MO:=.lst (ws.map fun x => .p (.int (wdK bits ms x)))
def flds (bits:Int) (ms:List Mk3) (room:Int) (h kp:Nat):List (Str × U):=[("laying", .p (layT bits ms)),("room", .p (.int room)),("held", .m h),("kept", .m kp),("quick", .p (.int 0)),("slow", .p (.int 0)),("sweeps", .p (.int 0))]
structure InW (bits:Int) (ms:List Mk3) (x:KL):Prop where
 v:Vld bits ms x (vB ms x.1)
 k:x.1 = "small" ∨ x.1 = "sign" ∨ x.1 = "one"
structure TxStore (K:PySem.W.Frag) (C:Addr):Prop where
 c:Cls K C
 n1:NoAttr K C "laying"
 n2:NoAttr K C "room"
 n3:NoAttr K C "held"
 n4:NoAttr K C "kept"
 n5:NoAttr K C "quick"
 n6:NoAttr K C "slow"
 n7:NoAttr K C "sweeps"
structure Sto (C:Addr) (M:MM) (s h kp:Nat) (bits:Int) (ms:List Mk3) (room:Int) (ws:List KL):Prop where
 s0:M[s]? = some (.ins C (flds bits ms room h kp))
 hl:M[h]? = some (hw bits ms ws)
 kl:M[kp]? = some (.lst [])
 ns:h≠s
 nk:h≠kp
 R:Right bits ms
 l8:ws.length = 8
 ok:∀ x ∈ ws,InW bits ms x
section
variable {C:Addr} {M:MM} {s h kp:Nat} {bits:Int} {ms:List Mk3} {room:Int} {ws:List KL} {Q:UK}
theorem Sto.put (S:Sto C M s h kp bits ms room ws) {r:Nat} {x:KL} (hx:InW bits ms x):Sto C (M.set h (hw bits ms (ws.set r x))) s h kp bits ms room (ws.set r x):=by
 have hh:=(List.getElem?_eq_some_iff.mp S.hl).1
 refine ⟨by rw [List.getElem?_set_ne S.ns]; exact S.s0,List.getElem?_set_self hh,by rw [List.getElem?_set_ne S.nk]; exact S.kl,S.ns,S.nk,S.R,by rw [List.length_set]; exact S.l8,fun y hy => ?_⟩
 rcases List.mem_or_eq_of_mem_set hy with z | z
 ·exact S.ok y z
 ·rw [z]; exact hx
theorem kn (TP:TxStore K C) (S:Sto C M s h kp bits ms room ws) (q:Q (.p (layT bits ms)) M):FldS K "laying" (.m s) M Q:=jA TP.c TP.n1 S.s0 (by rfl) q
theorem zF (TP:TxStore K C) (S:Sto C M s h kp bits ms room ws) (q:Q (.m h) M):FldS K "held" (.m s) M Q:=jA TP.c TP.n3 S.s0 (by rfl) q
theorem KF (TP:TxStore K C) (S:Sto C M s h kp bits ms room ws) (q:Q (.m kp) M):FldS K "kept" (.m s) M Q:=jA TP.c TP.n4 S.s0 (by rfl) q
theorem Q7 {q':Nat} {x:KL} (S:Sto C M s h kp bits ms room ws) (hq:ws[q']? = some x) (qq:Q (.p (.int (wdK bits ms x))) M):IxS qM M (.m h) (.p (.int (q':Int))) Q :=
 VY (us:=ws.map fun x => .p (.int (wdK bits ms x))) (by simp [qM,S.hl,hw]) (xt (by rw [List.getElem?_map,hq]; rfl)) qq
theorem kF {r:Nat} {x:KL} {R:MM→Prop} (S:Sto C M s h kp bits ms room ws) (hr:r < 8) (q:R (M.set h (hw bits ms (ws.set r x)))):SubS M (.m h) (.p (.int (r:Int))) (.p (.int (wdK bits ms x))) R:=by
 have e:=S.hl
 unfold hw at e
 refine ⟨h,_,r,r,rfl,e,rfl, ?_, ?_⟩
 ·unfold ixN
  simp [S.l8,hr]
  omega
 ·rw [← List.map_set (f:=fun x => U.p (T.int (wdK bits ms x)))]
  exact q
theorem mS {m:Str} {R:Prop} (S:Sto C M s h kp bits ms room ws) (hm:(flds bits ms room h kp).lookup m = none) (q:R):YD C m (.m s) M R:=meth_at S.s0 hm q
theorem kC {x:KL} {R':T→Prop} (R:Right bits ms) (hx:InW bits ms x) (q:R' (.int (wdK bits ms x))):xS [layT bits ms,tOf x] R':=by
 have hm:=hx.v.k
 have hmw:=R.w _ hm.mem
 have hnd:=zE (vB ms x.1).1
 have hb:=R.b
 refine ⟨bits,ms,tOf x,x.1,x.2,vB ms x.1,rfl,by have:=R.n; omega,hx.v.worth,hm,by omega,by omega,by omega, ?_,q⟩
 by_cases hs:x.1 = "small"
 ·exact .inl ⟨x.2,by unfold tOf; rw [if_pos hs]⟩
 ·exact .inr (hx.v.o hs)
theorem zI {n:Int}:tOf ("small", n) = .int n:=by unfold tOf; rw [if_pos rfl]
theorem xW {n:Int}:tOf ("sign", n) = .tup [.str "sign", .int n]:=by unfold tOf; rw [if_neg (show ¬ ("sign" : Str) = "small" by decide),if_neg (show ¬ ("sign" : Str) = "one" by decide)]
theorem Zn:tOf ("one", 0) = .str "none" := by unfold tOf; rw [if_neg (by decide),if_pos rfl]; rfl
end
abbrev zk:Stmt:=top 44
theorem VF:FnScope ["laying"] ["laying"] (qc zk):=⟨rfl,rfl,rfl,by decide +kernel,rfl,by decide +kernel,by decide +kernel⟩
def jz:List T→(T→Prop)→Prop:=fun ts Q => ∃ (bits:Int) (ms:List Mk3),ts = [layT bits ms]∧Q (layT bits ms)
theorem j9 {f:Addr} {fd:FuncData} (F:Fun K "own_laying" "own_laying" zk f fd) (N:Nms mg):FnOk P w K mg base CX0 1 f fd ["laying"] (spP jz):=by
 refine F.zP VF (fun ts Qt h => ?_) (fun cdv A outer s H E hr => ?_)
 ·obtain ⟨_,_,rfl,_⟩:=h
  rfl
 refine ⟨_,(qk (qx (qX (qa_c (qC (qL (K:=K) rfl) (qv 0) qd (fun _ _ => rfl)) (qa_c (ja xr (by rfl) N.list Yw (qa_c (qC (qL (K:=K) rfl) (qv 0) qd (fun _ _ => rfl)) qe)) qe))))),_,(qA (qY (qa (vk (qb 0) (ce_c (.int _))) (qa (Qi Qj (qa (vk (qb 0) (ce_c (.int _))) qf)) qf)))),fun ts Qt h => ?_⟩
 obtain ⟨bits,ms,rfl,q⟩:=h
 unfold layT
 walk_at "v"
 exact ⟨_,_,rfl,rfl,q⟩
theorem jN {M L:MM} {s:Nat} {a b:MO} (hs:s < M.length):(M.set s a ++ L).set s b = M.set s b ++ L:=by rw [List.set_append_left _ _ (by rw [List.length_set]; exact hs),List.set_set]
theorem jZ {M L:MM} {s:Nat} {a:MO} (hs:s < M.length):(M.set s a ++ L)[s]? = some a:=by rw [List.getElem?_append_left (by rw [List.length_set]; exact hs),List.getElem?_set_self hs]
abbrev zh:Stmt:=qj (top 46) 0
theorem VD:FnScope ["self", "laying", "room"] ["self", "laying", "room"] (qc zh):=⟨rfl,rfl,rfl,by decide +kernel,rfl,by decide +kernel,by decide +kernel⟩
def VO:List KL:=List.replicate 8 ("one", 0)
def KQ (C:Addr):List U→MM→UK→Prop:=fun us M Q => ∃ (s:Nat) (bits:Int) (ms:List Mk3) (room:Int),us = [.m s, .p (layT bits ms), .p (.int room)]∧M[s]? = some (.ins C [])∧Right bits ms∧InW bits ms ("one", 0)∧Q (.p .non) (M.set s (.ins C (flds bits ms room M.length (M.length + 1))) ++ [hw bits ms VO, .lst []])
theorem Kb {C:Addr} {f:Addr} {fd:FuncData} (F:Fun K "__init__" "Store.__init__" zh f fd) (TP:TxStore K C) (GReg:GInt mg "REGISTERS" 8) (DOwnLaying:Def P w K mg base "own_laying" 1 ["laying"] (spP jz)) (DWordOf:Def P w K mg base "word_of" 3 ["laying", "worth"] (spP xS)):FnOk P w K mg base CX0 4 f fd ["self", "laying", "room"] (spU (KQ C)):=by
 refine F.zU VD (fun us M Qu h => ?_) (fun cdv A outer s H E hr => ?_)
 ·obtain ⟨_,_,_,_,rfl,_⟩:=h
  rfl
 refine ⟨_,(qi (jQ (qv 0) (qo DOwnLaying (hr.mono (by first | decide | exact Nat.le_refl _)) (qa_c (qv 1) qe)) rfl)
  (qi (jQ (qv 0) (qv 2) rfl)
  (qi (jQ (qv 0) (qw J4 (vg (qa_c (qo DWordOf (hr.mono (by first | decide | exact Nat.le_refl _)) (qa_c (qv 1) (qa_c qy qe))) qe)) (JS GReg rfl)) rfl)
  (qi (jQ (qv 0) (vg qe) rfl)
  (qi (jQ (qv 0) qd rfl)
  (qi (jQ (qv 0) qd rfl)
  (qk (jQ (qv 0) qd rfl)))))))),_,(ql (j3 (qb 0) (qt (qa (qb 1) qf)))
   (ql (j3 (qb 0) (qb 2))
   (ql (j3 (qb 0) (Vk (vG (qa (qt (qa (qb 1) (qa (ce_c (.str _)) qf))) qf)) (ce_c (.int _))))
   (ql (j3 (qb 0) (Xa qf))
   (ql (j3 (qb 0) (ce_c (.int _)))
   (ql (j3 (qb 0) (ce_c (.int _)))
   (j3 (qb 0) (ce_c (.int _))))))))),fun us M Qu h => ?_⟩
 obtain ⟨s,bits,ms,room,rfl,em,R,h1,q⟩:=h
 have hs:=(List.getElem?_eq_some_iff.mp em).1
 walk_at "v"
 refine ⟨bits,ms,rfl, ?_⟩
 walk_at "v"
 refine zt TP.c TP.n1 em (by decide) ?_
 walk_at "v"
 refine zt TP.c TP.n2 (List.getElem?_set_self hs) (by show 1 < 1000; decide) ?_
 rw [List.set_set]
 walk_at "v"
 rw [← Zn]
 refine kC R h1 ?_
 walk_at "v"
 refine Jm (by decide) (by decide) (by show 8≤sizeLine; decide) ?_
 refine zt TP.c TP.n3 (jZ hs) (by show 2 < 1000; decide) ?_
 rw [jN hs]
 walk_at "v"
 refine zt TP.c TP.n4 (by rw [List.append_assoc]; exact jZ hs) (by show 3 < 1000; decide) ?_
 rw [List.append_assoc,jN hs]
 walk_at "v"
 refine zt TP.c TP.n5 (jZ hs) (by show 4 < 1000; decide) ?_
 rw [jN hs]
 walk_at "v"
 refine zt TP.c TP.n6 (jZ hs) (by show 5 < 1000; decide) ?_
 rw [jN hs]
 walk_at "v"
 refine zt TP.c TP.n7 (jZ hs) (by show 6 < 1000; decide) ?_
 rw [jN hs]
 walk_at "v"
 simp only [List.length_append,List.length_set,List.length_cons,List.length_nil,Nat.zero_add]
 exact q
def V1 (C:Addr):List U→MM→UK→Prop:=fun us M Q => ∃ (s h kp:Nat) (bits:Int) (ms:List Mk3) (room:Int) (ws:List KL),us = [.m s]∧Sto C M s h kp bits ms room ws∧Q (.p (.lst (ws.map fun x => .int (wdK bits ms x)))) M
def gSOut (C:Addr):List U→MM→UK→Prop:=fun us M Q => ∃ (s h kp:Nat) (bits:Int) (ms:List Mk3) (room:Int) (ws:List KL),us = [.m s]∧Sto C M s h kp bits ms room ws∧Q (.p (.lst [])) M
def kW (C:Addr) (kind:Str) (a:KL→T):List U→MM→UK→Prop:=fun us M Q => ∃ (s h kp:Nat) (bits:Int) (ms:List Mk3) (room:Int) (ws:List KL) (r:Nat) (x:KL),us = [.m s, .p (.int (r:Int)), .p (a x)]∧Sto C M s h kp bits ms room ws∧r < 8∧x.1 = kind∧InW bits ms x∧Q (.p .non) (M.set h (hw bits ms (ws.set r x)))
def KU (C:Addr):List U→MM→UK→Prop:=fun us M Q => ∃ (s h kp:Nat) (bits:Int) (ms:List Mk3) (room:Int) (ws:List KL) (r q:Nat) (x:KL),us = [.m s, .p (.int (r:Int)), .p (.int (q:Int))]∧Sto C M s h kp bits ms room ws∧r < 8∧ws[q]? = some x∧Q (.p .non) (M.set h (hw bits ms (ws.set r x)))
def xQ (k:Str):Str:=if k = "small" then "number" else k
def kq (C:Addr):List U→MM→UK→Prop:=fun us M Q => ∃ (s h kp:Nat) (bits:Int) (ms:List Mk3) (room:Int) (ws:List KL) (q:Nat) (x:KL),us = [.m s, .p (.int (q:Int))]∧Sto C M s h kp bits ms room ws∧ws[q]? = some x∧Q (.p (.str (xQ x.1))) M
def Q9 (C:Addr):List U→MM→UK→Prop:=fun us M Q => ∃ (s h kp:Nat) (bits:Int) (ms:List Mk3) (room:Int) (ws:List KL) (q:Nat) (x:KL),us = [.m s, .p (.int (q:Int))]∧Sto C M s h kp bits ms room ws∧ws[q]? = some x∧Q (.p (tOf x)) M
def KP (C:Addr):List U→MM→UK→Prop:=fun us M Q => ∃ (s h kp:Nat) (bits:Int) (ms:List Mk3) (room:Int) (ws:List KL) (q p:Nat) (x y:KL),us = [.m s, .p (.int (q:Int)), .p (.int (p:Int))]∧Sto C M s h kp bits ms room ws∧ws[q]? = some x∧ws[p]? = some y∧Q (.p (.bl (decide (x = y)))) M
theorem snH {C:Addr} {M:MM} {s h kp:Nat} {bits:Int} {ms:List Mk3} {room:Int} {ws:List KL} (S:Sto C M s h kp bits ms room ws):sn M (.m h) = some (.lst (ws.map fun x => .int (wdK bits ms x))):=by
 simp only [sn,S.hl,hw]
 rw [show (ws.map fun x => U.p (.int (wdK bits ms x))) = (ws.map fun x => T.int (wdK bits ms x)).map U.p by rw [List.map_map]; rfl,zN]
 rfl
abbrev vX:Stmt:=qj (top 46) 1
theorem Qy:FnScope ["self"] ["self"] (qc vX):=⟨rfl,rfl,rfl,by decide +kernel,rfl,by decide +kernel,by decide +kernel⟩
theorem Xw {C:Addr} {f:Addr} {fd:FuncData} (F:Fun K "words" "Store.words" vX f fd) (N:Nms mg) (TP:TxStore K C):FnOk P w K mg base CX0 1 f fd ["self"] (spU (V1 C)):=by
 refine F.zU Qy (fun us M Qu h => ?_) (fun cdv A outer s H E hr => ?_)
 ·obtain ⟨_,_,_,_,_,_,_,rfl,_⟩:=h
  rfl
 refine ⟨_,(qk (qx (ja xr (by rfl) N.list Yw (qa_c (vA (qv 0) rfl) qe)))),_,(qA (Qi Qj (qa (vC (qb 0)) qf))),fun us M Qu h => ?_⟩
 obtain ⟨s,h,kp,bits,ms,room,ws,rfl,S,q⟩:=h
 walk_at "v"
 refine zF TP S ?_
 walk_at "v"
 exact ⟨_,by rw [sns,snH S]; rfl,_,_,rfl,rfl,q⟩
abbrev vD:Stmt:=qj (top 46) 2
theorem j6:FnScope ["self"] ["self"] (qc vD):=⟨rfl,rfl,rfl,by decide +kernel,rfl,by decide +kernel,by decide +kernel⟩
theorem ok_soutU {C:Addr} {f:Addr} {fd:FuncData} (F:Fun K "outside" "Store.outside" vD f fd) (N:Nms mg) (TP:TxStore K C):FnOk P w K mg base CX0 1 f fd ["self"] (spU (gSOut C)):=by
 refine F.zU j6 (fun us M Qu h => ?_) (fun cdv A outer s H E hr => ?_)
 ·obtain ⟨_,_,_,_,_,_,_,rfl,_⟩:=h
  rfl
 refine ⟨_,(qk (qx (ja xr (by rfl) N.list Yw (qa_c (vA (qv 0) rfl) qe)))),_,(qA (Qi Qj (qa (vC (qb 0)) qf))),fun us M Qu h => ?_⟩
 obtain ⟨s,h,kp,bits,ms,room,ws,rfl,S,q⟩:=h
 walk_at "v"
 refine KF TP S ?_
 walk_at "v"
 exact ⟨_,by simp only [sns,sn,S.kl]; rfl,_,_,rfl,rfl,q⟩
abbrev ze:Stmt:=qj (top 46) 8
theorem VA:FnScope ["self", "r", "k"] ["self", "r", "k"] (qc ze):=⟨rfl,rfl,rfl,by decide +kernel,rfl,by decide +kernel,by decide +kernel⟩
theorem J8 {C:Addr} {f:Addr} {fd:FuncData} (F:Fun K "sign" "Store.sign" ze f fd) (N:Nms mg) (TP:TxStore K C) (DWordOf:Def P w K mg base "word_of" 3 ["laying", "worth"] (spP xS)):FnOk P w K mg base CX0 4 f fd ["self", "r", "k"] (spU (kW C "sign" fun x => .int x.2)):=by
 refine F.zU VA (fun us M Qu h => ?_) (fun cdv A outer s H E hr => ?_)
 ·obtain ⟨_,_,_,_,_,_,_,_,_,rfl,_⟩:=h
  rfl
 refine ⟨_,(qk (zM (qo DWordOf (hr.mono (by first | decide | exact Nat.le_refl _)) (qa_c (vA (qv 0) rfl) (qa_c (qX (qa_c qy (qa_c (qv 2) qe))) qe))) (xk (vA (qv 0) rfl) (qv 1) vO))),_,(qB (qt (qa (vC (qb 0)) (qa (qY (qa (ce_c (.str _)) (qa (qb 2) qf))) qf))) (kA (vC (qb 0)) (qb 1))),fun us M Qu h => ?_⟩
 obtain ⟨s,h,kp,bits,ms,room,ws,r,⟨k1,k2⟩,rfl,S,hr8,hk,hx,q⟩:=h
 have hk:k1 = "sign" := hk
 subst hk
 walk_at "v"
 refine kn TP S ?_
 walk_at "v"
 rw [← xW]
 refine kC S.R hx ?_
 walk_at "v"
 refine zF TP S ?_
 walk_at "v"
 exact kF S hr8 q
abbrev zJ:Stmt:=qj (top 46) 9
theorem Xm:FnScope ["self", "r", "text"] ["self", "r", "text"] (qc zJ):=⟨rfl,rfl,rfl,by decide +kernel,rfl,by decide +kernel,by decide +kernel⟩
theorem ok_soneU {C:Addr} {f:Addr} {fd:FuncData} (F:Fun K "one" "Store.one" zJ f fd) (N:Nms mg) (TP:TxStore K C) (DWordOf:Def P w K mg base "word_of" 3 ["laying", "worth"] (spP xS)):FnOk P w K mg base CX0 4 f fd ["self", "r", "text"] (spU (kW C "one" tOf)):=by
 refine F.zU Xm (fun us M Qu h => ?_) (fun cdv A outer s H E hr => ?_)
 ·obtain ⟨_,_,_,_,_,_,_,_,_,rfl,_⟩:=h
  rfl
 refine ⟨_,(qk (zM (qo DWordOf (hr.mono (by first | decide | exact Nat.le_refl _)) (qa_c (vA (qv 0) rfl) (qa_c (qv 2) qe))) (xk (vA (qv 0) rfl) (qv 1) vO))),_,(qB (qt (qa (vC (qb 0)) (qa (qb 2) qf))) (kA (vC (qb 0)) (qb 1))),fun us M Qu h => ?_⟩
 obtain ⟨s,h,kp,bits,ms,room,ws,r,x,rfl,S,hr8,hk,hx,q⟩:=h
 walk_at "v"
 refine kn TP S ?_
 walk_at "v"
 refine kC S.R hx ?_
 walk_at "v"
 refine zF TP S ?_
 walk_at "v"
 exact kF S hr8 q
abbrev zi:Stmt:=qj (top 46) 10
theorem VE:FnScope ["self", "r", "q"] ["self", "r", "q"] (qc zi):=⟨rfl,rfl,rfl,by decide +kernel,rfl,by decide +kernel,by decide +kernel⟩
theorem Kc {C:Addr} {f:Addr} {fd:FuncData} (F:Fun K "copy" "Store.copy" zi f fd) (N:Nms mg) (TP:TxStore K C):FnOk P w K mg base CX0 1 f fd ["self", "r", "q"] (spU (KU C)):=by
 refine F.zU VE (fun us M Qu h => ?_) (fun cdv A outer s H E hr => ?_)
 ·obtain ⟨_,_,_,_,_,_,_,_,_,_,rfl,_⟩:=h
  rfl
 refine ⟨_,(qk (zM (qC (qm (K:=K) rfl) (vA (qv 0) rfl) (qv 2) (fun _ _ => rfl)) (xk (vA (qv 0) rfl) (qv 1) vO))),_,(qB (qZ (vC (qb 0)) (qb 2)) (kA (vC (qb 0)) (qb 1))),fun us M Qu h => ?_⟩
 obtain ⟨s,h,kp,bits,ms,room,ws,r,q',x,rfl,S,hr8,hx,q⟩:=h
 walk_at "v"
 refine zF TP S ?_
 walk_at "v"
 refine Q7 S hx ?_
 walk_at "v"
 refine zF TP S ?_
 walk_at "v"
 exact kF S hr8 q
abbrev vJ:Stmt:=qj (top 46) 7
theorem scStoreNumber:FnScope ["self", "r", "n", "thing"] ["self", "r", "n"] (qc vJ):=⟨rfl,rfl,rfl,by decide +kernel,rfl,by decide +kernel,by decide +kernel⟩
theorem ok_snumU {C:Addr} {f:Addr} {fd:FuncData} (F:Fun K "number" "Store.number" vJ f fd) (N:Nms mg) (TP:TxStore K C) (TStore:Cls K C) (DIsSmall:Def P w K mg base "is_small" 3 ["laying", "n"] (spP Qa)) (DWordOf:Def P w K mg base "word_of" 3 ["laying", "worth"] (spP xS)) (DIsGreat:Def P w K mg base "is_great" 2 ["laying", "n"] (spP fun _ _ => False)) (DRowsOf:Def P w K mg base "rows_of" 2 ["laying", "n"] (spP fun _ _ => False)) (MStoreMakeRoom:MDef P w K mg base C "make_room" 2 ["self", "size"] (spU fun _ _ _ => False)) (MStoreLay:MDef P w K mg base C "lay" 2 ["self", "r", "kind", "thing"] (spU fun _ _ _ => False)):FnOk P w K mg base CX0 4 f fd ["self", "r", "n"] (spU (kW C "small" tOf)):=by
 refine F.zU scStoreNumber (fun us M Qu h => ?_) (fun cdv A outer s H E hr => ?_)
 ·obtain ⟨_,_,_,_,_,_,_,_,_,rfl,_⟩:=h
  rfl
 refine ⟨_,(qi (v3 (v9 (qo DIsSmall (hr.mono (by first | decide | exact Nat.le_refl _)) (qa_c (vA (qv 0) rfl) (qa_c (qv 2) qe))))
   (qi (zM (qo DWordOf (hr.mono (by first | decide | exact Nat.le_refl _)) (qa_c (vA (qv 0) rfl) (qa_c (qv 2) qe))) (xk (vA (qv 0) rfl) (qv 1) vO))
   (qk qs_retN))
   qR)
  (qi (v3 (v9 (qo DIsGreat (hr.mono (by first | decide | exact Nat.le_refl _)) (qa_c (vA (qv 0) rfl) (qa_c (qv 2) qe))))
   (qk qs_raise)
   qR)
  (qi (qH (i:=3) scStoreNumber.nd rfl (Or.inl rfl) (qo DRowsOf (hr.mono (by first | decide | exact Nat.le_refl _)) (qa_c (vA (qv 0) rfl) (qa_c (qv 2) qe))))
  (qi (zo (vo MStoreMakeRoom TStore (qv 0) (hr.mono (by first | decide | exact Nat.le_refl _)) (qa_c (qN jk (by rfl) N.len Yx (qa_c (qv 3) qe)) qe)))
  (qk (zo (vo MStoreLay TStore (qv 0) (hr.mono (by first | decide | exact Nat.le_refl _)) (qa_c (qv 1) (qa_c qy (qa_c (qv 3) qe)))))))))),_,(ql (v6 (ct_b (qt (qa (vC (qb 0)) (qa (qb 2) qf))))
   (ql (qB (qt (qa (vC (qb 0)) (qa (qb 2) qf))) (kA (vC (qb 0)) (qb 1)))
   cs_retN)
   qQ)
   (ql (v6 (ct_b (qt (qa (vC (qb 0)) (qa (qb 2) qf))))
   cs_never
   qQ)
   (ql (qB (qt (qa (vC (qb 0)) (qa (qb 2) qf))) (qu 3))
   (ql (zu (vh (qb 0) (qa (Ym (qa (qb 3) qf)) qf)))
   (zu (vh (qb 0) (qa (qb 1) (qa (ce_c (.str _)) (qa (qb 3) qf))))))))),fun us M Qu h => ?_⟩
 obtain ⟨s,h,kp,bits,ms,room,ws,r,⟨k1,n⟩,rfl,S,hr8,hk,hx,q⟩:=h
 have hk:k1 = "small" := hk
 subst hk
 rw [zI]
 walk_at "v"
 refine kn TP S ?_
 walk_at "v"
 have hm:OfKind ms "small" (vB ms "small"):=hx.v.k
 have hmw:=S.R.w _ hm.mem
 have hnd:=zE (vB ms "small").1
 have hb:=S.R.b
 have hn:=S.R.n
 refine ⟨bits,ms,n,vB ms "small", rfl,by omega,hm,by omega,by omega, ?_⟩
 rw [show Jc (bits - (vB ms "small").2.1) n = true from decide_eq_true (hx.v.s rfl)]
 walk_at "v"
 refine kn TP S ?_
 walk_at "v"
 have e:=@zI n
 rw [← e]
 refine kC S.R hx ?_
 walk_at "v"
 refine zF TP S ?_
 walk_at "v"
 exact kF S hr8 q
theorem Kt {bits:Int} {ms:List Mk3} {x:KL} (r:Right bits ms) (hx:InW bits ms x):jU (wdK bits ms x) ms = .str x.1:=by
 have h:=hx.v
 have hmp:=r.p _ h.k.mem
 have hon:on (wdK bits ms x) (vB ms x.1) = true:=decide_eq_true (Z3 hmp.1 hmp.2).2
 obtain ⟨l,e⟩:=J6 r h.k.mem hon
 unfold jU
 rw [e]
 show T.str (vB ms x.1).1 = _
 rw [OfKind.is h.k]
def Ky:List (Str × V):=[("small", .str "number"),("far", .str "number"),("pair", .str "pair"),("sign", .str "sign"),("one", .str "one")]
def kindsT:List (Str × T):=[("small", .str "number"),("far", .str "number"),("pair", .str "pair"),("sign", .str "sign"),("one", .str "one")]
theorem kinds_sc:Paired (fun (a:Str × V) (b:Str × T) => a.1 = b.1∧Sc a.2 b.2) Ky kindsT:=.cons ⟨rfl, .str _⟩ (.cons ⟨rfl, .str _⟩ (.cons ⟨rfl, .str _⟩ (.cons ⟨rfl, .str _⟩ (.cons ⟨rfl, .str _⟩ .nil))))
theorem Kz {bits:Int} {ms:List Mk3} {x:KL} (hx:InW bits ms x):kindsT.lookup x.1 = some (.str (xQ x.1)):=by
 rcases hx.k with h | h | h <;> rw [h] <;> rfl
abbrev zg:Stmt:=qj (top 46) 26
theorem VC:FnScope ["self", "q"] ["self", "q"] (qc zg):=⟨rfl,rfl,rfl,by decide +kernel,rfl,by decide +kernel,by decide +kernel⟩
theorem Ka {C kd:Addr} {f:Addr} {fd:FuncData} (F:Fun K "kind" "Store.kind" zg f fd) (N:Nms mg) (TP:TxStore K C) (DKinds:KDi K w mg "KINDS_BY_MARK" kd Ky) (DMarkOf:Def P w K mg base "mark_of" 2 ["laying", "word"] (spP j2)):FnOk P w K mg base CX0 3 f fd ["self", "q"] (spU (kq C)):=by
 refine F.zU VC (fun us M Qu h => ?_) (fun cdv A outer s H E hr => ?_)
 ·obtain ⟨_,_,_,_,_,_,_,_,_,rfl,_⟩:=h
  rfl
 refine ⟨_,(qk (qx (qe_kd DKinds rfl (qo DMarkOf (hr.mono (by first | decide | exact Nat.le_refl _)) (qa_c (vA (qv 0) rfl) (qa_c (qC (qm (K:=K) rfl) (vA (qv 0) rfl) (qv 1) (fun _ _ => rfl)) qe))) (fun _ _ => rfl)))),_,(qA (ce_kd kinds_sc (qt (qa (vC (qb 0)) (qa (qZ (vC (qb 0)) (qb 1)) qf))))),fun us M Qu h => ?_⟩
 obtain ⟨s,h,kp,bits,ms,room,ws,q',x,rfl,S,hq,q⟩:=h
 have hx:=S.ok x (List.mem_of_getElem? hq)
 walk_at "v"
 unfold uKD
 walk_at "v"
 refine kn TP S ?_
 walk_at "v"
 refine zF TP S ?_
 walk_at "v"
 refine Q7 S hq ?_
 walk_at "v"
 have hn:=S.R.n
 refine ⟨bits,ms,_,rfl,S.R.wd,by omega, ?_⟩
 rw [Kt S.R hx]
 walk_at "v"
 exact ⟨_,_,rfl,Kz hx,q⟩
abbrev zj:Stmt:=top 35
theorem scReadWorth:FnScope ["laying", "outside", "word", "worth"] ["laying", "outside", "word"] (qc zj):=⟨rfl,rfl,rfl,by decide +kernel,rfl,by decide +kernel,by decide +kernel⟩
def KW:List U→MM→UK→Prop:=fun us M Q => ∃ (kp:Nat) (bits:Int) (ms:List Mk3) (x:KL),us = [.p (layT bits ms), .m kp, .p (.int (wdK bits ms x))]∧Right bits ms∧InW bits ms x∧Q (.p (tOf x)) M
theorem j8 {f:Addr} {fd:FuncData} (F:Fun K "read_worth" "read_worth" zj f fd) (N:Nms mg) (DWorthOf:Def P w K mg base "worth_of" 3 ["laying", "word"] (spP kT)) (DMarkOf:Def P w K mg base "mark_of" 2 ["laying", "word"] (spP j2)) (DNumberAt:Def P w K mg base "number_at" 2 ["laying", "outside", "address"] (spP fun _ _ => False)):FnOk P w K mg base CX0 4 f fd ["laying", "outside", "word"] (spU KW):=by
 refine F.zU scReadWorth (fun us M Qu h => ?_) (fun cdv A outer s H E hr => ?_)
 ·obtain ⟨_,_,_,_,rfl,_⟩:=h
  rfl
 refine ⟨_,(qi (qH (i:=3) scReadWorth.nd rfl (Or.inl rfl) (qo DWorthOf (hr.mono (by first | decide | exact Nat.le_refl _)) (qa_c (qv 0) (qa_c (qv 2) qe))))
  (qi (v3 (qJ op_eq (qo DMarkOf (hr.mono (by first | decide | exact Nat.le_refl _)) (qa_c (qv 0) (qa_c (qv 2) qe))) qy (qK _))
   (qk (qx (qo DNumberAt (hr.mono (by first | decide | exact Nat.le_refl _)) (qa_c (qv 0) (qa_c (qv 1) (qa_c (qC (qL (K:=K) rfl) (qv 3) qd (fun _ _ => rfl)) qe))))))
   qR)
  (qk (qx (qv 3))))),_,(ql (qB (qt (qa (qb 0) (qa (qb 2) qf))) (qu 3))
   (ql (v6 (qP (qr vQ (qt (qa (qb 0) (qa (qb 2) qf))) (ce_c (.str _))))
   (qA (Xb (qa (qb 0) (qa (qb 1) (qa (vk (qb 3) (ce_c (.int _))) qf)))))
   qQ)
   (qA (qb 3)))),fun us M Qu h => ?_⟩
 obtain ⟨kp,bits,ms,x,rfl,R,hx,q⟩:=h
 walk_at "v"
 have hth:=hx.v.there R
 refine ⟨bits,ms,_,rfl,R,hth.1, ?_⟩
 rw [show Qn bits ms (wdK bits ms x) = tOf x from hth.2.2]
 walk_at "v"
 have hn:=R.n
 refine ⟨bits,ms,_,rfl,R.wd,by omega, ?_⟩
 rw [Kt R hx]
 walk_at "v"
 refine ZQ (fun z => ?_) ?_
 ·rcases hx.k with h | h | h <;> rw [h] at z <;> revert z <;> decide
 walk_at "v"
 exact q
abbrev zd:Stmt:=qj (top 46) 27
theorem Vz:FnScope ["self", "q"] ["self", "q"] (qc zd):=⟨rfl,rfl,rfl,by decide +kernel,rfl,by decide +kernel,by decide +kernel⟩
theorem XM {bits:Int} {ms:List Mk3} {x:KL} (hx:InW bits ms x):¬ xQ x.1 = "pair" := fun z => by
 unfold xQ at z
 rcases hx.k with h | h | h <;> rw [h] at z <;> revert z <;> decide
theorem J7 {C:Addr} {f:Addr} {fd:FuncData} (F:Fun K "told" "Store.told" zd f fd) (N:Nms mg) (TP:TxStore K C) (TStore:Cls K C) (MStoreKind:MDef P w K mg base C "kind" 3 ["self", "q"] (spU (kq C))) (DReadWorth:Def P w K mg base "read_worth" 4 ["laying", "outside", "word"] (spU KW)):FnOk P w K mg base CX0 5 f fd ["self", "q"] (spU (Q9 C)):=by
 refine F.zU Vz (fun us M Qu h => ?_) (fun cdv A outer s H E hr => ?_)
 ·obtain ⟨_,_,_,_,_,_,_,_,_,rfl,_⟩:=h
  rfl
 refine ⟨_,(qi (v3 (qJ op_eq (vo MStoreKind TStore (qv 0) (hr.mono (by first | decide | exact Nat.le_refl _)) (qa_c (qv 1) qe)) qy (qK _))
   (qk (qx qy))
   qR)
  (qk (qx (qo DReadWorth (hr.mono (by first | decide | exact Nat.le_refl _)) (qa_c (vA (qv 0) rfl) (qa_c (vA (qv 0) rfl) (qa_c (qC (qm (K:=K) rfl) (vA (qv 0) rfl) (qv 1) (fun _ _ => rfl)) qe))))))),_,(ql (v6 (qP (qr vQ (vh (qb 0) (qa (qb 1) qf)) (ce_c (.str _))))
   (qA (ce_c (.str _)))
   qQ)
   (qA (qp (qa (vC (qb 0)) (qa (vC (qb 0)) (qa (qZ (vC (qb 0)) (qb 1)) qf)))))),fun us M Qu h => ?_⟩
 obtain ⟨s,h,kp,bits,ms,room,ws,q',x,rfl,S,hq,q⟩:=h
 have hx:=S.ok x (List.mem_of_getElem? hq)
 walk_at "v"
 refine mS S (by rfl) ?_
 walk_at "v"
 refine ⟨s,h,kp,bits,ms,room,ws,q',x,rfl,S,hq, ?_⟩
 walk_at "v"
 refine ZQ (XM hx) ?_
 walk_at "v"
 refine kn TP S ?_
 walk_at "v"
 refine KF TP S ?_
 walk_at "v"
 refine zF TP S ?_
 walk_at "v"
 refine Q7 S hq ?_
 walk_at "v"
 exact ⟨kp,bits,ms,x,rfl,S.R,hx,q⟩
theorem eqTwo {x y:Str} {k l:Int} {Q:T→Prop} (q:Q (.bl (decide (x = y∧k = l)))):sEqW (.tup [.str x, .int k]) (.tup [.str y, .int l]) Q:=by
 refine .inr (.inl ⟨_,_,fun j => if j = 0 then decide (x = y) else decide (k = l),rfl,rfl,fun j u v hx hy => ?_, ?_⟩)
 ·match j with
  | 0 =>
   simp at hx hy
   subst hx hy
   have:=EqT.flat (n:=20) (a:=.str x) (b:=.str y) rfl rfl
   have e:eqV (.str x) (.str y) = decide (x = y):=by
    by_cases h:x = y
    ·subst h; simp [eqV]
    ·simp [eqV,h]
   rw [e] at this
   simpa using this
  | 1 =>
   simp at hx hy
   subst hx hy
   have:=EqT.flat (n:=20) (a:=.int k) (b:=.int l) rfl rfl
   have e:eqV (.int k) (.int l) = decide (k = l):=by
    by_cases h:k = l
    ·subst h; simp [eqV]
    ·simp [eqV,h]
   rw [e] at this
   simpa using this
  | j + 2 => simp at hx
 ·have e:((List.range (min [T.str x,T.int k].length [T.str y,T.int l].length)).all (fun j => if j = 0 then decide (x = y) else decide (k = l)) && [T.str x,T.int k].length == [T.str y,T.int l].length) = decide (x = y∧k = l):=by
   by_cases h:x = y <;> by_cases h2:k = l <;> simp [h,h2,List.range_succ]
  simp only [Bool.false_eq_true,if_false]
  rw [e]
  exact q
theorem Zq {bits:Int} {ms:List Mk3} {x:KL} (hx:InW bits ms x):(∃ n,tOf x = .int n)∨(∃ t,tOf x = .str t)∨∃ k,tOf x = .tup [.str "sign", .int k]:=by
 unfold tOf
 rcases hx.k with h | h | h <;> rw [h]
 ·exact .inl ⟨_,if_pos rfl⟩
 ·exact .inr (.inr ⟨_,by rw [if_neg (by decide),if_neg (by decide)]⟩)
 ·exact .inr (.inl ⟨_,by rw [if_neg (by decide),if_pos rfl]⟩)
theorem sameK {bits:Int} {ms:List Mk3} {x y:KL} (hx:InW bits ms x) (hy:InW bits ms y):tOf x = tOf y ↔ x = y:=⟨tOf_inj hx.v hy.v,fun h => by rw [h]⟩
theorem eqK_at {bits:Int} {ms:List Mk3} {x y:KL} {Q:T→Prop} (hx:InW bits ms x) (hy:InW bits ms y) (q:Q (.bl (decide (x = y)))):sEqW (tOf x) (tOf y) Q:=by
 have iff:=sameK hx hy
 rcases Zq hx with ⟨n,e⟩ | ⟨n,e⟩ | ⟨n,e⟩ <;> rcases Zq hy with ⟨m,e'⟩ | ⟨m,e'⟩ | ⟨m,e'⟩ <;> rw [e,e'] at iff ⊢
 ·exact .inl ⟨_,_,rfl,rfl,rfl,by rw [if_neg (by decide),decide_eq_decide.mpr (show (V.int n = V.int m) ↔ x = y by rw [← iff]; simp)]; exact q⟩
 ·exact .inl ⟨_,_,rfl,rfl,rfl,by rw [if_neg (by decide),decide_eq_decide.mpr (show (V.int n = V.str m) ↔ x = y by rw [← iff]; simp)]; exact q⟩
 ·exact .inr (.inr (.inl ⟨_,rfl,rfl,by rw [decide_eq_false (fun z => by have:=iff.mpr z; cases this)] at q; exact q⟩))
 ·exact .inl ⟨_,_,rfl,rfl,rfl,by rw [if_neg (by decide),decide_eq_decide.mpr (show (V.str n = V.int m) ↔ x = y by rw [← iff]; simp)]; exact q⟩
 ·exact .inl ⟨_,_,rfl,rfl,rfl,by rw [if_neg (by decide),decide_eq_decide.mpr (show (V.str n = V.str m) ↔ x = y by rw [← iff]; simp)]; exact q⟩
 ·exact .inr (.inr (.inl ⟨_,rfl,rfl,by rw [decide_eq_false (fun z => by have:=iff.mpr z; cases this)] at q; exact q⟩))
 ·exact .inr (.inr (.inr ⟨_,rfl,rfl,by rw [decide_eq_false (fun z => by have:=iff.mpr z; cases this)] at q; exact q⟩))
 ·exact .inr (.inr (.inr ⟨_,rfl,rfl,by rw [decide_eq_false (fun z => by have:=iff.mpr z; cases this)] at q; exact q⟩))
 ·exact eqTwo (by rw [decide_eq_decide.mpr (show (("sign" : Str) = "sign" ∧ n = m) ↔ x = y by rw [← iff]; simp)]; exact q)
theorem wd_inj {bits:Int} {ms:List Mk3} {x y:KL} (R:Right bits ms) (hx:InW bits ms x) (hy:InW bits ms y):wdK bits ms x = wdK bits ms y ↔ x = y:=⟨fun e => (sameK hx hy).mp (by rw [← (hx.v.there R).2.2, ← (hy.v.there R).2.2]; exact congrArg _ e),fun e => by rw [e]⟩
abbrev zf:Stmt:=qj (top 46) 25
theorem VB:FnScope ["self", "q", "p"] ["self", "q", "p"] (qc zf):=⟨rfl,rfl,rfl,by decide +kernel,rfl,by decide +kernel,by decide +kernel⟩
theorem J9 {C:Addr} {f:Addr} {fd:FuncData} (F:Fun K "same" "Store.same" zf f fd) (N:Nms mg) (TP:TxStore K C) (TStore:Cls K C) (MStoreKind:MDef P w K mg base C "kind" 3 ["self", "q"] (spU (kq C))) (MStoreTold:MDef P w K mg base C "told" 5 ["self", "q"] (spU (Q9 C))):FnOk P w K mg base CX0 6 f fd ["self", "q", "p"] (spU (KP C)):=by
 refine F.zU VB (fun us M Qu h => ?_) (fun cdv A outer s H E hr => ?_)
 ·obtain ⟨_,_,_,_,_,_,_,_,_,_,_,rfl,_⟩:=h
  rfl
 refine ⟨_,(qi (v3 (qJ op_eq (vo MStoreKind TStore (qv 0) (hr.mono (by first | decide | exact Nat.le_refl _)) (qa_c (qv 1) qe)) qy (qK _))
   (qk (qx (xl (op_eqW (K:=K) rfl hr.units) (vo MStoreTold TStore (qv 0) (hr.mono (by first | decide | exact Nat.le_refl _)) (qa_c (qv 1) qe)) (vo MStoreTold TStore (qv 0) (hr.mono (by first | decide | exact Nat.le_refl _)) (qa_c (qv 2) qe)) (qK _))))
   qR)
  (qk (qx (xl op_eq (qC (qm (K:=K) rfl) (vA (qv 0) rfl) (qv 1) (fun _ _ => rfl)) (qC (qm (K:=K) rfl) (vA (qv 0) rfl) (qv 2) (fun _ _ => rfl)) (qK _))))),_,(ql (v6 (qP (qr vQ (vh (qb 0) (qa (qb 1) qf)) (ce_c (.str _))))
   (qA (qr J3 (vh (qb 0) (qa (qb 1) qf)) (vh (qb 0) (qa (qb 2) qf))))
   qQ)
   (qA (qr vQ (qZ (vC (qb 0)) (qb 1)) (qZ (vC (qb 0)) (qb 2))))),fun us M Qu h => ?_⟩
 obtain ⟨s,h,kp,bits,ms,room,ws,q',p',x,y,rfl,S,hq,hp,q⟩:=h
 have hx:=S.ok x (List.mem_of_getElem? hq)
 have hy:=S.ok y (List.mem_of_getElem? hp)
 walk_at "v"
 refine mS S (by rfl) ?_
 walk_at "v"
 refine ⟨s,h,kp,bits,ms,room,ws,q',x,rfl,S,hq, ?_⟩
 walk_at "v"
 refine ite2 (fun hn => ?_) (fun hn => ?_)
 ·walk_at "v"
  refine mS S (by rfl) ?_
  walk_at "v"
  refine ⟨s,h,kp,bits,ms,room,ws,q',x,rfl,S,hq, ?_⟩
  walk_at "v"
  refine mS S (by rfl) ?_
  walk_at "v"
  refine ⟨s,h,kp,bits,ms,room,ws,p',y,rfl,S,hp, ?_⟩
  walk_at "v"
  exact eqK_at hx hy q
 ·walk_at "v"
  refine zF TP S ?_
  walk_at "v"
  refine Q7 S hq ?_
  walk_at "v"
  refine zF TP S ?_
  walk_at "v"
  refine Q7 S hp ?_
  walk_at "v"
  rw [decide_eq_decide.mpr (wd_inj S.R hx hy)]
  exact q
local macro_rules | `(tactic| walk_at "vx") => `(tactic| simp only [X3,uRetX,uSetX,uRaise,Vt,uTry,X4,X2,uFldX,uAsgX,endX,uAsG,Zs])
local macro_rules | `(tactic| walk_at "pk") => `(tactic| (walk_at "v"; repeat ((first | walk_at "vx" | refine ZQ (by decide) ?_ | refine kQ rfl ?_); walk_at "v")))
theorem sm1:jM 1:=by unfold jM; decide
theorem sm2:jM 2:=by unfold jM; decide
abbrev vK:Stmt:=top 19
theorem kH:FnScope ["store", "q", "p"] ["store", "q", "p"] (qc vK):=⟨rfl,rfl,rfl,by decide +kernel,rfl,by decide +kernel,by decide +kernel⟩
def badP (x y:KL):Option Int:=if x.1 ≠ "small" then some 1 else if y.1 ≠ "small" then some 2 else none
def KY (C:Addr):List U→MM→UK→UX→Prop:=fun us M Q X => ∃ (s h kp:Nat) (bits:Int) (ms:List Mk3) (room:Int) (ws:List KL) (q p:Nat) (x y:KL),us = [.m s, .p (.int (q:Int)), .p (.int (p:Int))]∧Sto C M s h kp bits ms room ws∧ws[q]? = some x∧ws[p]? = some y∧(badP x y = none→Q (.p .non) M)∧∀ n,badP x y = some n→X "WrongKind" (some n) M
theorem zT {bits:Int} {ms:List Mk3} {x:KL} (hx:InW bits ms x):xQ x.1 = "number" ↔ x.1 = "small" := by
 unfold xQ
 rcases hx.k with h | h | h <;> rw [h] <;> decide
theorem Ke {C CW:Addr} {f:Addr} {fd:FuncData} (F:Fun K "need_numbers" "need_numbers" vK f fd) (N:Nms mg) (TStore:Cls K C) (DWk:ExcD P w K mg base "WrongKind" CW 1) (MStoreKind:MDef P w K mg base C "kind" 3 ["self", "q"] (spU (kq C))):FnOk P w K mg base (CXe P w) 4 f fd ["store", "q", "p"] (spX mg (KY C)):=by
 refine F.zX kH (fun us M Qu Xu h => ?_) (fun cdv A outer s H E hr => ?_)
 ·obtain ⟨_,_,_,_,_,_,_,_,_,_,_,rfl,_⟩:=h
  rfl
 refine ⟨_,(ZD (qx_if (qJ op_ne (vo MStoreKind TStore (qv 0) (hr.mono (by first | decide | exact Nat.le_refl _)) (qa_c (qv 1) qe)) qy (qK _))
   (jO (QJ rfl rfl DWk (hr.mono (by first | decide | exact Nat.le_refl _)) (qa_c qd qe)))
   JO)
  (jO (qx_if (qJ op_ne (vo MStoreKind TStore (qv 0) (hr.mono (by first | decide | exact Nat.le_refl _)) (qa_c (qv 2) qe)) qy (qK _))
   (jO (QJ rfl rfl DWk (hr.mono (by first | decide | exact Nat.le_refl _)) (qa_c qd qe)))
   JO))),_,(ql (v6 (qP (qr opl_ne (vh (qb 0) (qa (qb 1) qf)) (ce_c (.str _))))
   (Vj (qa (ce_c (.int _)) qf))
   qQ)
   (v6 (qP (qr opl_ne (vh (qb 0) (qa (qb 2) qf)) (ce_c (.str _))))
   (Vj (qa (ce_c (.int _)) qf))
   qQ)),fun us M Qu Xu h => ?_⟩
 obtain ⟨s,h,kp,bits,ms,room,ws,q,p,x,y,rfl,S,hq,hp,k1,k2⟩:=h
 have hx:=S.ok x (List.mem_of_getElem? hq)
 have hy:=S.ok y (List.mem_of_getElem? hp)
 walk_at "pk"
 refine mS S (by rfl) ?_
 walk_at "pk"
 refine ⟨s,h,kp,bits,ms,room,ws,q,x,rfl,S,hq, ?_⟩
 walk_at "pk"
 by_cases h1:x.1 = "small"
 ·rw [(zT hx).mpr h1]
  walk_at "pk"
  refine mS S (by rfl) ?_
  walk_at "pk"
  refine ⟨s,h,kp,bits,ms,room,ws,p,y,rfl,S,hp, ?_⟩
  walk_at "pk"
  by_cases h2:y.1 = "small"
  ·rw [(zT hy).mpr h2]
   walk_at "pk"
   exact k1 (by unfold badP; rw [if_neg (by simp [h1]),if_neg (by simp [h2])])
  ·refine kQ (by rw [decide_eq_false (fun z => h2 ((zT hy).mp z))]; rfl) ?_
   exact ⟨2,rfl,sm2,_,_,_,rfl,rfl,k2 2 (by unfold badP; rw [if_neg (by simp [h1]),if_pos h2])⟩
 ·refine kQ (by rw [decide_eq_false (fun z => h1 ((zT hx).mp z))]; rfl) ?_
  exact ⟨1,rfl,sm1,_,_,_,rfl,rfl,k2 1 (by unfold badP; rw [if_pos h1])⟩
abbrev vY:Stmt:=qj (top 46) 24
theorem Qz:FnScope ["self", "q", "p"] ["self", "q", "p"] (qc vY):=⟨rfl,rfl,rfl,by decide +kernel,rfl,by decide +kernel,by decide +kernel⟩
def V2 (C:Addr):List U→MM→UK→UX→Prop:=fun us M Q X => ∃ (s h kp:Nat) (bits:Int) (ms:List Mk3) (room:Int) (ws:List KL) (q p:Nat) (x y:KL),us = [.m s, .p (.int (q:Int)), .p (.int (p:Int))]∧Sto C M s h kp bits ms room ws∧ws[q]? = some x∧ws[p]? = some y∧(badP x y = none→Q (.p (.bl (decide (x.2 < y.2)))) M)∧∀ n,badP x y = some n→X "WrongKind" (some n) M
theorem Yv {x y:KL} (h:badP x y = none):x.1 = "small" ∧ y.1 = "small" := by
 unfold badP at h
 split at h
 ·cases h
 ·split at h
  ·cases h
  ·exact ⟨by simpa using ‹¬ x.1≠_›,by simpa using ‹¬ y.1≠_›⟩
theorem Xx {C:Addr} {f:Addr} {fd:FuncData} (F:Fun K "below" "Store.below" vY f fd) (N:Nms mg) (TStore:Cls K C) (DNeedNumbers:DefX P w K mg base "need_numbers" 4 ["store", "q", "p"] (spX mg (KY C))) (MStoreTold:MDef P w K mg base C "told" 5 ["self", "q"] (spU (Q9 C))):FnOk P w K mg base (CXe P w) 6 f fd ["self", "q", "p"] (spX mg (V2 C)):=by
 refine F.zX Qz (fun us M Qu Xu h => ?_) (fun cdv A outer s H E hr => ?_)
 ·obtain ⟨_,_,_,_,_,_,_,_,_,_,_,rfl,_⟩:=h
  rfl
 refine ⟨_,(ZD (qx_expr (qx_call DNeedNumbers (hr.mono (by first | decide | exact Nat.le_refl _)) (qa_c (qv 0) (qa_c (qv 1) (qa_c (qv 2) qe)))))
  (jO (qx_of (qx (xl VN (vo MStoreTold TStore (qv 0) (hr.mono (by first | decide | exact Nat.le_refl _)) (qa_c (qv 1) qe)) (vo MStoreTold TStore (qv 0) (hr.mono (by first | decide | exact Nat.le_refl _)) (qa_c (qv 2) qe)) (qK _)))))),_,(ql (cs_dropX (cx_call (qa (qb 0) (qa (qb 1) (qa (qb 2) qf)))))
   (qA (qr (qD fun _ _ => .bl _) (vh (qb 0) (qa (qb 1) qf)) (vh (qb 0) (qa (qb 2) qf))))),fun us M Qu Xu h => ?_⟩
 obtain ⟨s,h,kp,bits,ms,room,ws,q,p,x,y,rfl,S,hq,hp,k1,k2⟩:=h
 walk_at "pk"
 refine ⟨s,h,kp,bits,ms,room,ws,q,p,x,y,rfl,S,hq,hp,fun hb => ?_,fun n hn => ⟨_,_,_,rfl,rfl,k2 n hn⟩⟩
 obtain ⟨h1,h2⟩:=Yv hb
 walk_at "pk"
 refine mS S (by rfl) ?_
 walk_at "pk"
 refine ⟨s,h,kp,bits,ms,room,ws,q,x,rfl,S,hq, ?_⟩
 walk_at "pk"
 refine mS S (by rfl) ?_
 walk_at "pk"
 refine ⟨s,h,kp,bits,ms,room,ws,p,y,rfl,S,hp, ?_⟩
 rw [show tOf x = .int x.2 by unfold tOf; rw [if_pos h1],show tOf y = .int y.2 by unfold tOf; rw [if_pos h2]]
 walk_at "pk"
 exact k1 hb
abbrev kh:Stmt:=top 56
theorem scAlike:FnScope ["found", "due"] ["found", "due"] (qc kh):=⟨rfl,rfl,rfl,by decide +kernel,rfl,by decide +kernel,by decide +kernel⟩
def V6:List T→(T→Prop)→Prop:=fun ts Q => ∃ t:T,ts = [t,t]∧ShowT t∧Q (.bl true)
theorem Kh {f:Addr} {fd:FuncData} (F:Fun K "_law_alike" "_law_alike" kh f fd) (NRepr:mg "repr" = none):FnOk P w K mg base CX0 1 f fd ["found", "due"] (spP V6):=by
 refine F.zP scAlike (fun ts Qt h => ?_) (fun cdv A outer s H E hr => ?_)
 ·obtain ⟨_,rfl,_⟩:=h
  rfl
 refine ⟨_,(qk (qx (xl op_eq (qN (Vl hr.gd hr.units) (by rfl) NRepr b_repr (qa_c (qv 0) qe)) (qN (Vl hr.gd hr.units) (by rfl) NRepr b_repr (qa_c (qv 1) qe)) (qK _)))),_,(qA (qr vQ (Qi Xc (qa (qb 0) qf)) (Qi Xc (qa (qb 1) qf)))),fun ts Qt h => ?_⟩
 obtain ⟨t,rfl,ht,q⟩:=h
 walk_at "v"
 rw [Js]
 refine ⟨ht, ?_⟩
 walk_at "v"
 rw [Js]
 refine ⟨ht, ?_⟩
 walk_at "v"
 exact q
abbrev Xr:Stmt:=top 59
theorem scKind:FnScope ["worth"] ["worth"] (qc Xr):=⟨rfl,rfl,rfl,by decide +kernel,rfl,by decide +kernel,by decide +kernel⟩
def K0:List T→(T→Prop)→Prop:=fun ts Q => ∃ (bits:Int) (ms:List Mk3) (x:KL),ts = [tOf x]∧InW bits ms x∧Q (.str (xQ x.1))
theorem Kg {f:Addr} {fd:FuncData} (F:Fun K "_law_kind" "_law_kind" Xr f fd) (N:Nms mg):FnOk P w K mg base CX0 1 f fd ["worth"] (spP K0):=by
 refine F.zP scKind (fun ts Qt h => ?_) (fun cdv A outer s H E hr => ?_)
 ·obtain ⟨_,_,_,rfl,_⟩:=h
  rfl
 refine ⟨_,(qk (qx (zQ (v9 (qN (vS (K:=K) rfl) (by rfl) N.isinstance vd (qa_c (qv 0) (qa_c (zR (v:=.ty "int") (by rfl) N.int XY rfl) qe)))) qy (zQ (v9 (qN (vS (K:=K) rfl) (by rfl) N.isinstance vd (qa_c (qv 0) (qa_c (zR (v:=.ty "tuple") (by rfl) N.tuple Zf rfl) qe)))) qy qy)))),_,(qA (Yn (ct_b (ji .int (qb 0))) (ce_c (.str _)) (ce_ifC (ct_b (ji .tuple (qb 0))) (.str _) (.str _)))),fun ts Qt h => ?_⟩
 obtain ⟨bits,ms,x,rfl,hx,q⟩:=h
 unfold xQ at q
 unfold tOf
 rcases hx.k with h | h | h <;> rw [h] at q ⊢
 ·rw [if_pos rfl] at q ⊢
  walk_at "v"
  exact q
 ·rw [if_neg (by decide)] at q
  rw [if_neg (by decide),if_neg (by decide)]
  walk_at "v"
  exact q
 ·rw [if_neg (by decide)] at q
  rw [if_neg (by decide),if_pos rfl]
  walk_at "v"
  exact q
local macro_rules | `(tactic| walk_at "vx") => `(tactic| simp only [X3,uRetX,uSetX,uRaise,Vt,uTry,X4,X2,uFldX,uAsgX,endX,uAsG,Zs])
local macro_rules | `(tactic| walk_at "pk") => `(tactic| (walk_at "v"; repeat ((first | walk_at "vx" | refine ZQ (by decide) ?_ | refine kQ rfl ?_); walk_at "v")))
abbrev sPut:Stmt:=top 60
theorem scPut:FnScope ["store", "r", "worth"] ["store", "r", "worth"] (qc sPut):=⟨rfl,rfl,rfl,by decide +kernel,rfl,by decide +kernel,by decide +kernel⟩
def gLPut (C:Addr):List U→MM→UK→Prop:=fun us M Q => ∃ (s h kp:Nat) (bits:Int) (ms:List Mk3) (room:Int) (ws:List KL) (r:Nat) (x:KL),us = [.m s, .p (.int (r:Int)), .p (tOf x)]∧Sto C M s h kp bits ms room ws∧r < 8∧InW bits ms x∧Q (.p .non) (M.set h (hw bits ms (ws.set r x)))
theorem ok_lputU {C:Addr} {f:Addr} {fd:FuncData} (F:Fun K "_law_put" "_law_put" sPut f fd) (N:Nms mg) (TStore:Cls K C) (MStoreNumber:MDef P w K mg base C "number" 4 ["self", "r", "n"] (spU (kW C "small" tOf))) (MStoreSign:MDef P w K mg base C "sign" 4 ["self", "r", "k"] (spU (kW C "sign" fun x => .int x.2))) (MStoreOne:MDef P w K mg base C "one" 4 ["self", "r", "text"] (spU (kW C "one" tOf))):FnOk P w K mg base CX0 5 f fd ["store", "r", "worth"] (spU (gLPut C)):=by
 refine F.zU scPut (fun us M Qu h => ?_) (fun cdv A outer s H E hr => ?_)
 ·obtain ⟨_,_,_,_,_,_,_,_,_,rfl,_⟩:=h
  rfl
 refine ⟨_,(qk (v3 (v9 (qN (vS (K:=K) rfl) (by rfl) N.isinstance vd (qa_c (qv 2) (qa_c (zR (v:=.ty "int") (by rfl) N.int XY rfl) qe))))
   (qk (zo (vo MStoreNumber TStore (qv 0) (hr.mono (by first | decide | exact Nat.le_refl _)) (qa_c (qv 1) (qa_c (qv 2) qe)))))
   (qk (v3 (v9 (qN (vS (K:=K) rfl) (by rfl) N.isinstance vd (qa_c (qv 2) (qa_c (zR (v:=.ty "tuple") (by rfl) N.tuple Zf rfl) qe))))
    (qk (zo (vo MStoreSign TStore (qv 0) (hr.mono (by first | decide | exact Nat.le_refl _)) (qa_c (qv 1) (qa_c (qC (qL (K:=K) rfl) (qv 2) qd (fun _ _ => rfl)) qe)))))
    (qk (zo (vo MStoreOne TStore (qv 0) (hr.mono (by first | decide | exact Nat.le_refl _)) (qa_c (qv 1) (qa_c (qv 2) qe))))))))),_,(v6 (ct_b (ji .int (qb 2)))
   (zu (vh (qb 0) (qa (qb 1) (qa (qb 2) qf))))
   (v6 (ct_b (ji .tuple (qb 2)))
   (zu (vh (qb 0) (qa (qb 1) (qa (vk (qb 2) (ce_c (.int _))) qf))))
   (zu (vh (qb 0) (qa (qb 1) (qa (qb 2) qf)))))),fun us M Qu h => ?_⟩
 obtain ⟨s,h,kp,bits,ms,room,ws,r,⟨k1,n⟩,rfl,S,hr8,hx,q⟩:=h
 rcases hx.k with hk | hk | hk
 ·have hk:k1 = "small" := hk
  subst hk
  have e:=@zI n
  rw [e]
  walk_at "v"
  refine mS S (by rfl) ?_
  walk_at "v"
  exact ⟨s,h,kp,bits,ms,room,ws,r,("small", n),by rw [e],S,hr8,rfl,hx,q⟩
 ·have hk:k1 = "sign" := hk
  subst hk
  rw [xW]
  walk_at "v"
  refine mS S (by rfl) ?_
  walk_at "v"
  exact ⟨s,h,kp,bits,ms,room,ws,r,("sign", n),rfl,S,hr8,rfl,hx,q⟩
 ·have hk:k1 = "one" := hk
  subst hk
  have e:tOf ("one", n) = .str (three3.getD n.toNat "none"):=by unfold tOf; rw [if_neg (show ¬ ("one" : Str) = "small" by decide),if_pos rfl]
  rw [e]
  walk_at "v"
  refine mS S (by rfl) ?_
  walk_at "v"
  exact ⟨s,h,kp,bits,ms,room,ws,r,("one", n),by rw [e],S,hr8,rfl,hx,q⟩
abbrev kg:Stmt:=top 61
theorem scBelow:FnScope ["store", "q", "p", "found", "e"] ["store", "q", "p"] (qc kg):=⟨rfl,rfl,rfl,by decide +kernel,rfl,by decide +kernel,by decide +kernel⟩
def belT (x y:KL):T:=match badP x y with
 | some n => .tup [.str "WrongKind", .int n]
 | none => .bl (decide (x.2 < y.2))
def V5 (C:Addr):List U→MM→UK→Prop:=fun us M Q => ∃ (s h kp:Nat) (bits:Int) (ms:List Mk3) (room:Int) (ws:List KL) (q p:Nat) (x y:KL),us = [.m s, .p (.int (q:Int)), .p (.int (p:Int))]∧Sto C M s h kp bits ms room ws∧ws[q]? = some x∧ws[p]? = some y∧Q (.p (belT x y)) M
theorem Xz {C CEWk g:Addr} {f:Addr} {fd:FuncData} (F:Fun K "_law_below" "_law_below" kg f fd) (N:Nms mg) (TStore:Cls K C) (CWk:ExcK K CEWk g) (AWk:NoAttr K CEWk "part") (BWk:mg "WrongKind" = some (.ref CEWk)) (EWk_Wk:PySem.W.exmOne K (.ref CEWk) (.ref CEWk) = some true) (MStoreBelow:MDefX P w K mg base C "below" 6 ["self", "q", "p"] (spX mg (V2 C))):FnOk P w K mg base CX0 7 f fd ["store", "q", "p"] (spU (V5 C)):=by
 refine F.zU scBelow (fun us M Qu h => ?_) (fun cdv A outer s H E hr => ?_)
 ·obtain ⟨_,_,_,_,_,_,_,_,_,_,_,rfl,_⟩:=h
  rfl
 refine ⟨_,(qi (qH (i:=3) scBelow.nd rfl (Or.inl rfl) kj)
  (qi (qs_try (l:=[("WrongKind", _)]) ⟨rfl,rfl,rfl,rfl⟩ (fun _ _ =>
   (jO (qx_set (i:=3) scBelow.nd rfl (Or.inl rfl) (qx_meth (qv 0) TStore MStoreBelow (hr.mono (by first | decide | exact Nat.le_refl _)) (qa_c (qv 1) (qa_c (qv 2) qe))))))
   (hh_cons BWk (fun _ => (qh_gen (i:=4) ⟨rfl,rfl,rfl,rfl⟩ BWk EWk_Wk scBelow.nd rfl rfl (fun _ _ _ ob => (qk (qH (i:=3) scBelow.nd rfl (Or.inl rfl) (qX (qa_c qy (qa_c (qe_part CWk AWk ob mem_nm (qv 4)) qe)))))))) hh_nil))
  (qk (qx (qv 3))))),_,(ql (qB (ce_c .non) (qu 3))
   (ql (cs_try (cs_setX (cx_meth (qb 0) (qa (qb 1) (qa (qb 2) qf)))) (zh_cons (fun _ => (cs_asG (fun _ _ => (qB (qY (qa (ce_c (.str _)) (qa (ce_part (qb 4)) qf))) (qu 3))))) zh_nil))
   (qA (qb 3)))),fun us M Qu h => ?_⟩
 obtain ⟨s,h,kp,bits,ms,room,ws,q,p,x,y,rfl,S,hq,hp,k⟩:=h
 walk_at "pk"
 refine mS S (by rfl) ?_
 walk_at "pk"
 refine ⟨s,h,kp,bits,ms,room,ws,q,p,x,y,rfl,S,hq,hp,fun hb => ?_,fun n hn => ?_⟩
 ·walk_at "pk"
  unfold belT at k
  rw [hb] at k
  exact k
 ·refine ⟨_,_,_,_,rfl,rfl,rfl,fun a d => ?_⟩
  walk_at "pk"
  exact ⟨n,rfl,by unfold belT at k; rw [hn] at k; exact k⟩
theorem no_int {x:KL} {n:Int} (h:¬ x.1 = "small"):¬ tOf x = .int n:=fun e => by
 unfold tOf at e
 rw [if_neg h] at e
 split at e <;> cases e
abbrev zL:Stmt:=top 62
theorem scBelowDue:FnScope ["held", "q", "p", "part", "at"] ["held", "q", "p"] (qc zL):=⟨rfl,rfl,rfl,by decide +kernel,rfl,by decide +kernel,by decide +kernel⟩
def gLDue:List U→MM→UK→Prop:=fun us M Q => ∃ (k:Nat) (ws:List KL) (q p:Nat) (x y:KL) (bits:Int) (ms:List Mk3),us = [.m k, .p (.int (q:Int)), .p (.int (p:Int))]∧M[k]? = some (.lst (ws.map fun x => .p (tOf x)))∧ws[q]? = some x∧ws[p]? = some y∧InW bits ms x∧InW bits ms y∧Q (.p (belT x y)) M
theorem kc {f:Addr} {fd:FuncData} (F:Fun K "_law_below_due" "_law_below_due" zL f fd) (N:Nms mg):FnOk P w K mg base CX0 1 f fd ["held", "q", "p"] (spU gLDue):=by
 refine F.zU scBelowDue (fun us M Qu h => ?_) (fun cdv A outer s H E hr => ?_)
 ·obtain ⟨_,_,_,_,_,_,_,_,rfl,_⟩:=h
  rfl
 refine ⟨_,(qi (ZF PassesOwn.never rfl (vP (K:=K) rfl (vg (qa_c (qX (qa_c qd (qa_c (qv 1) qe))) (qa_c (qX (qa_c qd (qa_c (qv 2) qe))) qe)))) (qg_t2K (K:=K) (i:=3) (j:=4) rfl scBelowDue.nd rfl rfl rfl (Or.inl rfl) (Or.inl rfl) (Or.inl rfl) (Or.inl rfl))
   (qk (v3 (ki (v9 (qN (vS (K:=K) rfl) (by rfl) N.isinstance vd (qa_c (qC (qm (K:=K) rfl) (qv 0) (qv 4) (fun _ _ => rfl)) (qa_c (zR (v:=.ty "int") (by rfl) N.int XY rfl) qe)))))
    (qk (qx (qX (qa_c qy (qa_c (qv 3) qe)))))
    qR)))
  (qk (qx (xl VN (qC (qm (K:=K) rfl) (qv 0) (qv 1) (fun _ _ => rfl)) (qC (qm (K:=K) rfl) (qv 0) (qv 2) (fun _ _ => rfl)) (qK _))))),_,(ql (Yh (zW (vG (qa (qY (qa (ce_c (.int _)) (qa (qb 1) qf))) (qa (qY (qa (ce_c (.int _)) (qa (qb 2) qf))) qf)))) (Z8 3 4)
   (v6 (ky (ct_b (ji .int (qZ (qb 0) (qb 4)))))
   (qA (qY (qa (ce_c (.str _)) (qa (qb 3) qf))))
   qQ))
   (qA (qr (qD fun _ _ => .bl _) (qZ (qb 0) (qb 1)) (qZ (qb 0) (qb 2))))),fun us M Qu h => ?_⟩
 obtain ⟨k,ws,q,p,x,y,bits,ms,rfl,hk,hq,hp,hx,hy,post⟩:=h
 have gq:∀ {j:Nat} {z:KL} {Q:UK},ws[j]? = some z→Q (.p (tOf z)) M→IxS qM M (.m k) (.p (.int (j:Int))) Q:=fun hj qq => VY (us:=ws.map fun x => .p (tOf x)) (by simp [qM,hk]) (xt (by rw [List.getElem?_map,hj]; rfl)) qq
 have num:∀ {z:KL},z.1 = "small" → tOf z = .int z.2:=fun h => by unfold tOf; rw [if_pos h]
 walk_at "v"
 refine Qq (ts:=[T.tup [T.int 1,T.int q],T.tup [T.int 2,T.int p]]) (fun i ρ M2 => M2 = M∧∃ a b,ρ = [some (.m k),some (.p (.int q)),some (.p (.int p)),a,b]∧(1≤i→x.1 = "small")∧(2≤i→y.1 = "small")) ⟨rfl,_,_,rfl,fun z => absurd z (by decide),fun z => absurd z (by decide)⟩ (fun i t ρ2 M2 ht hI => ?_) (fun ρ2 M2 hI => ?_)
 ·obtain ⟨rfl,a,b,rfl,h1,h2⟩:=hI
  match i,ht with
  | 0,ht =>
   cases ht
   walk_at "v"
   refine gq hq ?_
   by_cases hs:x.1 = "small"
   ·rw [num hs]
    walk_at "v"
    exact ⟨_,_,rfl,fun _ => hs,fun z => absurd z (by decide)⟩
   ·unfold belT badP at post
    rw [if_pos hs] at post
    rcases Zq hx with ⟨n,e⟩ | ⟨n,e⟩ | ⟨n,e⟩
    ·exact absurd e (no_int hs)
    ·rw [e]
     walk_at "v"
     exact post
    ·rw [e]
     walk_at "v"
     exact post
  | 1,ht =>
   cases ht
   have h1:=h1 (Nat.le_refl _)
   walk_at "v"
   refine gq hp ?_
   by_cases hs:y.1 = "small"
   ·rw [num hs]
    walk_at "v"
    exact ⟨_,_,rfl,fun _ => h1,fun _ => hs⟩
   ·unfold belT badP at post
    rw [if_neg (by simp [h1]),if_pos hs] at post
    rcases Zq hy with ⟨n,e⟩ | ⟨n,e⟩ | ⟨n,e⟩
    ·exact absurd e (no_int hs)
    ·rw [e]
     walk_at "v"
     exact post
    ·rw [e]
     walk_at "v"
     exact post
  | i + 2,ht => simp at ht
 ·obtain ⟨rfl,a,b,rfl,h1,h2⟩:=hI
  have h1:=h1 (by show 1≤2; decide)
  have h2:=h2 (by show 2≤2; decide)
  walk_at "v"
  refine gq hq ?_
  walk_at "v"
  refine gq hp ?_
  rw [num h1,num h2]
  walk_at "v"
  unfold belT badP at post
  rw [if_neg (by simp [h1]),if_neg (by simp [h2])] at post
  exact post
theorem Zd {bits:Int} {ms:List Mk3} {k1:Str} {n:Int} (R:Right bits ms) (hm:OfKind ms k1 (vB ms k1)):CMul (n % (1 * 2 ^ (bits - (vB ms k1).2.1).toNat)) (1 * 2 ^ (vB ms k1).2.1.toNat):=by
 have hmw:=R.w _ hm.mem
 have hnd:=zE (vB ms k1).1
 have hb:=R.b
 have hp:=vz (vB ms k1).2.1.toNat
 have:=pow60 (s:=(vB ms k1).2.1) (by omega)
 refine .inr ⟨by omega,by omega⟩
abbrev Xo:Stmt:=top 58
theorem scWord:FnScope ["laying", "worth", "kind", "name", "width", "pattern", "load"] ["laying", "worth"] (qc Xo):=⟨rfl,rfl,rfl,by decide +kernel,rfl,by decide +kernel,by decide +kernel⟩
def KZ:List T→(T→Prop)→Prop:=fun ts Q => ∃ (bits:Int) (ms:List Mk3) (x:KL),ts = [layT bits ms,tOf x]∧Right bits ms∧InW bits ms x∧Q (.int (wdK bits ms x))
theorem Kf {f:Addr} {fd:FuncData} (F:Fun K "_law_word" "_law_word" Xo f fd) (N:Nms mg) (DMark:Def P w K mg base "_law_mark" 1 ["laying", "kind"] (spP kX)):FnOk P w K mg base CX0 2 f fd ["laying", "worth"] (spP KZ):=by
 refine F.zP scWord (fun ts Qt h => ?_) (fun cdv A outer s H E hr => ?_)
 ·obtain ⟨_,_,_,rfl,_⟩:=h
  rfl
 refine ⟨_,(qi (qH (i:=2) scWord.nd rfl (Or.inl rfl) (zQ (v9 (qN (vS (K:=K) rfl) (by rfl) N.isinstance vd (qa_c (qv 1) (qa_c (zR (v:=.ty "int") (by rfl) N.int XY rfl) qe)))) qy (zQ (v9 (qN (vS (K:=K) rfl) (by rfl) N.isinstance vd (qa_c (qv 1) (qa_c (zR (v:=.ty "tuple") (by rfl) N.tuple Zf rfl) qe)))) qy qy)))
  (qi (zM (qo DMark (hr.mono (by first | decide | exact Nat.le_refl _)) (qa_c (qv 0) (qa_c (qv 2) qe))) (qg_t3K (K:=K) (i:=3) (j:=4) (k:=5) rfl scWord.nd rfl rfl rfl rfl (Or.inl rfl) (Or.inl rfl) (Or.inl rfl) (Or.inl rfl) (Or.inl rfl) (Or.inl rfl)))
  (qi (qH (i:=6) scWord.nd rfl (Or.inl rfl) (qv 1))
  (qi (v3 (qJ op_eq (qv 2) qy (qK _))
   (qk (qH (i:=6) scWord.nd rfl (Or.inl rfl) (qC (qL (K:=K) rfl) (qv 1) qd (fun _ _ => rfl))))
   qR)
  (qi (v3 (qJ op_eq (qv 2) qy (qK _))
   (qk (qH (i:=6) scWord.nd rfl (Or.inl rfl) (VM (hu_of hr) (JT (zB qy qd (zB qy qd (zB qy qd JR))) rfl rfl (fun z => nomatch z) (by decide)) (qv 1) (fun _ _ => rfl))))
   qR)
  (qk (qx (qw vM (qw QL (qw xI (qv 6) (qw zZ qd (qw vL (qC (qL (K:=K) rfl) (qv 0) qd (fun _ _ => rfl)) (qv 4)))) (qw zZ qd (qv 4))) (qv 5))))))))),_,(ql (qB (Yn (ct_b (ji .int (qb 1))) (ce_c (.str _)) (ce_ifC (ct_b (ji .tuple (qb 1))) (.str _) (.str _))) (qu 2))
   (ql (qB (qt (qa (qb 0) (qa (qb 2) qf))) (cg_name3 3 4 5))
   (ql (qB (qb 1) (qu 6))
   (ql (v6 (qP (qr vQ (qb 2) (ce_c (.str _))))
   (qB (vk (qb 1) (ce_c (.int _))) (qu 6))
   qQ)
   (ql (v6 (qP (qr vQ (qb 2) (ce_c (.str _))))
   (qB (Ze (Yo (xp (ce_c (.str _)) (ce_c (.int _)) (xp (ce_c (.str _)) (ce_c (.int _)) (xp (ce_c (.str _)) (ce_c (.int _)) cp_nil)))) (qb 1)) (qu 6))
   qQ)
   (qA (qr (qD fun _ _ => .int _) (qr (zS fun _ _ => .int _) (qr (zS fun _ _ => .int _) (qb 6) (qr (zS fun _ _ => .int _) (ce_c (.int _)) (qr (qD fun _ _ => .int _) (vk (qb 0) (ce_c (.int _))) (qb 4)))) (qr (zS fun _ _ => .int _) (ce_c (.int _)) (qb 4))) (qb 5)))))))),fun ts Qt h => ?_⟩
 obtain ⟨bits,ms,⟨k1,n⟩,rfl,R,hx,q⟩:=h
 have hn:=R.n
 have hm:OfKind ms k1 (vB ms k1):=hx.v.k
 have hmw:=R.w _ hm.mem
 have hnd:=zE (vB ms k1).1
 have hb:=R.b
 rcases hx.k with hk | hk | hk
 ·have hk:k1 = "small" := hk
  subst hk
  rw [zI]
  walk_at "v"
  refine ⟨bits,ms, "small", _,rfl,by omega,hm, ?_⟩
  unfold jx
  walk_at "pk"
  exact ⟨⟨by omega,by omega,by decide⟩,by rw [Int.one_mul]; exact vz _,⟨by omega,by omega,by decide⟩,Zd R hm,by simpa [wdK,xG,Int.one_mul] using q⟩
 ·have hk:k1 = "sign" := hk
  subst hk
  rw [xW]
  walk_at "v"
  refine ⟨bits,ms, "sign", _,rfl,by omega,hm, ?_⟩
  unfold jx
  walk_at "pk"
  exact ⟨⟨by omega,by omega,by decide⟩,by rw [Int.one_mul]; exact vz _,⟨by omega,by omega,by decide⟩,Zd R hm,by simpa [wdK,xG,Int.one_mul] using q⟩
 ·have hk:k1 = "one" := hk
  subst hk
  have e:tOf ("one", n) = .str (three3.getD n.toNat "none"):=by unfold tOf; rw [if_neg (show ¬ ("one" : Str) = "small" by decide),if_pos rfl]
  rw [e]
  have h3:=hx.v.t rfl
  have h0:=hx.v.o (show ¬ ("one" : Str) = "small" by decide)
  walk_at "v"
  refine ⟨bits,ms, "one", _,rfl,by omega,hm, ?_⟩
  unfold jx
  walk_at "pk"
  unfold layT
  simp only [uDisp]
  walk_at "pk"
  refine ⟨[(.inr "none", .p (.int 0)),(.inr "no", .p (.int 1)),(.inr "yes", .p (.int 2))],rfl,by show 3≤15; decide, ?_⟩
  refine Qf rfl (w:=.p (.int n)) ?_ ?_
  ·rcases (show n = 0∨n = 1∨n = 2 by have:n < 3:=h3; have:0≤n:=h0.1; omega) with rfl | rfl | rfl <;> rfl
  walk_at "pk"
  exact ⟨⟨by omega,by omega,by decide⟩,by rw [Int.one_mul]; exact vz _,⟨by omega,by omega,by decide⟩,Zd R hm,by simpa [wdK,xG,Int.one_mul] using q⟩
structure Lf (n d:Nat) (t:T):Prop where
 sh:(toD t).showable = true
 ls:(toD t).leavesShort 13 = true
 wt:(toD t).weight≤n
 dp:(toD t).depth≤d
theorem Lf.show {n d:Nat} {t:T} (h:Lf n d t) (hn:n≤2 ^ 20) (hd:d≤60):ShowT t :=
 ⟨h.sh,Nat.le_trans h.dp hd,PyData.shown_fits (B:=13) (by decide) (by decide) h.ls (Nat.le_trans h.wt hn)⟩
theorem Lf.mono {n m d e:Nat} {t:T} (h:Lf n d t) (hn:n≤m) (hd:d≤e):Lf m e t:=⟨h.sh,h.ls,Nat.le_trans h.wt hn,Nat.le_trans h.dp hd⟩
theorem Lf.alls {n d:Nat}:∀ {ts:List T},(∀ t ∈ ts,Lf n d t)→PyData.showableAll (toDs ts) = true∧PyData.leavesShortAll 13 (toDs ts) = true∧PyData.weightAll (toDs ts)≤ts.length * (n + 1)∧PyData.depthAll (toDs ts)≤d
 | [],_ => ⟨rfl,rfl,Nat.zero_le _,Nat.zero_le _⟩
 | t :: ts,h => by
  obtain ⟨h1,h2,h3,h4⟩:=Lf.alls fun t' ht => h t' (List.mem_cons_of_mem _ ht)
  have ht:=h t (List.mem_cons_self ..)
  refine ⟨?_, ?_, ?_, ?_⟩
  ·show ((toD t).showable && PyData.showableAll (toDs ts)) = true
   rw [ht.sh,h1]; rfl
  ·show ((toD t).leavesShort 13 && PyData.leavesShortAll 13 (toDs ts)) = true
   rw [ht.ls,h2]; rfl
  ·show (toD t).weight + 1 + PyData.weightAll (toDs ts)≤_
   have:=ht.wt
   rw [List.length_cons,Nat.add_mul,Nat.one_mul]
   omega
  ·exact Nat.max_le.mpr ⟨ht.dp,h4⟩
theorem Lf.lst {n d:Nat} {ts:List T} (h:∀ t ∈ ts,Lf n d t):Lf (ts.length * (n + 1)) (d + 1) (.lst ts):=by
 obtain ⟨h1,h2,h3,h4⟩:=Lf.alls h
 exact ⟨h1,h2,h3,Nat.succ_le_succ h4⟩
theorem Lf.tup {n d:Nat} {ts:List T} (h:∀ t ∈ ts,Lf n d t):Lf (ts.length * (n + 1)) (d + 1) (.tup ts):=by
 obtain ⟨h1,h2,h3,h4⟩:=Lf.alls h
 exact ⟨h1,h2,h3,Nat.succ_le_succ h4⟩
theorem Lf.int {i:Int} (h:i.natAbs < 10 ^ 12):Lf 64 0 (.int i):=by
 have hl:i.natAbs.log2≤40:=by
  by_cases hz:i.natAbs = 0
  ·rw [hz]; decide
  ·have:=(Nat.log2_lt hz (k:=41)).mpr (Nat.lt_of_lt_of_le h (by decide))
   omega
 refine ⟨decide_eq_true (show i.natAbs.log2 < 1920 by omega),decide_eq_true (PyData.shown_int_le h), ?_,Nat.le_refl _⟩
 show (if i == 0 then 0 else i.natAbs.log2 + 1)≤64
 split <;> omega
theorem Lf.bl {b:Bool}:Lf 64 0 (.bl b):=⟨rfl,rfl,Nat.zero_le _,Nat.le_refl _⟩
theorem Lf.str {x:Str} (h1:(x.cps.toList.all fun c => decide (c < 16 ^ 8)) = true) (h2:x.cps.size≤64):Lf 64 0 (.str x):=⟨rfl,h1,h2,Nat.le_refl _⟩
theorem pow32 {s:Int} (h:s≤32):(2:Int) ^ s.toNat≤2 ^ 32:=by
 have:(2:Nat) ^ s.toNat≤2 ^ 32:=Nat.pow_le_pow_right (by decide) (by omega)
 exact_mod_cast this
theorem lf_kind {bits:Int} {ms:List Mk3} {x:KL} (hx:InW bits ms x):Lf 64 0 (.str (xQ x.1)):=by
 unfold xQ
 rcases hx.k with h | h | h <;> rw [h]
 ·rw [if_pos rfl]; exact .str (by decide +kernel) (by decide +kernel)
 ·rw [if_neg (by decide)]; exact .str (by decide +kernel) (by decide +kernel)
 ·rw [if_neg (by decide)]; exact .str (by decide +kernel) (by decide +kernel)
theorem lf_worth {bits:Int} {ms:List Mk3} {x:KL} (R:Right bits ms) (hx:InW bits ms x):Lf 200 1 (tOf x):=by
 obtain ⟨k1,n⟩:=x
 have hm:OfKind ms k1 (vB ms k1):=hx.v.k
 have hmw:=R.w _ hm.mem
 have hnd:=zE (vB ms k1).1
 have hb:=R.b
 rcases hx.k with hk | hk | hk
 ·have hk:k1 = "small" := hk
  subst hk
  rw [zI]
  have h:=hx.v.s rfl
  have hp:=pow32 (s:=bits - (vB ms "small").2.1 - 1) (by omega)
  have h1 : -(2 ^ (bits - (vB ms "small").2.1 - 1).toNat)≤n:=h.1
  have h2:n < 2 ^ (bits - (vB ms "small").2.1 - 1).toNat:=h.2
  exact (Lf.int (by omega)).mono (by decide) (by decide)
 ·have hk:k1 = "sign" := hk
  subst hk
  rw [xW]
  have h1:n < 128:=hx.v.g rfl
  have h2:0≤n:=(hx.v.o (show ¬ ("sign" : Str) = "small" by decide)).1
  exact (Lf.tup (n:=64) (d:=0) fun t ht => by
   rcases List.mem_cons.mp ht with rfl | ht
   ·exact .str (by decide +kernel) (by decide +kernel)
   ·rw [List.mem_singleton.mp ht]; exact .int (by omega)).mono (by show 2 * 65≤200; decide) (Nat.le_refl _)
 ·have hk:k1 = "one" := hk
  subst hk
  have e:tOf ("one", n) = .str (three3.getD n.toNat "none"):=by unfold tOf; rw [if_neg (show ¬ ("one" : Str) = "small" by decide),if_pos rfl]
  rw [e]
  have h1:n < 3:=hx.v.t rfl
  have h2:0≤n:=(hx.v.o (show ¬ ("one" : Str) = "small" by decide)).1
  rcases (show n = 0∨n = 1∨n = 2 by omega) with rfl | rfl | rfl <;> exact (Lf.str (by decide +kernel) (by decide +kernel)).mono (by decide) (by decide)
theorem lf_word {bits:Int} {ms:List Mk3} {x:KL} (R:Right bits ms) (hx:InW bits ms x):Lf 64 0 (.int (wdK bits ms x)):=by
 have h:=hx.v.there R
 have hb:=R.b
 have hp:=pow32 (s:=bits) (by omega)
 have h1:0≤wdK bits ms x:=h.1
 have h2:wdK bits ms x < 2 ^ bits.toNat:=h.2.1
 exact .int (by omega)
theorem Right.of {bits:Int} {ms:List Mk3} (R:Right bits ms) {kind:Str} (h:kind ∈ ke):OfKind ms kind (vB ms kind):=by
 obtain ⟨m,hm⟩:=R.kind h
 rw [hm.mk]
 exact hm
theorem KJ {bits:Int} {ms:List Mk3} {n:Int} (R:Right bits ms) (h1 : -(2 ^ (bits - (vB ms "small").2.1 - 1).toNat)≤n) (h2:n < 2 ^ (bits - (vB ms "small").2.1 - 1).toNat):InW bits ms ("small", n) :=
 ⟨⟨R.of (kind := "small") (by decide),fun _ => ⟨h1,h2⟩,fun z => absurd rfl z,fun z => absurd z (show ¬ ("small" : Str) = "sign" by decide),fun z => absurd z (show ¬ ("small" : Str) = "one" by decide)⟩, .inl rfl⟩
theorem pow_ge {s:Int} {k:Nat} (h:(k:Int)≤s):(2:Int) ^ k≤2 ^ s.toNat:=by
 have:(2:Nat) ^ k≤2 ^ s.toNat:=Nat.pow_le_pow_right (by decide) (by omega)
 exact_mod_cast this
theorem inw_sign {bits:Int} {ms:List Mk3} {n:Int} (R:Right bits ms) (h1:0≤n) (h2:n < 128):InW bits ms ("sign", n):=by
 have hm:=R.of (kind := "sign") (by decide)
 have hmw:=R.w _ hm.mem
 rw [hm.is] at hmw
 have hp:=pow_ge (s:=bits - (vB ms "sign").2.1) (k:=7) (by rw [show need "sign" = 7 from by decide] at hmw; omega)
 exact ⟨⟨hm,fun z => absurd z (show ¬ ("sign" : Str) = "small" by decide),fun _ => ⟨h1,by show n < 2 ^ (bits - (vB ms "sign").2.1).toNat; omega⟩,fun _ => h2,fun z => absurd z (show ¬ ("sign" : Str) = "one" by decide)⟩, .inr (.inl rfl)⟩
theorem V0 {bits:Int} {ms:List Mk3} {n:Int} (R:Right bits ms) (h1:0≤n) (h2:n < 3):InW bits ms ("one", n):=by
 have hm:=R.of (kind := "one") (by decide)
 have hmw:=R.w _ hm.mem
 rw [hm.is] at hmw
 have hp:=pow_ge (s:=bits - (vB ms "one").2.1) (k:=2) (by rw [show need "one" = 2 from by decide] at hmw; omega)
 exact ⟨⟨hm,fun z => absurd z (show ¬ ("one" : Str) = "small" by decide),fun _ => ⟨h1,by show n < 2 ^ (bits - (vB ms "one").2.1).toNat; omega⟩,fun z => absurd z (show ¬ ("one" : Str) = "sign" by decide),fun _ => h2⟩, .inr (.inr rfl)⟩
theorem at3 {x y z j:Int} (h0:0≤j) (h1:j < 3):∃ a,atI [T.int x,T.int y,T.int z] j = some (.int a)∧(a = x∨a = y∨a = z):=by
 rcases (show j = 0∨j = 1∨j = 2 by omega) with rfl | rfl | rfl
 ·exact ⟨_,rfl, .inl rfl⟩
 ·exact ⟨_,rfl, .inr (.inl rfl)⟩
 ·exact ⟨_,rfl, .inr (.inr rfl)⟩
theorem at4 {x y z u j:Int} (h0:0≤j) (h1:j < 4):∃ a,atI [T.int x,T.int y,T.int z,T.int u] j = some (.int a)∧(a = x∨a = y∨a = z∨a = u):=by
 rcases (show j = 0∨j = 1∨j = 2∨j = 3 by omega) with rfl | rfl | rfl | rfl
 ·exact ⟨_,rfl, .inl rfl⟩
 ·exact ⟨_,rfl, .inr (.inl rfl)⟩
 ·exact ⟨_,rfl, .inr (.inr (.inl rfl))⟩
 ·exact ⟨_,rfl, .inr (.inr (.inr rfl))⟩
theorem log_few {n:Int} (h:0≤n∧n≤2 ^ 40):n.natAbs.log2 < 9000:=by
 by_cases hz:n.natAbs = 0
 ·rw [hz]; decide
 ·have:=(Nat.log2_lt hz (k:=41)).mpr (by omega)
  omega
abbrev vW:Stmt:=top 57
theorem scWorthDrawn:FnScope ["bag", "laying", "kind", "half", "some"] ["bag", "laying"] (qc vW):=⟨rfl,rfl,rfl,by decide +kernel,rfl,by decide +kernel,by decide +kernel⟩
def K1:List U→MM→UK→Prop:=fun us M Q => ∃ (k:Nat) (o:MO) (bits:Int) (ms:List Mk3),us = [.m k, .p (layT bits ms)]∧M[k]? = some o∧BagO o∧Right bits ms∧∀ (x:KL) (o':MO),InW bits ms x→BagO o'→Q (.p (tOf x)) (M.set k o')
theorem jR {f:Addr} {fd:FuncData} (F:Fun K "_law_worth_drawn" "_law_worth_drawn" vW f fd) (N:Nms mg) (DDraw:Def P w K mg base "_law_draw" 1 ["bag", "many"] (spU Qb)) (DLoad:Def P w K mg base "_law_load" 2 ["laying", "kind"] (spP Va)):FnOk P w K mg base CX0 3 f fd ["bag", "laying"] (spU K1):=by
 refine F.zV scWorthDrawn (fun us M Qu h => ?_) (fun cdv A outer s H E hr => ?_)
 ·obtain ⟨_,_,_,_,rfl,_⟩:=h
  rfl
 refine ⟨_,(qi (qH (i:=2) scWorthDrawn.nd rfl (Or.inl rfl) (qo DDraw (hr.mono (by first | decide | exact Nat.le_refl _)) (qa_c (qv 0) (qa_c qd qe))))
  (qi (qH (i:=3) scWorthDrawn.nd rfl (Or.inl rfl) (qw zZ qd (qw vL (qo DLoad (hr.mono (by first | decide | exact Nat.le_refl _)) (qa_c (qv 1) (qa_c qy qe))) qd)))
  (qi (v3 (qJ op_eq (qv 2) qd (qK _))
   (qk (qx (qX (qa_c qy (qa_c (qC (qm (K:=K) rfl) (vg (qa_c (qo DDraw (hr.mono (by first | decide | exact Nat.le_refl _)) (qa_c (qv 0) (qa_c qd qe))) (qa_c (qo DDraw (hr.mono (by first | decide | exact Nat.le_refl _)) (qa_c (qv 0) (qa_c qd qe))) (qa_c qd qe)))) (qo DDraw (hr.mono (by first | decide | exact Nat.le_refl _)) (qa_c (qv 0) (qa_c qd qe))) (fun _ _ => rfl)) qe)))))
   qR)
  (qi (v3 (qJ op_eq (qv 2) qd (qK _))
   (qk (qx (qC (qm (K:=K) rfl) (vg (qa_c qy (qa_c qy (qa_c qy qe)))) (qo DDraw (hr.mono (by first | decide | exact Nat.le_refl _)) (qa_c (qv 0) (qa_c qd qe))) (fun _ _ => rfl))))
   qR)
  (qi (qH (i:=4) scWorthDrawn.nd rfl (Or.inl rfl) (vg (qa_c (qw vL (qo DDraw (hr.mono (by first | decide | exact Nat.le_refl _)) (qa_c (qv 0) (qa_c (qw QL qd (qv 3)) qe))) (qv 3)) (qa_c (qw vL (qo DDraw (hr.mono (by first | decide | exact Nat.le_refl _)) (qa_c (qv 0) (qa_c qd qe))) qd) (qa_c (qw vL (qv 3) qd) (qa_c (qw vL qd (qv 3)) qe))))))
  (qk (qx (qN (Yq rfl) (by rfl) N.max b_max (qa_c (qw vL qd (qv 3)) (qa_c (qN (Vm rfl) (by rfl) N.min b_min (qa_c (qw vL (qv 3) qd) (qa_c (qC (qm (K:=K) rfl) (qv 4) (qo DDraw (hr.mono (by first | decide | exact Nat.le_refl _)) (qa_c (qv 0) (qa_c qd qe))) (fun _ _ => rfl)) qe))) qe)))))))))),_,(ql (qB (qp (qa (qb 0) (qa (ce_c (.int _)) qf))) (qu 2))
   (ql (qB (qr (zS fun _ _ => .int _) (ce_c (.int _)) (qr (qD fun _ _ => .int _) (qt (qa (qb 1) (qa (ce_c (.str _)) qf))) (ce_c (.int _)))) (qu 3))
   (ql (v6 (qP (qr vQ (qb 2) (ce_c (.int _))))
   (qA (qY (qa (ce_c (.str _)) (qa (qZ (vG (qa (qp (qa (qb 0) (qa (ce_c (.int _)) qf))) (qa (qp (qa (qb 0) (qa (ce_c (.int _)) qf))) (qa (ce_c (.int _)) qf)))) (qp (qa (qb 0) (qa (ce_c (.int _)) qf)))) qf))))
   qQ)
   (ql (v6 (qP (qr vQ (qb 2) (ce_c (.int _))))
   (qA (qZ (vG (qa (ce_c (.str _)) (qa (ce_c (.str _)) (qa (ce_c (.str _)) qf)))) (qp (qa (qb 0) (qa (ce_c (.int _)) qf)))))
   qQ)
   (ql (qB (vG (qa (qr (qD fun _ _ => .int _) (qp (qa (qb 0) (qa (qr (zS fun _ _ => .int _) (ce_c (.int _)) (qb 3)) qf))) (qb 3)) (qa (qr (qD fun _ _ => .int _) (qp (qa (qb 0) (qa (ce_c (.int _)) qf))) (ce_c (.int _))) (qa (qr (qD fun _ _ => .int _) (qb 3) (ce_c (.int _))) (qa (qr (qD fun _ _ => .int _) (ce_c (.int _)) (qb 3)) qf))))) (qu 4))
   (qA (Qi cbl_max (qa (qr (qD fun _ _ => .int _) (ce_c (.int _)) (qb 3)) (qa (Qi Yp (qa (qr (qD fun _ _ => .int _) (qb 3) (ce_c (.int _))) (qa (qZ (qb 4) (qp (qa (qb 0) (qa (ce_c (.int _)) qf)))) qf))) qf))))))))),fun us M M1 Qu e1 h => ?_⟩
 obtain ⟨k,o,bits,ms,rfl,em,hB,R,post⟩:=h
 obtain ⟨hkl,eM⟩:=Qm em
 rw [e1.trans eM]
 have fin:∀ (x:KL) (o':MO),InW bits ms x→BagO o'→xK M (MB M k o' [])∧Qu (.p (tOf x)) (List.take (List.length M) (MB M k o' [])):=fun x o' hx B => ⟨Qk B.pur,by rw [Ql]; exact post x o' hx B⟩
 have hm:=R.of (kind := "small") (by decide)
 have hmw:=R.w _ hm.mem
 have hnd:=zE (vB ms "small").1
 have hb:=R.b
 have hn:=R.n
 walk_at "v"
 refine ve hkl hB (by decide) (by decide) fun d1 o1 d10 d11 B1 => ?_
 walk_at "v"
 refine ⟨bits,ms, "small", vB ms "small", rfl,by omega,hm, ?_⟩
 walk_at "v"
 refine ⟨⟨by omega,by omega,by decide⟩, ?_⟩
 rw [Int.one_mul]
 generalize hh:(2:Int) ^ (bits - (vB ms "small").2.1 - 1).toNat = half
 have hge:1≤half:=by rw [← hh]; exact vz _
 have hle:half≤2 ^ 32:=by rw [← hh]; exact pow32 (by omega)
 walk_at "v"
 refine ite2 (fun h1 => ?_) (fun h1 => ?_)
 ·walk_at "v"
  refine ve hkl B1 (by decide) (by decide) fun d2 o2 d20 d21 B2 => ?_
  refine ve hkl B2 (by decide) (by decide) fun d3 o3 d30 d31 B3 => ?_
  walk_at "v"
  refine ve hkl B3 (by decide) (by decide) fun d4 o4 d40 d41 B4 => ?_
  obtain ⟨v,hv,hv2⟩:=at3 (x:=d2) (y:=d3) (z:=127) d40 d41
  refine vU hv ?_
  walk_at "v"
  rw [← xW]
  exact fin _ _ (inw_sign R (by omega) (by omega)) B4
 walk_at "v"
 refine ite2 (fun h2 => ?_) (fun h2 => ?_)
 ·walk_at "v"
  refine ve hkl B1 (by decide) (by decide) fun d2 o2 d20 d21 B2 => ?_
  have e:∀ n:Int,tOf ("one", n) = .str (three3.getD n.toNat "none"):=fun n => by unfold tOf; rw [if_neg (show ¬ ("one" : Str) = "small" by decide),if_pos rfl]
  have hv:atI [T.str "none", T.str "no", T.str "yes"] d2 = some (tOf ("one", d2)):=by
   rw [e]
   rcases (show d2 = 0∨d2 = 1∨d2 = 2 by omega) with rfl | rfl | rfl <;> rfl
  refine vU hv ?_
  walk_at "v"
  exact fin _ _ (V0 R (by omega) (by omega)) B2
 walk_at "v"
 refine ⟨.inl ⟨by decide,by decide⟩, ?_⟩
 refine ve hkl B1 (by omega) (log_few ⟨by omega,by omega⟩) fun d2 o2 d20 d21 B2 => ?_
 walk_at "v"
 refine ve hkl B2 (by decide) (by decide) fun d3 o3 d30 d31 B3 => ?_
 walk_at "v"
 refine ve hkl B3 (by decide) (by decide) fun d4 o4 d40 d41 B4 => ?_
 obtain ⟨v,hv,hv2⟩:=at4 (x:=d2 - half) (y:=d3 - 1) (z:=half - 1) (u:=0 - half) d40 d41
 refine vU hv ?_
 walk_at "v"
 have hb2:∀ z:Int, -half≤z→z < half→xK M (MB M k o4 [])∧Qu (.p (.int z)) (List.take (List.length M) (MB M k o4 [])):=fun z z1 z2 => by
  have e:=@zI z
  rw [← e]
  exact fin _ _ (KJ R (by rw [hh]; exact z1) (by rw [hh]; exact z2)) B4
 refine hb2 _ ?_ ?_
 ·split <;> split <;> omega
 ·split <;> split <;> omega
theorem ZH {X:Cx} {pl:Sem Bool} {C:Addr} {m:Str} {k:Nat} {ps:List Str} {sp:Sp} {o:Expr} {ta:TE} {apos pos:Pos} (D:MDef X.prog X.w X.K X.mg X.base C m k ps sp) (c:Cls X.K C) (he:QE X o ta) (hr:Room k X.A)
  (ht:eval (.Call (.Attribute o m apos) [] [] pos) X.env = (do
   let ov ← eval o X.env
   standAt apos.atName
   let (f,first) ← holding [ov] (getMethod ov m pl)
   callWith pos f first (backTo pos (starEach [] X.env)) (backToKw pos (keywordEach [] X.env))):=by rfl):QE X (.Call (.Attribute o m apos) [] [] pos) (Vx C m sp [] E0 ta tNil):=by
 obtain ⟨f,fd,h1,h2,h3⟩:=D.ex
 exact ⟨pe_meth0 he.h c h1 h3 hr h2 .nil pass0 ht⟩
theorem jE {α β:Type} {f:α→β} {l:List α} {i:Nat} {x:α} (h:l[i]? = some x):(l.take i).map f ++ [f x] = (l.take (i + 1)).map f:=by
 obtain ⟨hi,rfl⟩:=List.getElem?_eq_some_iff.mp h
 rw [List.take_add_one,List.map_append,List.getElem?_eq_getElem hi]
 rfl
theorem Xj {bits:Int} {ms:List Mk3} {ws:List KL} (R:Right bits ms) (l8:ws.length = 8) (ok:∀ x ∈ ws,InW bits ms x):ShowT (.lst [.lst (ws.map fun x => T.int (wdK bits ms x)), .lst [], .int 0, .int 0, .int 0]):=by
 have h1:Lf 600 1 (.lst (ws.map fun x => T.int (wdK bits ms x))):=(Lf.lst (n:=64) (d:=0) fun t ht => by
  obtain ⟨x,hx,rfl⟩:=List.mem_map.mp ht
  exact lf_word R (ok x hx)).mono (by rw [List.length_map,l8]; decide) (by decide)
 have h2:Lf 600 1 (.lst []):=(Lf.lst (n:=0) (d:=0) (ts:=[]) fun t ht => absurd ht (by simp)).mono (by decide) (by decide)
 have h3:Lf 600 1 (.int 0):=(Lf.int (by decide)).mono (by decide) (by decide)
 exact (Lf.lst (n:=600) (d:=1) fun t ht => by
  simp at ht
  rcases ht with rfl | rfl | rfl
  ·exact h1
  ·exact h2
  ·exact h3).show (by show 5 * 601≤2 ^ 20; decide) (by decide)
theorem Jd {bits:Int} {ms:List Mk3} {ws:List KL} (R:Right bits ms) (l8:ws.length = 8) (ok:∀ x ∈ ws,InW bits ms x):ShowT (.lst (ws.map tOf)) :=
 (Lf.lst (n:=200) (d:=1) fun t ht => by
  obtain ⟨x,hx,rfl⟩:=List.mem_map.mp ht
  exact lf_worth R (ok x hx)).show (by rw [List.length_map,l8]; decide) (by decide)
theorem Xk {bits:Int} {ms:List Mk3} {ws:List KL} (l8:ws.length = 8) (ok:∀ x ∈ ws,InW bits ms x):ShowT (.lst (ws.map fun x => .str (xQ x.1))) :=
 (Lf.lst (n:=64) (d:=0) fun t ht => by
  obtain ⟨x,hx,rfl⟩:=List.mem_map.mp ht
  exact lf_kind (ok x hx)).show (by rw [List.length_map,l8]; decide) (by decide)
theorem Zo {b:Bool}:ShowT (.lst [.bl b, .bl b]) :=
 (Lf.lst (n:=64) (d:=0) fun t ht => by
  simp at ht
  rw [ht]; exact .bl).show (by show 2 * 65≤2 ^ 20; decide) (by decide)
theorem Zp {x y:KL}:ShowT (belT x y):=by
 unfold belT
 cases h:badP x y with
 | none => exact (Lf.bl).show (by decide) (by decide)
 | some n =>
  have hn:n = 1∨n = 2:=by
   unfold badP at h
   split at h
   ·cases h; exact .inl rfl
   ·split at h
    ·cases h; exact .inr rfl
    ·cases h
  exact (Lf.tup (n:=64) (d:=0) fun t ht => by
   rcases List.mem_cons.mp ht with rfl | ht
   ·exact .str (by decide +kernel) (by decide +kernel)
   ·rw [List.mem_singleton.mp ht]; exact .int (by omega)).show (by show 2 * 65≤2 ^ 20; decide) (by decide)
abbrev kf:Stmt:=top 63
theorem scRight:FnScope ["bag", "laying", "store", "held", "found", "q", "p", "due"] ["bag", "laying", "store", "held"] (qc kf):=⟨rfl,rfl,rfl,by decide +kernel,rfl,by decide +kernel,by decide +kernel⟩
theorem ZM:(["bag", "laying", "store", "held", "found", "q", "p", "due", "worth"]:List Str).Nodup:=by decide +kernel
def hd (ws:List KL):MO:=.lst (ws.map fun x => .p (tOf x))
theorem Sto.bag {C:Addr} {M:MM} {s h kp kb:Nat} {bits:Int} {ms:List Mk3} {room:Int} {ws:List KL} {o:MO} (S:Sto C M s h kp bits ms room ws) (n1:kb≠s) (n2:kb≠h) (n3:kb≠kp):Sto C (M.set kb o) s h kp bits ms room ws :=
 ⟨by rw [List.getElem?_set_ne n1]; exact S.s0,by rw [List.getElem?_set_ne n2]; exact S.hl,by rw [List.getElem?_set_ne n3]; exact S.kl,S.ns,S.nk,S.R,S.l8,S.ok⟩
def ZY (C:Addr):List U→MM→UK→Prop:=fun us M Q => ∃ (s h kp:Nat) (bits:Int) (ms:List Mk3) (room:Int) (ws:List KL) (kb hk:Nat) (o:MO),us = [.m kb, .p (layT bits ms), .m s, .m hk]∧Sto C M s h kp bits ms room ws∧M[kb]? = some o∧BagO o∧M[hk]? = some (hd ws)∧kb≠s∧kb≠h∧kb≠kp∧kb≠hk∧∀ o',BagO o'→Q (.p (.bl true)) (M.set kb o')
theorem Kd {C:Addr} {f:Addr} {fd:FuncData} (F:Fun K "_law_right" "_law_right" kf f fd) (N:Nms mg) (TP:TxStore K C) (TStore:Cls K C) (DDraw:Def P w K mg base "_law_draw" 1 ["bag", "many"] (spU Qb)) (DAlike:Def P w K mg base "_law_alike" 1 ["found", "due"] (spP V6)) (DWord:Def P w K mg base "_law_word" 2 ["laying", "worth"] (spP KZ)) (DKind:Def P w K mg base "_law_kind" 1 ["worth"] (spP K0)) (MStoreWords:MDef P w K mg base C "words" 1 ["self"] (spU (V1 C))) (MStoreOutside:MDef P w K mg base C "outside" 1 ["self"] (spU (gSOut C))) (MStoreTold:MDef P w K mg base C "told" 5 ["self", "q"] (spU (Q9 C))) (MStoreKind:MDef P w K mg base C "kind" 3 ["self", "q"] (spU (kq C))) (MStoreSame:MDef P w K mg base C "same" 6 ["self", "q", "p"] (spU (KP C))) (DBelow:Def P w K mg base "_law_below" 7 ["store", "q", "p"] (spU (V5 C))) (DBelowDue:Def P w K mg base "_law_below_due" 1 ["held", "q", "p"] (spU gLDue)):FnOk P w K mg base CX0 8 f fd ["bag", "laying", "store", "held"] (spU (ZY C)):=by
 refine F.zU scRight (fun us M Qu h => ?_) (fun cdv A outer s H E hr => ?_)
 ·obtain ⟨_,_,_,_,_,_,_,_,_,_,rfl,_⟩:=h
  rfl
 refine ⟨_,(qi (qH (i:=4) scRight.nd rfl (Or.inl rfl) (vg (qa_c (ZH MStoreWords TStore (qv 2) (hr.mono (by first | decide | exact Nat.le_refl _))) (qa_c (ZH MStoreOutside TStore (qv 2) (hr.mono (by first | decide | exact Nat.le_refl _))) (qa_c (vA (qv 2) rfl) (qa_c (vA (qv 2) rfl) (qa_c (vA (qv 2) rfl) qe)))))))
  (qi (v3 (ki (v9 (qo DAlike (hr.mono (by first | decide | exact Nat.le_refl _)) (qa_c (qv 4) (qa_c (vg (qa_c (j7 [false,true,false,false,false,false,false,false] ["worth"] (vP (K:=K) rfl (qv 3)) (fun _ _ _ => (v5 (i:=8) ZM rfl (Or.inl rfl))) (fun _ _ _ => jr) (fun _ _ _ => (qo DWord (hr.mono (by first | decide | exact Nat.le_refl _)) (qa_c (qv 1) (qa_c (qv 8) qe))))) (qa_c (vg qe) (qa_c qd (qa_c qd (qa_c qd qe)))))) qe)))))
   (qk (qx Xs))
   qR)
  (qi (v3 (ki (v9 (qo DAlike (hr.mono (by first | decide | exact Nat.le_refl _)) (qa_c (j7 [false,false,true,false,false,false,false,false] [] (x3 rfl N.range (qa_c qd qe)) (fun _ _ _ => (v5 (i:=5) scRight.nd rfl (Or.inl rfl))) (fun _ _ _ => jr) (fun _ _ _ => (vo MStoreTold TStore (qv 2) (hr.mono (by first | decide | exact Nat.le_refl _)) (qa_c (qv 5) qe)))) (qa_c (qv 3) qe)))))
   (qk (qx Xs))
   qR)
  (qi (v3 (ki (v9 (qo DAlike (hr.mono (by first | decide | exact Nat.le_refl _)) (qa_c (j7 [false,false,true,false,false,false,false,false] [] (x3 rfl N.range (qa_c qd qe)) (fun _ _ _ => (v5 (i:=5) scRight.nd rfl (Or.inl rfl))) (fun _ _ _ => jr) (fun _ _ _ => (vo MStoreKind TStore (qv 2) (hr.mono (by first | decide | exact Nat.le_refl _)) (qa_c (qv 5) qe)))) (qa_c (j7 [false,false,false,false,false,false,false,false] ["worth"] (vP (K:=K) rfl (qv 3)) (fun _ _ _ => (v5 (i:=8) ZM rfl (Or.inl rfl))) (fun _ _ _ => jr) (fun _ _ _ => (qo DKind (hr.mono (by first | decide | exact Nat.le_refl _)) (qa_c (qv 8) qe)))) qe)))))
   (qk (qx Xs))
   qR)
  (qi (qs_par (i:=5) (j:=6) rfl scRight.nd rfl rfl (by decide) rfl rfl (qa_c (qo DDraw (hr.mono (by first | decide | exact Nat.le_refl _)) (qa_c (qv 0) (qa_c qd qe))) (qa_c (qo DDraw (hr.mono (by first | decide | exact Nat.le_refl _)) (qa_c (qv 0) (qa_c qd qe))) qe)) rfl)
  (qi (qH (i:=7) scRight.nd rfl (Or.inl rfl) (qe_and (xl op_eq (qo DKind (hr.mono (by first | decide | exact Nat.le_refl _)) (qa_c (qC (qm (K:=K) rfl) (qv 3) (qv 5) (fun _ _ => rfl)) qe)) (qo DKind (hr.mono (by first | decide | exact Nat.le_refl _)) (qa_c (qC (qm (K:=K) rfl) (qv 3) (qv 6) (fun _ _ => rfl)) qe)) (qK _)) (qe_one (xl (op_eqW (K:=K) rfl hr.units) (qC (qm (K:=K) rfl) (qv 3) (qv 5) (fun _ _ => rfl)) (qC (qm (K:=K) rfl) (qv 3) (qv 6) (fun _ _ => rfl)) (qK _)))))
  (qi (v3 (ki (v9 (qo DAlike (hr.mono (by first | decide | exact Nat.le_refl _)) (qa_c (vg (qa_c (vo MStoreSame TStore (qv 2) (hr.mono (by first | decide | exact Nat.le_refl _)) (qa_c (qv 5) (qa_c (qv 6) qe))) (qa_c (vo MStoreSame TStore (qv 2) (hr.mono (by first | decide | exact Nat.le_refl _)) (qa_c (qv 6) (qa_c (qv 5) qe))) qe))) (qa_c (vg (qa_c (qv 7) (qa_c (qv 7) qe))) qe)))))
   (qk (qx Xs))
   qR)
  (qk (qx (qo DAlike (hr.mono (by first | decide | exact Nat.le_refl _)) (qa_c (qo DBelow (hr.mono (by first | decide | exact Nat.le_refl _)) (qa_c (qv 2) (qa_c (qv 5) (qa_c (qv 6) qe)))) (qa_c (qo DBelowDue (hr.mono (by first | decide | exact Nat.le_refl _)) (qa_c (qv 3) (qa_c (qv 5) (qa_c (qv 6) qe)))) qe)))))))))))),_,(ql (qB (vG (qa (vh (qb 2) qf) (qa (vh (qb 2) qf) (qa (vC (qb 2)) (qa (vC (qb 2)) (qa (vC (qb 2)) qf)))))) (qu 4))
   (ql (v6 (ky (ct_b (qt (qa (qb 4) (qa (vG (qa (zG (zW (qb 3)) (zc 8) Vi (qt (qa (qb 1) (qa (qb 8) qf)))) (qa (vG qf) (qa (ce_c (.int _)) (qa (ce_c (.int _)) (qa (ce_c (.int _)) qf)))))) qf)))))
   (qA (ce_c (.bl _)))
   qQ)
   (ql (v6 (ky (ct_b (Xb (qa (zG (Qh (qa (ce_c (.int _)) qf)) (zc 5) Vi (vh (qb 2) (qa (qb 5) qf))) (qa (qb 3) qf)))))
   (qA (ce_c (.bl _)))
   qQ)
   (ql (v6 (ky (ct_b (qt (qa (zG (Qh (qa (ce_c (.int _)) qf)) (zc 5) Vi (vh (qb 2) (qa (qb 5) qf))) (qa (zG (zW (qb 3)) (zc 8) Vi (qt (qa (qb 8) qf))) qf)))))
   (qA (ce_c (.bl _)))
   qQ)
   (ql (cs_par (qa (qp (qa (qb 0) (qa (ce_c (.int _)) qf))) (qa (qp (qa (qb 0) (qa (ce_c (.int _)) qf))) qf)))
   (ql (qB (ce_andV (qr vQ (qt (qa (qZ (qb 3) (qb 5)) qf)) (qt (qa (qZ (qb 3) (qb 6)) qf))) (qr J3 (qZ (qb 3) (qb 5)) (qZ (qb 3) (qb 6)))) (qu 7))
   (ql (v6 (ky (ct_b (qt (qa (vG (qa (vh (qb 2) (qa (qb 5) (qa (qb 6) qf))) (qa (vh (qb 2) (qa (qb 6) (qa (qb 5) qf))) qf))) (qa (vG (qa (qb 7) (qa (qb 7) qf))) qf)))))
   (qA (ce_c (.bl _)))
   qQ)
   (qA (qt (qa (qp (qa (qb 2) (qa (qb 5) (qa (qb 6) qf)))) (qa (qp (qa (qb 3) (qa (qb 5) (qa (qb 6) qf)))) qf))))))))))),fun us M Qu h => ?_⟩
 obtain ⟨s,h,kp,bits,ms,room,ws,kb,hk,o,rfl,S,eb,hB,eh,n1,n2,n3,n4,post⟩:=h
 walk_at "v"
 refine mS S (by rfl) ?_
 walk_at "v"
 refine ⟨s,h,kp,bits,ms,room,ws,rfl,S, ?_⟩
 walk_at "v"
 refine mS S (by rfl) ?_
 walk_at "v"
 refine ⟨s,h,kp,bits,ms,room,ws,rfl,S, ?_⟩
 walk_at "v"
 refine jA TP.c TP.n5 S.s0 (by rfl) ?_
 refine jA TP.c TP.n6 S.s0 (by rfl) ?_
 refine jA TP.c TP.n7 S.s0 (by rfl) ?_
 walk_at "v"
 have eh2:M[hk]? = some (.lst ((ws.map tOf).map U.p)):=by rw [eh]; unfold hd; rw [List.map_map]; rfl
 refine VZ eh2 ?_
 have h8:(ws.map tOf).length≤sizeLine:=by rw [List.length_map,S.l8]; decide
 refine jK h8 (fun i acc M2 => M2 = M∧acc = ((ws.take i).map fun x => T.int (wdK bits ms x))) ⟨rfl,rfl⟩ (fun i acc M2 hI => by rw [hI.1]; exact eh2) (fun i z acc M2 hz hl hI => ?_) (fun acc M2 hI => ?_)
 ·obtain ⟨rfl,rfl⟩:=hI
  obtain ⟨x,hx,rfl⟩:=get_map hz
  walk_at "v"
  exact ⟨bits,ms,x,rfl,S.R,S.ok x (List.mem_of_getElem? hx),jE hx⟩
 obtain ⟨rfl,rfl⟩:=hI
 rw [List.length_map,List.take_length]
 walk_at "v"
 refine ⟨_,rfl,Xj S.R S.l8 S.ok, ?_⟩
 walk_at "v"
 refine Zr (by decide) (by decide) ?_
 refine jJ (m:=8) (by decide) (fun i acc M' => M' = M2∧acc = (ws.take i).map tOf) ⟨rfl,rfl⟩ (fun i acc M' hi hl hI => ?_) (fun acc M' hI => ?_)
 ·obtain ⟨rfl,rfl⟩:=hI
  obtain ⟨x,hx⟩:∃ x,ws[i]? = some x:=⟨_,List.getElem?_eq_getElem (by rw [S.l8]; exact hi)⟩
  walk_at "v"
  refine mS S (by rfl) ?_
  walk_at "v"
  refine ⟨s,h,kp,bits,ms,room,ws,i,_,rfl,S,hx, ?_⟩
  walk_at "v"
  exact jE hx
 obtain ⟨rfl,rfl⟩:=hI
 rw [List.take_of_length_le (by rw [S.l8]; exact Nat.le_refl _)]
 walk_at "v"
 refine ⟨_,by rw [sns,show sn M' (.m hk) = some (.lst (ws.map tOf)) by simp only [sn,eh2]; rw [zN]; rfl]; rfl,_,rfl,Jd S.R S.l8 S.ok,⟨_,rfl⟩, ?_⟩
 walk_at "v"
 refine Zr (by decide) (by decide) ?_
 refine jJ (m:=8) (by decide) (fun i acc M2 => M2 = M'∧acc = (ws.take i).map fun x => T.str (xQ x.1)) ⟨rfl,rfl⟩ (fun i acc M2 hi hl hI => ?_) (fun acc M2 hI => ?_)
 ·obtain ⟨rfl,rfl⟩:=hI
  obtain ⟨x,hx⟩:∃ x,ws[i]? = some x:=⟨_,List.getElem?_eq_getElem (by rw [S.l8]; exact hi)⟩
  walk_at "v"
  refine mS S (by rfl) ?_
  walk_at "v"
  refine ⟨s,h,kp,bits,ms,room,ws,i,_,rfl,S,hx, ?_⟩
  walk_at "v"
  exact jE (f:=fun x:KL => T.str (xQ x.1)) hx
 obtain ⟨rfl,rfl⟩:=hI
 rw [List.take_of_length_le (by rw [S.l8]; exact Nat.le_refl _)]
 walk_at "v"
 refine VZ eh2 ?_
 refine jK h8 (fun i acc M' => M' = M2∧acc = ((ws.take i).map fun x => T.str (xQ x.1))) ⟨rfl,rfl⟩ (fun i acc M' hI => by rw [hI.1]; exact eh2) (fun i z acc M' hz hl hI => ?_) (fun acc M' hI => ?_)
 ·obtain ⟨rfl,rfl⟩:=hI
  obtain ⟨x,hx,rfl⟩:=get_map hz
  walk_at "v"
  exact ⟨bits,ms,x,rfl,S.ok x (List.mem_of_getElem? hx),jE (f:=fun x:KL => T.str (xQ x.1)) hx⟩
 obtain ⟨rfl,rfl⟩:=hI
 rw [List.length_map,List.take_length]
 walk_at "v"
 refine ⟨_,rfl,Xk S.l8 S.ok, ?_⟩
 walk_at "v"
 refine ⟨kb,o,8,rfl,eb,hB,by decide,by decide,fun q' o1 q0 q1 B1 => ?_⟩
 have hkb:=(List.getElem?_eq_some_iff.mp eb).1
 refine ⟨kb,o1,8,rfl,List.getElem?_set_self hkb,B1,by decide,by decide,fun p' o2 p0 p1 B2 => ?_⟩
 rw [List.set_set]
 have S2:=S.bag (o:=o2) n1 n2 n3
 have eh3:(M'.set kb o2)[hk]? = some (.lst (ws.map fun x => .p (tOf x))):=by rw [List.getElem?_set_ne n4]; exact eh
 have post2:=post o2 B2
 generalize M'.set kb o2 = N2 at S2 eh3 post2 ⊢
 obtain ⟨q,rfl⟩:∃ n:Nat,q' = n:=⟨q'.toNat,by omega⟩
 obtain ⟨p,rfl⟩:∃ n:Nat,p' = n:=⟨p'.toNat,by omega⟩
 obtain ⟨x,hx⟩:∃ x,ws[q]? = some x:=⟨_,List.getElem?_eq_getElem (by rw [S.l8]; omega)⟩
 obtain ⟨y,hy⟩:∃ x,ws[p]? = some x:=⟨_,List.getElem?_eq_getElem (by rw [S.l8]; omega)⟩
 have ix:=S.ok x (List.mem_of_getElem? hx)
 have iy:=S.ok y (List.mem_of_getElem? hy)
 have gq:∀ {j:Nat} {z:KL} {Q:UK},ws[j]? = some z→Q (.p (tOf z)) N2→IxS qM N2 (.m hk) (.p (.int (j:Int))) Q:=fun hj qq => VY (us:=ws.map fun x => .p (tOf x)) (by simp [qM,eh3]) (xt (by rw [List.getElem?_map,hj]; rfl)) qq
 walk_at "v"
 refine gq hx ?_
 walk_at "v"
 refine ⟨bits,ms,x,rfl,ix, ?_⟩
 refine gq hy ?_
 walk_at "v"
 refine ⟨bits,ms,y,rfl,iy, ?_⟩
 walk_at "v"
 refine ite2 (fun hkk => ?_) (fun hkk => ?_)
 ·refine gq hx ?_
  refine gq hy ?_
  walk_at "v"
  refine eqK_at ix iy ?_
  walk_at "v"
  refine mS S2 (by rfl) ?_
  walk_at "v"
  refine ⟨s,h,kp,bits,ms,room,ws,q,p,x,y,rfl,S2,hx,hy, ?_⟩
  walk_at "v"
  refine mS S2 (by rfl) ?_
  walk_at "v"
  refine ⟨s,h,kp,bits,ms,room,ws,p,q,y,x,rfl,S2,hy,hx, ?_⟩
  rw [decide_eq_decide.mpr (show y = x ↔ x = y from ⟨Eq.symm,Eq.symm⟩)]
  walk_at "v"
  refine ⟨.lst [.bl (decide (x = y)), .bl (decide (x = y))],rfl,Zo, ?_⟩
  walk_at "v"
  refine ⟨s,h,kp,bits,ms,room,ws,q,p,x,y,rfl,S2,hx,hy, ?_⟩
  walk_at "v"
  refine ⟨hk,ws,q,p,x,y,bits,ms,rfl,eh3,hx,hy,ix,iy, ?_⟩
  walk_at "v"
  refine ⟨_,rfl,Zp, ?_⟩
  walk_at "v"
  exact post2
 ·have ne:¬ x = y:=fun z => hkk (by rw [z])
  walk_at "v"
  refine mS S2 (by rfl) ?_
  walk_at "v"
  refine ⟨s,h,kp,bits,ms,room,ws,q,p,x,y,rfl,S2,hx,hy, ?_⟩
  walk_at "v"
  refine mS S2 (by rfl) ?_
  walk_at "v"
  refine ⟨s,h,kp,bits,ms,room,ws,p,q,y,x,rfl,S2,hy,hx, ?_⟩
  rw [decide_eq_decide.mpr (show y = x ↔ x = y from ⟨Eq.symm,Eq.symm⟩)]
  walk_at "v"
  refine ⟨.lst [.bl (decide (x = y)), .bl (decide (x = y))],by rw [decide_eq_false ne],Zo, ?_⟩
  walk_at "v"
  refine ⟨s,h,kp,bits,ms,room,ws,q,p,x,y,rfl,S2,hx,hy, ?_⟩
  walk_at "v"
  refine ⟨hk,ws,q,p,x,y,bits,ms,rfl,eh3,hx,hy,ix,iy, ?_⟩
  walk_at "v"
  refine ⟨_,rfl,Zp, ?_⟩
  walk_at "v"
  exact post2
def Jb (K:PySem.W.Frag):Sp:=fun vs H Q _ => ∃ (a:Addr) (ns:List Int),vs = [.ref a]∧SqL K H a (ns.map V.int)∧ns.length≤63∧∀ H',Q (.bl true) H'
theorem law_okU {st:Stmt} {f:Addr} {fd:FuncData} {N:List Str} {k:Nat} (F:Fun K "law" "law" st f fd) (S:FnScope N ["script"] (qc st)) (hN:2≤N.length)
  (hbody:∀ (cdv:Value) (A:Around) (outer:List Env) (s:Shared) (H:Hp) (E:XK),Room k (A.deeper (envOfC "law" (qc st) s.heap.objs.size f cdv)) →
   ∃ tR,QSs (cxOf CX0 P w K mg base N "law" (qc st) f cdv A outer s H E).nox (qg st) (tSeq (tAsg (vN (spBag K) [] E0 (vH (tVar 0) tNil)) (qE 1)) tR)∧∃ uR,ZS tR uR∧∀ o,BagO o→uR { nx:=fun _ _ => False,rt:=fun z _ => z = .p (.bl true) } (none :: some (.m 0) :: List.replicate (N.length - 2) none) [o]):FnOk P w K mg base CX0 (k + 1) f fd ["script"] (Jb K):=by
 refine F.okQ S (fun vs H Q E h => ?_) (fun cdv A outer s H vs Q E hr h => ?_)
 ·obtain ⟨_,_,rfl,_⟩:=h
  rfl
 ·obtain ⟨a,ns,rfl,hS,hlen,k⟩:=h
  obtain ⟨tR,hT,uR,hU,hq⟩:=hbody cdv A outer s H E hr
  refine ⟨_,hT, ?_⟩
  have hN2:L2.start N [.ref a] = some (.ref a) :: none :: List.replicate (N.length - 2) none:=by
   unfold L2.start
   obtain ⟨m,hm⟩:∃ m,N.length = m + 2:=⟨N.length - 2,by omega⟩
   rw [hm]
   rfl
  rw [hN2]
  simp only [tSeq,tAsg,vN,vH,tNil,tVar,qE,List.getElem?_cons_zero,Option.some.injEq,exists_eq_left',List.append_nil,List.set_cons_zero,List.set_cons_succ]
  refine ⟨a,ns,rfl,hS,hlen,fun b H1 hb s1 B1 => ?_⟩
  obtain ⟨c,ns',i,a',st',n,hbb,hcc,r⟩:=id B1.ex
  have ncb:c≠b:=Yu hbb hcc
  obtain ⟨o,hbo,ro,_⟩:=Xd (A:=fun _ => False) (ι:=[b]) B1 ⟨_,hbb⟩ (fun z => z.elim id fun z => ncb (by simpa using z))
  have w1:L2.Wd (fun _ => False) [b] H1 [o]:=⟨by simp,rfl,fun x hx => hx.elim,fun x _ z => z,fun k a2 o2 e1 e2 => by
   match k,e1,e2 with
   | 0,e1,e2 => cases e1; cases e2; exact ro
   | k + 1,e1,_ => simp at e1⟩
  have env:EnvR (fun _ => False) [b] H1 (some (.ref a) :: some (.ref b) :: List.replicate (N.length - 2) none) (none :: some (.m 0) :: List.replicate (N.length - 2) none):=by
   refine .cons (fun u e => by cases e) (.cons (fun u e => by cases e; exact ⟨_,rfl, .m rfl⟩) ?_)
   generalize N.length - 2 = m
   induction m with
   | zero => exact .nil
   | succ m ih => exact .cons (fun u e => by cases e) ih
  refine hU.h (fun _ => False) [b] _ H1 _ [o] _ { nx:=fun _ _ => False,rt:=fun z _ => z = .p (.bl true) } w1 env ⟨fun _ _ _ _ _ _ _ _ q => q.elim,fun ι v H2 u M _ _ ru q => ?_,fun _ _ _ _ _ _ _ _ q => q.elim,fun _ _ _ _ _ _ _ _ q => q.elim⟩ (hq o hbo)
  have q:u = .p (.bl true):=q
  subst q
  cases ru with
  | p r => cases r; exact k H2
theorem XU {o:MO} {L:List MO} {many:Int} {Q:UK} (B:BagO o) (h0:0 < many) (h1:many.natAbs.log2 < 9000) (q:∀ (found:Int) (o':MO),0≤found→found < many→BagO o'→Q (.p (.int found)) (o' :: L)):Qb [.m 0, .p (.int many)] (o :: L) Q :=
 ⟨0,o,many,rfl,rfl,B,h0,h1,fun f o' f0 f1 B' => q f o' f0 f1 B'⟩
theorem layL {o:MO} {L:List MO} {Q:UK} (B:BagO o) (q:∀ (o':MO) (bits:Int) (ms:List Mk3),BagO o'→Right bits ms→Q (.p (layT bits ms)) (o' :: L)):kY [.m 0] (o :: L) Q :=
 ⟨0,o,rfl,rfl,B,fun o' bits ms B' R => q o' bits ms B' R⟩
theorem sto5 {C:Addr} {o:MO} {L:MM} {bits:Int} {ms:List Mk3} {room:Int} {ws:List KL} (R:Right bits ms) (l8:ws.length = 8) (ok:∀ x ∈ ws,InW bits ms x):Sto C (o :: .ins C (flds bits ms room 2 3) :: hw bits ms ws :: .lst [] :: L) 1 2 3 bits ms room ws:=⟨rfl,rfl,rfl,by decide,by decide,R,l8,ok⟩
theorem at2 {x y j:Int} (h0:0≤j) (h1:j < 2):∃ a,atI [T.int x,T.int y] j = some (.int a)∧(a = x∨a = y):=by
 rcases (show j = 0∨j = 1 by omega) with rfl | rfl
 ·exact ⟨_,rfl, .inl rfl⟩
 ·exact ⟨_,rfl, .inr rfl⟩
theorem hdix {o a b c:MO} {ws:List KL} {j:Nat} {x:KL} {Q:UK} (hj:ws[j]? = some x) (q:Q (.p (tOf x)) [o,a,b,c,hd ws]):IxS qM [o,a,b,c,hd ws] (.m 4) (.p (.int (j:Int))) Q:=VY (us:=ws.map fun x => .p (tOf x)) rfl (xt (by rw [List.getElem?_map,hj]; rfl)) q
theorem hdput {o a b c:MO} {ws:List KL} {r:Nat} {x:KL} {R:MM→Prop} (hr:r < ws.length) (q:R [o,a,b,c,hd (ws.set r x)]):SubS [o,a,b,c,hd ws] (.m 4) (.p (.int (r:Int))) (.p (tOf x)) R:=by
 refine ⟨4,ws.map fun x => .p (tOf x),r,r,rfl,rfl,rfl, ?_, ?_⟩
 ·unfold ixN
  simp [hr]
 ·show R [o,a,b,c, .lst ((ws.map fun x => U.p (tOf x)).set r (.p (tOf x)))]
  rw [← List.map_set (f:=fun x => U.p (tOf x))]
  exact q
abbrev sLaw:Stmt:=top 64
theorem scLaw:FnScope ["script", "bag", "laying", "store", "held", "k", "r", "q"] ["script"] (qc sLaw):=⟨rfl,rfl,rfl,by decide +kernel,rfl,by decide +kernel,by decide +kernel⟩
theorem ok_lawU {C:Addr} {f:Addr} {fd:FuncData} (F:Fun K "law" "law" sLaw f fd) (N:Nms mg) (TP:TxStore K C) (TStore:Cls K C) (KStore:MkDef P w K mg base C "Store" 4 ["self", "laying", "room"] (spU (KQ C))) (DBag:Def P w K mg base "_law_bag" 1 ["script"] (spBag K)) (DDraw:Def P w K mg base "_law_draw" 1 ["bag", "many"] (spU Qb)) (DLaying:Def P w K mg base "_law_laying" 3 ["bag"] (spU kY)) (DWorthDrawn:Def P w K mg base "_law_worth_drawn" 3 ["bag", "laying"] (spU K1)) (DPut:Def P w K mg base "_law_put" 5 ["store", "r", "worth"] (spU (gLPut C))) (DRight:Def P w K mg base "_law_right" 8 ["bag", "laying", "store", "held"] (spU (ZY C))) (MStoreCopy:MDef P w K mg base C "copy" 1 ["self", "r", "q"] (spU (KU C))):FnOk P w K mg base CX0 9 f fd ["script"] (Jb K):=by
 refine law_okU F scLaw (by decide) (fun cdv A outer s H E hr => ?_)
 refine ⟨_,(qi (qH (i:=1) scLaw.nd rfl (Or.inl rfl) (qo DBag (hr.mono (by first | decide | exact Nat.le_refl _)) (qa_c (qv 0) qe)))
  (qi (qH (i:=2) scLaw.nd rfl (Or.inl rfl) (qo DLaying (hr.mono (by first | decide | exact Nat.le_refl _)) (qa_c (qv 1) qe)))
  (qi (qH (i:=3) scLaw.nd rfl (Or.inl rfl) (qe_mk KStore (hr.mono (by first | decide | exact Nat.le_refl _)) rfl (qa_c (qv 2) (qa_c (qC (qm (K:=K) rfl) (vg (qa_c qd (qa_c (qo DDraw (hr.mono (by first | decide | exact Nat.le_refl _)) (qa_c (qv 1) (qa_c qd qe))) qe))) (qo DDraw (hr.mono (by first | decide | exact Nat.le_refl _)) (qa_c (qv 1) (qa_c qd qe))) (fun _ _ => rfl)) qe))))
  (qi (qH (i:=4) scLaw.nd rfl (Or.inl rfl) (qw J4 (vg (qa_c qy qe)) qd))
  (qi (ZF PassesOwn.never rfl (x3 rfl N.range (qa_c (qw vM qd (qo DDraw (hr.mono (by first | decide | exact Nat.le_refl _)) (qa_c (qv 1) (qa_c qd qe)))) qe)) (v5 (i:=5) scLaw.nd rfl (Or.inl rfl))
   (qi (qH (i:=6) scLaw.nd rfl (Or.inl rfl) (qo DDraw (hr.mono (by first | decide | exact Nat.le_refl _)) (qa_c (qv 1) (qa_c qd qe))))
   (qi (v3 (qJ op_eq (qo DDraw (hr.mono (by first | decide | exact Nat.le_refl _)) (qa_c (qv 1) (qa_c qd qe))) qd (qK _))
    (qi (qH (i:=7) scLaw.nd rfl (Or.inl rfl) (qo DDraw (hr.mono (by first | decide | exact Nat.le_refl _)) (qa_c (qv 1) (qa_c qd qe))))
    (qi (zo (vo MStoreCopy TStore (qv 3) (hr.mono (by first | decide | exact Nat.le_refl _)) (qa_c (qv 6) (qa_c (qv 7) qe))))
    (qk (zM (qC (qm (K:=K) rfl) (qv 4) (qv 7) (fun _ _ => rfl)) (xk (qv 4) (qv 6) vO)))))
    (qi (zM (qo DWorthDrawn (hr.mono (by first | decide | exact Nat.le_refl _)) (qa_c (qv 1) (qa_c (qv 2) qe))) (xk (qv 4) (qv 6) vO))
    (qk (zo (qo DPut (hr.mono (by first | decide | exact Nat.le_refl _)) (qa_c (qv 3) (qa_c (qv 6) (qa_c (qC (qm (K:=K) rfl) (qv 4) (qv 6) (fun _ _ => rfl)) qe))))))))
   (qk (v3 (ki (v9 (qo DRight (hr.mono (by first | decide | exact Nat.le_refl _)) (qa_c (qv 1) (qa_c (qv 2) (qa_c (qv 3) (qa_c (qv 4) qe)))))))
    (qk (qx Xs))
    qR)))))
  (qk (qx Xs))))))),_,(ql (qB (qp (qa (qb 1) qf)) (qu 2))
   (ql (qB (ce_make (qa (qb 2) (qa (qZ (vG (qa (ce_c (.int _)) (qa (qp (qa (qb 1) (qa (ce_c (.int _)) qf))) qf))) (qp (qa (qb 1) (qa (ce_c (.int _)) qf)))) qf))) (qu 3))
   (ql (qB (Vk (vG (qa (ce_c (.str _)) qf)) (ce_c (.int _))) (qu 4))
   (ql (Yh (Qh (qa (qr (qD fun _ _ => .int _) (ce_c (.int _)) (qp (qa (qb 1) (qa (ce_c (.int _)) qf)))) qf)) (qu 5)
   (ql (qB (qp (qa (qb 1) (qa (ce_c (.int _)) qf))) (qu 6))
   (ql (v6 (qP (qr vQ (qp (qa (qb 1) (qa (ce_c (.int _)) qf))) (ce_c (.int _))))
   (ql (qB (qp (qa (qb 1) (qa (ce_c (.int _)) qf))) (qu 7))
   (ql (zu (vh (qb 3) (qa (qb 6) (qa (qb 7) qf))))
   (qB (qZ (qb 4) (qb 7)) (kA (qb 4) (qb 6)))))
   (ql (qB (qp (qa (qb 1) (qa (qb 2) qf))) (kA (qb 4) (qb 6)))
   (zu (qp (qa (qb 3) (qa (qb 6) (qa (qZ (qb 4) (qb 6)) qf)))))))
   (v6 (ky (ct_b (qp (qa (qb 1) (qa (qb 2) (qa (qb 3) (qa (qb 4) qf)))))))
   (qA (ce_c (.bl _)))
   qQ))))
   (qA (ce_c (.bl _))))))),fun o hB => ?_⟩
 show uSeq _ _ _ [none,some (.m 0),none,none,none,none,none,none] _
 walk_at "v"
 refine layL hB fun o1 bits ms B1 R => ?_
 walk_at "v"
 refine XU B1 (by decide) (by decide) fun d1 o2 d10 d11 B2 => ?_
 walk_at "v"
 refine XU B2 (by decide) (by decide) fun d2 o3 d20 d21 B3 => ?_
 obtain ⟨room,hv,hv2⟩:=at2 (x:=0) (y:=d1) d20 d21
 refine vU hv ?_
 clear hv hv2
 refine ⟨1,bits,ms,room,rfl,rfl,R,V0 R (by decide) (by decide),rfl, ?_⟩
 show uSeq _ _ _ _ [o3, .ins C (flds bits ms room 2 3),hw bits ms VO, .lst []]
 walk_at "v"
 refine Jm (by decide) (by decide) (by decide) ?_
 have e8:([o3, .ins C (flds bits ms room 2 3),hw bits ms VO, .lst []]:MM) ++ [.lst ((List.replicate (Int.toNat 8) [T.str "none"]).flatten.map U.p)] = [o3, .ins C (flds bits ms room 2 3),hw bits ms VO, .lst [],hd VO]:=by
  unfold hd VO
  simp only [List.map_replicate,Zn]
  rfl
 rw [e8]
 walk_at "v"
 refine XU B3 (by decide) (by decide) fun d3 o4 d30 d31 B4 => ?_
 walk_at "v"
 refine Zr (by omega) (by omega) ?_
 refine ufor_rng (fun _ ρ M => ∃ o ws x5 x6 x7,BagO o∧ws.length = 8∧(∀ x ∈ ws,InW bits ms x)∧ρ = [none,some (.m 0),some (.p (layT bits ms)),some (.m 1),some (.m 4),x5,x6,x7]∧M = [o, .ins C (flds bits ms room 2 3),hw bits ms ws, .lst [],hd ws]) ⟨o4,VO,_,_,_,B4,rfl,fun x hx => by rw [List.eq_of_mem_replicate hx]; exact V0 R (by decide) (by decide),rfl,rfl⟩ (fun i ρ2 M2 hi hI => ?_) (fun ρ2 M2 hI => ?_)
 ·obtain ⟨o5,ws,x5,x6,x7,B5,l8,ok,rfl,rfl⟩:=hI
  walk_at "v"
  refine XU B5 (by decide) (by decide) fun r' o6 r0 r1 B6 => ?_
  obtain ⟨r,rfl⟩:∃ n:Nat,r' = n:=⟨r'.toNat,by omega⟩
  have hr8:r < ws.length:=by rw [l8]; omega
  walk_at "v"
  refine XU B6 (by decide) (by decide) fun d6 o7 d60 d61 B7 => ?_
  walk_at "v"
  refine ite2 (fun h6 => ?_) (fun h6 => ?_)
  ·walk_at "v"
   refine XU B7 (by decide) (by decide) fun q' o8 q0 q1 B8 => ?_
   obtain ⟨q,rfl⟩:∃ n:Nat,q' = n:=⟨q'.toNat,by omega⟩
   obtain ⟨x,hx⟩:∃ x,ws[q]? = some x:=⟨_,List.getElem?_eq_getElem (by rw [l8]; omega)⟩
   have l8s:(ws.set r x).length = 8:=by rw [List.length_set]; exact l8
   have oks:∀ y ∈ ws.set r x,InW bits ms y:=fun y hy => (List.mem_or_eq_of_mem_set hy).elim (ok y) fun z => by rw [z]; exact ok x (List.mem_of_getElem? hx)
   walk_at "v"
   refine mS (sto5 R l8 ok) (by rfl) ?_
   walk_at "v"
   refine ⟨1,2,3,bits,ms,room,ws,r,q,x,rfl,sto5 R l8 ok,by omega,hx, ?_⟩
   show IxS qM [o8, .ins C (flds bits ms room 2 3),hw bits ms (ws.set r x), .lst [],hd ws] _ _ _
   refine hdix hx ?_
   walk_at "v"
   refine hdput hr8 ?_
   walk_at "v"
   refine ⟨1,2,3,bits,ms,room,ws.set r x,0,4,o8,rfl,sto5 R l8s oks,rfl,B8,rfl,by decide,by decide,by decide,by decide,fun o9 B9 => ?_⟩
   walk_at "v"
   exact ⟨o9,ws.set r x,_,_,_,B9,l8s,oks,rfl,rfl⟩
  ·walk_at "v"
   refine ⟨0,o7,bits,ms,rfl,rfl,B7,R,fun x o8 hx B8 => ?_⟩
   have l8s:(ws.set r x).length = 8:=by rw [List.length_set]; exact l8
   have oks:∀ y ∈ ws.set r x,InW bits ms y:=fun y hy => (List.mem_or_eq_of_mem_set hy).elim (ok y) fun z => by rw [z]; exact hx
   show SubS [o8, .ins C (flds bits ms room 2 3),hw bits ms ws, .lst [],hd ws] _ _ _ _
   refine hdput hr8 ?_
   walk_at "v"
   refine hdix (x:=x) (by rw [List.getElem?_set_self hr8]) ?_
   refine ⟨1,2,3,bits,ms,room,ws,r,x,rfl,sto5 R l8 ok,by omega,hx, ?_⟩
   show ZY C _ [o8, .ins C (flds bits ms room 2 3),hw bits ms (ws.set r x), .lst [],hd (ws.set r x)] _
   walk_at "v"
   refine ⟨1,2,3,bits,ms,room,ws.set r x,0,4,o8,rfl,sto5 R l8s oks,rfl,B8,rfl,by decide,by decide,by decide,by decide,fun o9 B9 => ?_⟩
   walk_at "v"
   exact ⟨o9,ws.set r x,_,_,_,B9,l8s,oks,rfl,rfl⟩
 ·obtain ⟨o5,ws,x5,x6,x7,B5,l8,ok,rfl,rfl⟩:=hI
  walk_at "v"
--@XI
abbrev jm:Stmt:=qj (top 3) 0
theorem scWkInit:FnScope ["self", "part"] ["self", "part"] (qc jm):=⟨rfl,rfl,rfl,by decide +kernel,rfl,by decide +kernel,by decide +kernel⟩
theorem ok_winit {C B f:Addr} {fd:FuncData} (F:Fun K "__init__" "WrongKind.__init__" jm f fd) (ck:ExcK K C f) (na:NoAttr K C "part") (ib:InitB K mg "WordError" B):FnOk P w K mg base CX0 1 f fd ["self", "part"] (spI C):=by
 refine F.okQ scWkInit (fun vs H Q E h => ?_) (fun cdv A outer s H vs Q E hr h => ?_)
 ·obtain ⟨_,_,rfl,_⟩:=h
  rfl
 refine ⟨_,(qi (qs_initB ck ib (qa_c (qv 0) (qa_c (qe_fs3 (by decide) (by decide) (qv 1)) qe)))
  (qk (qs_setX ck na (qv 0) (qv 1)))), ?_⟩
 obtain ⟨a,n,rfl,hn,ha,q⟩:=h
 refine ⟨.ref a,rfl, .int n,rfl,n,rfl,hn.1,hn.2,a,none,_,rfl,ha,by show 1≤1000; decide, ?_⟩
 refine ⟨.int n,rfl, .ref a,rfl,a,rfl,ha,fun d hd => q d hd⟩
abbrev xZ:Stmt:=top 16
abbrev v7:Stmt:=qj (top 46) 5
abbrev xY:Stmt:=qj (top 46) 6
end
end Mw
namespace Mw
open PySem L2
theorem all_mk {l:PySem.W.OpenLaw} {w:World} {K:PySem.W.Frag} {h:Heap} {mg:Str→Option Value} {fa f1 f2 f3 f4 f5 f6 f7 f8 f9 f10 f11 f12 f13 f14 f15 f16 f17 f18 f19 f20 f21 f22 f23 f24 f25 f26 f27 f28 f29 f30 f31 f32 f33 f34 f35 f36 f37 f38 f39 f40 f41 f42 f43 f44 f45 C1 CEWk CEWordError:Addr} (X:K.In h) (G:h.Ns mainGlobals mg) (hfa:mg "law" = some (.ref fa))
  {od1 an1 od2 an2 od3 an3 od4 an4 od5 an5 od6 an6 od7 an7 od8 an8 od9 an9 od10 an10 od11 an11 od12 an12 od13 an13 od14 an14 od15 an15 od16 an16 od17 an17 od18 an18 od21 an21 od22 an22 od23 an23 od24 an24 od25 an25 od26 an26 od27 an27 od28 an28 od29 an29 od30 an30 od31 an31 od32 an32 od33 an33 od34 an34 od35 an35 od36 an36 od37 an37 od38 an38 od39 an39 od40 an40 od41 an41 od42 an42 od43 an43 od44 an44 od45 an45:Option Addr} {sl1 sl2 sl3 sl4 sl5 sl6 sl7 sl8 sl9 sl10 sl11 sl12 sl13 sl14 sl15 sl16 sl17 sl18 sl21 sl22 sl23 sl24 sl25 sl26 sl27 sl28 sl29 sl30 sl31 sl32 sl33 sl34 sl35 sl36 sl37 sl38 sl39 sl40 sl41 sl42 sl43 sl44 sl45:Array (Option Value)} {oc1 kV1 dc1 pm1 cdd1 ct1 oc2 kV2 dc2 pm2 cdd2 ct2 oc3 kV3 dc3 pm3 cdd3 ct3 oc4 kV4 dc4 pm4 cdd4 ct4 oc5 kV5 dc5 pm5 cdd5 ct5 oc6 kV6 dc6 pm6 cdd6 ct6 oc7 kV7 dc7 pm7 cdd7 ct7 oc8 kV8 dc8 pm8 cdd8 ct8 oc9 kV9 dc9 pm9 cdd9 ct9 oc10 kV10 dc10 pm10 cdd10 ct10 oc11 kV11 dc11 pm11 cdd11 ct11 oc12 kV12 dc12 pm12 cdd12 ct12 oc13 kV13 dc13 pm13 cdd13 ct13 oc14 kV14 dc14 pm14 cdd14 ct14 oc15 kV15 dc15 pm15 cdd15 ct15 oc16 kV16 dc16 pm16 cdd16 ct16 oc17 kV17 dc17 pm17 cdd17 ct17 oc18 kV18 dc18 pm18 cdd18 ct18 oc21 kV21 dc21 pm21 cdd21 ct21 oc22 kV22 dc22 pm22 cdd22 ct22 oc23 kV23 dc23 pm23 cdd23 ct23 oc24 kV24 dc24 pm24 cdd24 ct24 oc25 kV25 dc25 pm25 cdd25 ct25 oc26 kV26 dc26 pm26 cdd26 ct26 oc27 kV27 dc27 pm27 cdd27 ct27 oc28 kV28 dc28 pm28 cdd28 ct28 oc29 kV29 dc29 pm29 cdd29 ct29 oc30 kV30 dc30 pm30 cdd30 ct30 oc31 kV31 dc31 pm31 cdd31 ct31 oc32 kV32 dc32 pm32 cdd32 ct32 oc33 kV33 dc33 pm33 cdd33 ct33 oc34 kV34 dc34 pm34 cdd34 ct34 oc35 kV35 dc35 pm35 cdd35 ct35 oc36 kV36 dc36 pm36 cdd36 ct36 oc37 kV37 dc37 pm37 cdd37 ct37 oc38 kV38 dc38 pm38 cdd38 ct38 oc39 kV39 dc39 pm39 cdd39 ct39 oc40 kV40 dc40 pm40 cdd40 ct40 oc41 kV41 dc41 pm41 cdd41 ct41 oc42 kV42 dc42 pm42 cdd42 ct42 oc43 kV43 dc43 pm43 cdd43 ct43 oc44 kV44 dc44 pm44 cdd44 ct44 oc45 kV45 dc45 pm45 cdd45 ct45:Value} {ft1:Addr} {tn1:Nat} {tsl1:Array (Option Value)} {tk1_0 tk1_1 tk1_2:Tok} {gk1:Tok} {gk2:Tok} {fd_1:Addr} {ke1:Nat} {ka1_0 kb1_0 ka1_1 kb1_1 ka1_2 kb1_2 ka1_3 kb1_3 ka1_4 kb1_4:Tok}
  (ca1:PySem.W.nsIn K mainGlobals "Store" = some (some (.ref C1)))
  (cb1:PySem.W.plainGet K C1 Str.empty = true)
  (cc1:PySem.W.hasDictIn K C1 = true)
  (cd1:PySem.W.plainOver K C1 = true)
  (ce1:PySem.W.findIn K (.ref C1) "__setattr__" = some (some (.builtin "object.__setattr__")))
  (cf1:PySem.W.makesIn K C1 = true)
  (cg1:PySem.W.keepIn K (.ref C1) = true)
  (ch1_1:PySem.W.findIn K (.ref C1) "laying" = some none)
  (ch1_2:PySem.W.findIn K (.ref C1) "room" = some none)
  (ch1_3:PySem.W.findIn K (.ref C1) "held" = some none)
  (ch1_4:PySem.W.findIn K (.ref C1) "kept" = some none)
  (ch1_5:PySem.W.findIn K (.ref C1) "quick" = some none)
  (ch1_6:PySem.W.findIn K (.ref C1) "slow" = some none)
  (ch1_7:PySem.W.findIn K (.ref C1) "sweeps" = some none)
  (xaWk:PySem.W.nsIn K mainGlobals "WrongKind" = some (some (.ref CEWk)))
  (xaWordError:PySem.W.nsIn K mainGlobals "WordError" = some (some (.ref CEWordError)))
  (EWk_Wk:PySem.W.exmOne K (.ref CEWk) (.ref CEWk) = some true)
  (a1:PySem.W.nsIn K mainGlobals "_law_bag" = some (some (.ref f1)))
  (l1:K.lookup f1 = some ⟨oc1,od1, .func (PySem.W.fnOf "_law_bag" "_law_bag" (qh sBag) (qg sBag) (qc sBag) .none kV1 dc1 pm1 an1 cdd1 ct1),sl1⟩)
  (c1:PySem.W.codeIn K cdd1 "_law_bag" = true)
  (k1:PySem.W.keepIn K (.ref f1) = true)
  (a2:PySem.W.nsIn K mainGlobals "_law_draw" = some (some (.ref f2)))
  (l2:K.lookup f2 = some ⟨oc2,od2, .func (PySem.W.fnOf "_law_draw" "_law_draw" (qh VG) (qg VG) (qc VG) .none kV2 dc2 pm2 an2 cdd2 ct2),sl2⟩)
  (c2:PySem.W.codeIn K cdd2 "_law_draw" = true)
  (k2:PySem.W.keepIn K (.ref f2) = true)
  (a3:PySem.W.nsIn K mainGlobals "_law_full_laying" = some (some (.ref f3)))
  (l3:K.lookup f3 = some ⟨oc3,od3, .func (PySem.W.fnOf "_law_full_laying" "_law_full_laying" (qh vZ) (qg vZ) (qc vZ) .none kV3 dc3 pm3 an3 cdd3 ct3),sl3⟩)
  (c3:PySem.W.codeIn K cdd3 "_law_full_laying" = true)
  (k3:PySem.W.keepIn K (.ref f3) = true)
  (a4:PySem.W.nsIn K mainGlobals "_law_laying" = some (some (.ref f4)))
  (l4:K.lookup f4 = some ⟨oc4,od4, .func (PySem.W.fnOf "_law_laying" "_law_laying" (qh jq) (qg jq) (qc jq) .none kV4 dc4 pm4 an4 cdd4 ct4),sl4⟩)
  (c4:PySem.W.codeIn K cdd4 "_law_laying" = true)
  (k4:PySem.W.keepIn K (.ref f4) = true)
  (a5:PySem.W.nsIn K mainGlobals "mark_for" = some (some (.ref f5)))
  (l5:K.lookup f5 = some ⟨oc5,od5, .func (PySem.W.fnOf "mark_for" "mark_for" (qh xz) (qg xz) (qc xz) .none kV5 dc5 pm5 an5 cdd5 ct5),sl5⟩)
  (c5:PySem.W.codeIn K cdd5 "mark_for" = true)
  (k5:PySem.W.keepIn K (.ref f5) = true)
  (a6:PySem.W.nsIn K mainGlobals "_law_mark" = some (some (.ref f6)))
  (l6:K.lookup f6 = some ⟨oc6,od6, .func (PySem.W.fnOf "_law_mark" "_law_mark" (qh Xp) (qg Xp) (qc Xp) .none kV6 dc6 pm6 an6 cdd6 ct6),sl6⟩)
  (c6:PySem.W.codeIn K cdd6 "_law_mark" = true)
  (k6:PySem.W.keepIn K (.ref f6) = true)
  (a7:PySem.W.nsIn K mainGlobals "load_bits" = some (some (.ref f7)))
  (l7:K.lookup f7 = some ⟨oc7,od7, .func (PySem.W.fnOf "load_bits" "load_bits" (qh zK) (qg zK) (qc zK) .none kV7 dc7 pm7 an7 cdd7 ct7),sl7⟩)
  (c7:PySem.W.codeIn K cdd7 "load_bits" = true)
  (k7:PySem.W.keepIn K (.ref f7) = true)
  (a8:PySem.W.nsIn K mainGlobals "_law_load" = some (some (.ref f8)))
  (l8:K.lookup f8 = some ⟨oc8,od8, .func (PySem.W.fnOf "_law_load" "_law_load" (qh Xq) (qg Xq) (qc Xq) .none kV8 dc8 pm8 an8 cdd8 ct8),sl8⟩)
  (c8:PySem.W.codeIn K cdd8 "_law_load" = true)
  (k8:PySem.W.keepIn K (.ref f8) = true)
  (a9:PySem.W.nsIn K mainGlobals "kinds_on" = some (some (.ref f9)))
  (l9:K.lookup f9 = some ⟨oc9,od9, .func (PySem.W.fnOf "kinds_on" "kinds_on" (qh xA) (qg xA) (qc xA) .none kV9 dc9 pm9 an9 cdd9 ct9),sl9⟩)
  (c9:PySem.W.codeIn K cdd9 "kinds_on" = true)
  (k9:PySem.W.keepIn K (.ref f9) = true)
  (a10:PySem.W.nsIn K mainGlobals "mark_of" = some (some (.ref f10)))
  (l10:K.lookup f10 = some ⟨oc10,od10, .func (PySem.W.fnOf "mark_of" "mark_of" (qh jo) (qg jo) (qc jo) .none kV10 dc10 pm10 an10 cdd10 ct10),sl10⟩)
  (c10:PySem.W.codeIn K cdd10 "mark_of" = true)
  (k10:PySem.W.keepIn K (.ref f10) = true)
  (a11:PySem.W.nsIn K mainGlobals "load_of" = some (some (.ref f11)))
  (l11:K.lookup f11 = some ⟨oc11,od11, .func (PySem.W.fnOf "load_of" "load_of" (qh jp) (qg jp) (qc jp) .none kV11 dc11 pm11 an11 cdd11 ct11),sl11⟩)
  (c11:PySem.W.codeIn K cdd11 "load_of" = true)
  (k11:PySem.W.keepIn K (.ref f11) = true)
  (a12:PySem.W.nsIn K mainGlobals "marked" = some (some (.ref f12)))
  (l12:K.lookup f12 = some ⟨oc12,od12, .func (PySem.W.fnOf "marked" "marked" (qh jn) (qg jn) (qc jn) .none kV12 dc12 pm12 an12 cdd12 ct12),sl12⟩)
  (c12:PySem.W.codeIn K cdd12 "marked" = true)
  (k12:PySem.W.keepIn K (.ref f12) = true)
  (a13:PySem.W.nsIn K mainGlobals "small_of" = some (some (.ref f13)))
  (l13:K.lookup f13 = some ⟨oc13,od13, .func (PySem.W.fnOf "small_of" "small_of" (qh xy) (qg xy) (qc xy) .none kV13 dc13 pm13 an13 cdd13 ct13),sl13⟩)
  (c13:PySem.W.codeIn K cdd13 "small_of" = true)
  (k13:PySem.W.keepIn K (.ref f13) = true)
  (a14:PySem.W.nsIn K mainGlobals "worth_of" = some (some (.ref f14)))
  (l14:K.lookup f14 = some ⟨oc14,od14, .func (PySem.W.fnOf "worth_of" "worth_of" (qh xx) (qg xx) (qc xx) .none kV14 dc14 pm14 an14 cdd14 ct14),sl14⟩)
  (c14:PySem.W.codeIn K cdd14 "worth_of" = true)
  (k14:PySem.W.keepIn K (.ref f14) = true)
  (a15:PySem.W.nsIn K mainGlobals "word_of" = some (some (.ref f15)))
  (l15:K.lookup f15 = some ⟨oc15,od15, .func (PySem.W.fnOf "word_of" "word_of" (qh jl) (qg jl) (qc jl) .none kV15 dc15 pm15 an15 cdd15 ct15),sl15⟩)
  (c15:PySem.W.codeIn K cdd15 "word_of" = true)
  (k15:PySem.W.keepIn K (.ref f15) = true)
  (a16:PySem.W.nsIn K mainGlobals "is_small" = some (some (.ref f16)))
  (l16:K.lookup f16 = some ⟨oc16,od16, .func (PySem.W.fnOf "is_small" "is_small" (qh xB) (qg xB) (qc xB) .none kV16 dc16 pm16 an16 cdd16 ct16),sl16⟩)
  (c16:PySem.W.codeIn K cdd16 "is_small" = true)
  (k16:PySem.W.keepIn K (.ref f16) = true)
  (a17:PySem.W.findIn K (.ref CEWk) "__init__" = some (some (.ref f17)))
  (l17:K.lookup f17 = some ⟨oc17,od17, .func (PySem.W.fnOf "__init__" "WrongKind.__init__" (qh jm) (qg jm) (qc jm) .none kV17 dc17 pm17 an17 cdd17 ct17),sl17⟩)
  (c17:PySem.W.codeIn K cdd17 "WrongKind.__init__" = true)
  (k17:PySem.W.keepIn K (.ref f17) = true)
  (a18:PySem.W.nsIn K mainGlobals "own_laying" = some (some (.ref f18)))
  (l18:K.lookup f18 = some ⟨oc18,od18, .func (PySem.W.fnOf "own_laying" "own_laying" (qh zk) (qg zk) (qc zk) .none kV18 dc18 pm18 an18 cdd18 ct18),sl18⟩)
  (c18:PySem.W.codeIn K cdd18 "own_laying" = true)
  (k18:PySem.W.keepIn K (.ref f18) = true)
  (a19:PySem.W.nsIn K mainGlobals "is_great" = some (some (.ref f19)))
  (k19:PySem.W.keepIn K (.ref f19) = true)
  (a20:PySem.W.nsIn K mainGlobals "rows_of" = some (some (.ref f20)))
  (k20:PySem.W.keepIn K (.ref f20) = true)
  (a21:PySem.W.nsIn K mainGlobals "number_at" = some (some (.ref f21)))
  (l21:K.lookup f21 = some ⟨oc21,od21, .func (PySem.W.fnOf "number_at" "number_at" (qh xZ) (qg xZ) (qc xZ) .none kV21 dc21 pm21 an21 cdd21 ct21),sl21⟩)
  (c21:PySem.W.codeIn K cdd21 "number_at" = true)
  (k21:PySem.W.keepIn K (.ref f21) = true)
  (a22:PySem.W.findIn K (.ref C1) "__init__" = some (some (.ref f22)))
  (n22:PySem.W.isFn K (.ref f22) = true)
  (l22:K.lookup f22 = some ⟨oc22,od22, .func (PySem.W.fnOf "__init__" "Store.__init__" (qh zh) (qg zh) (qc zh) .none kV22 dc22 pm22 an22 cdd22 ct22),sl22⟩)
  (c22:PySem.W.codeIn K cdd22 "Store.__init__" = true)
  (k22:PySem.W.keepIn K (.ref f22) = true)
  (a23:PySem.W.findIn K (.ref C1) "words" = some (some (.ref f23)))
  (n23:PySem.W.isFn K (.ref f23) = true)
  (l23:K.lookup f23 = some ⟨oc23,od23, .func (PySem.W.fnOf "words" "Store.words" (qh vX) (qg vX) (qc vX) .none kV23 dc23 pm23 an23 cdd23 ct23),sl23⟩)
  (c23:PySem.W.codeIn K cdd23 "Store.words" = true)
  (k23:PySem.W.keepIn K (.ref f23) = true)
  (a24:PySem.W.findIn K (.ref C1) "outside" = some (some (.ref f24)))
  (n24:PySem.W.isFn K (.ref f24) = true)
  (l24:K.lookup f24 = some ⟨oc24,od24, .func (PySem.W.fnOf "outside" "Store.outside" (qh vD) (qg vD) (qc vD) .none kV24 dc24 pm24 an24 cdd24 ct24),sl24⟩)
  (c24:PySem.W.codeIn K cdd24 "Store.outside" = true)
  (k24:PySem.W.keepIn K (.ref f24) = true)
  (a25:PySem.W.findIn K (.ref C1) "sign" = some (some (.ref f25)))
  (n25:PySem.W.isFn K (.ref f25) = true)
  (l25:K.lookup f25 = some ⟨oc25,od25, .func (PySem.W.fnOf "sign" "Store.sign" (qh ze) (qg ze) (qc ze) .none kV25 dc25 pm25 an25 cdd25 ct25),sl25⟩)
  (c25:PySem.W.codeIn K cdd25 "Store.sign" = true)
  (k25:PySem.W.keepIn K (.ref f25) = true)
  (a26:PySem.W.findIn K (.ref C1) "one" = some (some (.ref f26)))
  (n26:PySem.W.isFn K (.ref f26) = true)
  (l26:K.lookup f26 = some ⟨oc26,od26, .func (PySem.W.fnOf "one" "Store.one" (qh zJ) (qg zJ) (qc zJ) .none kV26 dc26 pm26 an26 cdd26 ct26),sl26⟩)
  (c26:PySem.W.codeIn K cdd26 "Store.one" = true)
  (k26:PySem.W.keepIn K (.ref f26) = true)
  (a27:PySem.W.findIn K (.ref C1) "copy" = some (some (.ref f27)))
  (n27:PySem.W.isFn K (.ref f27) = true)
  (l27:K.lookup f27 = some ⟨oc27,od27, .func (PySem.W.fnOf "copy" "Store.copy" (qh zi) (qg zi) (qc zi) .none kV27 dc27 pm27 an27 cdd27 ct27),sl27⟩)
  (c27:PySem.W.codeIn K cdd27 "Store.copy" = true)
  (k27:PySem.W.keepIn K (.ref f27) = true)
  (a28:PySem.W.findIn K (.ref C1) "make_room" = some (some (.ref f28)))
  (n28:PySem.W.isFn K (.ref f28) = true)
  (l28:K.lookup f28 = some ⟨oc28,od28, .func (PySem.W.fnOf "make_room" "Store.make_room" (qh v7) (qg v7) (qc v7) .none kV28 dc28 pm28 an28 cdd28 ct28),sl28⟩)
  (c28:PySem.W.codeIn K cdd28 "Store.make_room" = true)
  (k28:PySem.W.keepIn K (.ref f28) = true)
  (a29:PySem.W.findIn K (.ref C1) "lay" = some (some (.ref f29)))
  (n29:PySem.W.isFn K (.ref f29) = true)
  (l29:K.lookup f29 = some ⟨oc29,od29, .func (PySem.W.fnOf "lay" "Store.lay" (qh xY) (qg xY) (qc xY) .none kV29 dc29 pm29 an29 cdd29 ct29),sl29⟩)
  (c29:PySem.W.codeIn K cdd29 "Store.lay" = true)
  (k29:PySem.W.keepIn K (.ref f29) = true)
  (a30:PySem.W.findIn K (.ref C1) "number" = some (some (.ref f30)))
  (n30:PySem.W.isFn K (.ref f30) = true)
  (l30:K.lookup f30 = some ⟨oc30,od30, .func (PySem.W.fnOf "number" "Store.number" (qh vJ) (qg vJ) (qc vJ) .none kV30 dc30 pm30 an30 cdd30 ct30),sl30⟩)
  (c30:PySem.W.codeIn K cdd30 "Store.number" = true)
  (k30:PySem.W.keepIn K (.ref f30) = true)
  (a31:PySem.W.findIn K (.ref C1) "kind" = some (some (.ref f31)))
  (n31:PySem.W.isFn K (.ref f31) = true)
  (l31:K.lookup f31 = some ⟨oc31,od31, .func (PySem.W.fnOf "kind" "Store.kind" (qh zg) (qg zg) (qc zg) .none kV31 dc31 pm31 an31 cdd31 ct31),sl31⟩)
  (c31:PySem.W.codeIn K cdd31 "Store.kind" = true)
  (k31:PySem.W.keepIn K (.ref f31) = true)
  (a32:PySem.W.nsIn K mainGlobals "read_worth" = some (some (.ref f32)))
  (l32:K.lookup f32 = some ⟨oc32,od32, .func (PySem.W.fnOf "read_worth" "read_worth" (qh zj) (qg zj) (qc zj) .none kV32 dc32 pm32 an32 cdd32 ct32),sl32⟩)
  (c32:PySem.W.codeIn K cdd32 "read_worth" = true)
  (k32:PySem.W.keepIn K (.ref f32) = true)
  (a33:PySem.W.findIn K (.ref C1) "told" = some (some (.ref f33)))
  (n33:PySem.W.isFn K (.ref f33) = true)
  (l33:K.lookup f33 = some ⟨oc33,od33, .func (PySem.W.fnOf "told" "Store.told" (qh zd) (qg zd) (qc zd) .none kV33 dc33 pm33 an33 cdd33 ct33),sl33⟩)
  (c33:PySem.W.codeIn K cdd33 "Store.told" = true)
  (k33:PySem.W.keepIn K (.ref f33) = true)
  (a34:PySem.W.findIn K (.ref C1) "same" = some (some (.ref f34)))
  (n34:PySem.W.isFn K (.ref f34) = true)
  (l34:K.lookup f34 = some ⟨oc34,od34, .func (PySem.W.fnOf "same" "Store.same" (qh zf) (qg zf) (qc zf) .none kV34 dc34 pm34 an34 cdd34 ct34),sl34⟩)
  (c34:PySem.W.codeIn K cdd34 "Store.same" = true)
  (k34:PySem.W.keepIn K (.ref f34) = true)
  (a35:PySem.W.nsIn K mainGlobals "need_numbers" = some (some (.ref f35)))
  (l35:K.lookup f35 = some ⟨oc35,od35, .func (PySem.W.fnOf "need_numbers" "need_numbers" (qh vK) (qg vK) (qc vK) .none kV35 dc35 pm35 an35 cdd35 ct35),sl35⟩)
  (c35:PySem.W.codeIn K cdd35 "need_numbers" = true)
  (k35:PySem.W.keepIn K (.ref f35) = true)
  (a36:PySem.W.findIn K (.ref C1) "below" = some (some (.ref f36)))
  (n36:PySem.W.isFn K (.ref f36) = true)
  (l36:K.lookup f36 = some ⟨oc36,od36, .func (PySem.W.fnOf "below" "Store.below" (qh vY) (qg vY) (qc vY) .none kV36 dc36 pm36 an36 cdd36 ct36),sl36⟩)
  (c36:PySem.W.codeIn K cdd36 "Store.below" = true)
  (k36:PySem.W.keepIn K (.ref f36) = true)
  (a37:PySem.W.nsIn K mainGlobals "_law_alike" = some (some (.ref f37)))
  (l37:K.lookup f37 = some ⟨oc37,od37, .func (PySem.W.fnOf "_law_alike" "_law_alike" (qh kh) (qg kh) (qc kh) .none kV37 dc37 pm37 an37 cdd37 ct37),sl37⟩)
  (c37:PySem.W.codeIn K cdd37 "_law_alike" = true)
  (k37:PySem.W.keepIn K (.ref f37) = true)
  (a38:PySem.W.nsIn K mainGlobals "_law_kind" = some (some (.ref f38)))
  (l38:K.lookup f38 = some ⟨oc38,od38, .func (PySem.W.fnOf "_law_kind" "_law_kind" (qh Xr) (qg Xr) (qc Xr) .none kV38 dc38 pm38 an38 cdd38 ct38),sl38⟩)
  (c38:PySem.W.codeIn K cdd38 "_law_kind" = true)
  (k38:PySem.W.keepIn K (.ref f38) = true)
  (a39:PySem.W.nsIn K mainGlobals "_law_put" = some (some (.ref f39)))
  (l39:K.lookup f39 = some ⟨oc39,od39, .func (PySem.W.fnOf "_law_put" "_law_put" (qh sPut) (qg sPut) (qc sPut) .none kV39 dc39 pm39 an39 cdd39 ct39),sl39⟩)
  (c39:PySem.W.codeIn K cdd39 "_law_put" = true)
  (k39:PySem.W.keepIn K (.ref f39) = true)
  (a40:PySem.W.nsIn K mainGlobals "_law_below" = some (some (.ref f40)))
  (l40:K.lookup f40 = some ⟨oc40,od40, .func (PySem.W.fnOf "_law_below" "_law_below" (qh kg) (qg kg) (qc kg) .none kV40 dc40 pm40 an40 cdd40 ct40),sl40⟩)
  (c40:PySem.W.codeIn K cdd40 "_law_below" = true)
  (k40:PySem.W.keepIn K (.ref f40) = true)
  (a41:PySem.W.nsIn K mainGlobals "_law_below_due" = some (some (.ref f41)))
  (l41:K.lookup f41 = some ⟨oc41,od41, .func (PySem.W.fnOf "_law_below_due" "_law_below_due" (qh zL) (qg zL) (qc zL) .none kV41 dc41 pm41 an41 cdd41 ct41),sl41⟩)
  (c41:PySem.W.codeIn K cdd41 "_law_below_due" = true)
  (k41:PySem.W.keepIn K (.ref f41) = true)
  (a42:PySem.W.nsIn K mainGlobals "_law_word" = some (some (.ref f42)))
  (l42:K.lookup f42 = some ⟨oc42,od42, .func (PySem.W.fnOf "_law_word" "_law_word" (qh Xo) (qg Xo) (qc Xo) .none kV42 dc42 pm42 an42 cdd42 ct42),sl42⟩)
  (c42:PySem.W.codeIn K cdd42 "_law_word" = true)
  (k42:PySem.W.keepIn K (.ref f42) = true)
  (a43:PySem.W.nsIn K mainGlobals "_law_worth_drawn" = some (some (.ref f43)))
  (l43:K.lookup f43 = some ⟨oc43,od43, .func (PySem.W.fnOf "_law_worth_drawn" "_law_worth_drawn" (qh vW) (qg vW) (qc vW) .none kV43 dc43 pm43 an43 cdd43 ct43),sl43⟩)
  (c43:PySem.W.codeIn K cdd43 "_law_worth_drawn" = true)
  (k43:PySem.W.keepIn K (.ref f43) = true)
  (a44:PySem.W.nsIn K mainGlobals "_law_right" = some (some (.ref f44)))
  (l44:K.lookup f44 = some ⟨oc44,od44, .func (PySem.W.fnOf "_law_right" "_law_right" (qh kf) (qg kf) (qc kf) .none kV44 dc44 pm44 an44 cdd44 ct44),sl44⟩)
  (c44:PySem.W.codeIn K cdd44 "_law_right" = true)
  (k44:PySem.W.keepIn K (.ref f44) = true)
  (a45:PySem.W.nsIn K mainGlobals "law" = some (some (.ref f45)))
  (l45:K.lookup f45 = some ⟨oc45,od45, .func (PySem.W.fnOf "law" "law" (qh sLaw) (qg sLaw) (qc sLaw) .none kV45 dc45 pm45 an45 cdd45 ct45),sl45⟩)
  (c45:PySem.W.codeIn K cdd45 "law" = true)
  (k45:PySem.W.keepIn K (.ref f45) = true)
  (xk1Wk:PySem.W.excInI K CEWk f17 = true)
  (xk2Wk:PySem.W.findIn K (.ref CEWk) "__setattr__" = some (some (.builtin "object.__setattr__")))
  (xk3Wk:PySem.W.excOver K CEWk = true)
  (xk4Wk:PySem.W.findIn K (.ref CEWk) "__getattribute__" = some (some (.builtin "BaseException.__getattribute__")))
  (xk5Wk:PySem.W.findIn K (.ref CEWk) "__getattr__" = some none)
  (xk6Wk:PySem.W.mroIn K CEWk (.type "BaseException") = some true)
  (xk7Wk:PySem.W.hasDictIn K CEWk = true)
  (xk8Wk:PySem.W.findIn K (.ref CEWk) "part" = some none)
  (xb1WordError:PySem.W.specialIn K (.ref CEWordError) "__getattribute__" = some (some (.builtin "type.__getattribute__")))
  (xb2WordError:PySem.W.readsIn K CEWordError (.type "type") = true)
  (xb3WordError:PySem.W.findCls K (.ref CEWordError) (.type "type") "__init__" = some (.val (.builtin "ValueError.__init__")))
  (ynNRepr:PySem.W.nsIn K mainGlobals "repr" = some none)
  (z1:PySem.W.nsIn K mainGlobals "abs" = some none)
  (z2:PySem.W.nsIn K mainGlobals "len" = some none)
  (z3:PySem.W.nsIn K mainGlobals "min" = some none)
  (z4:PySem.W.nsIn K mainGlobals "max" = some none)
  (z5:PySem.W.nsIn K mainGlobals "sum" = some none)
  (z6:PySem.W.nsIn K mainGlobals "sorted" = some none)
  (z7:PySem.W.nsIn K mainGlobals "all" = some none)
  (z8:PySem.W.nsIn K mainGlobals "any" = some none)
  (z9:PySem.W.nsIn K mainGlobals "isinstance" = some none)
  (z10:PySem.W.nsIn K mainGlobals "range" = some none)
  (z11:PySem.W.nsIn K mainGlobals "int" = some none)
  (z12:PySem.W.nsIn K mainGlobals "list" = some none)
  (z13:PySem.W.nsIn K mainGlobals "str" = some none)
  (z14:PySem.W.nsIn K mainGlobals "bool" = some none)
  (z15:PySem.W.nsIn K mainGlobals "tuple" = some none)
  (z16:PySem.W.nsIn K mainGlobals "zip" = some none)
  (z17:PySem.W.nsIn K mainGlobals "enumerate" = some none)
  (z18:PySem.W.nsIn K mainGlobals "dict" = some none)
  (p1:PySem.W.nsIn K mainGlobals "THREE" = some (some (.ref ft1)))
  (q1:K.lookup ft1 = some ⟨.type "tuple", none, .seq #[.str "none" tk1_0, .str "no" tk1_1, .str "yes" tk1_2] tn1,tsl1⟩)
  (g1:PySem.W.nsIn K mainGlobals "SIGNS" = some (some (.int 128 gk1)))
  (g2:PySem.W.nsIn K mainGlobals "REGISTERS" = some (some (.int 8 gk2)))
  (kg1:PySem.W.nsIn K mainGlobals "KINDS_BY_MARK" = some (some (.ref fd_1)))
  (kl1:K.lookup fd_1 = some ⟨.type "dict", none, .dict (([("small", ka1_0, .str "number" kb1_0),("far", ka1_1, .str "number" kb1_1),("pair", ka1_2, .str "pair" kb1_2),("sign", ka1_3, .str "sign" kb1_3),("one", ka1_4, .str "one" kb1_4)]:List (Str × Tok × Value)).map (entD w.params)).toArray ke1, #[]⟩) :
  ∃ fd:FuncData,(∀ (s:Shared) (v:Value),BindsTo s fd ⟨[v], []⟩ [("script", v)])∧∀ base:Heap,K.In base→base.Ns mainGlobals mg→FnOk l.prog w K mg base CX0 9 fa fd ["script"] (Jb K):=by
 have e:=hfa.symm.trans (PySem.W.mg_of X G a45)
 cases e
 have N:Nms mg:=⟨PySem.W.mg_none_of X G z1,PySem.W.mg_none_of X G z2,PySem.W.mg_none_of X G z3,PySem.W.mg_none_of X G z4,PySem.W.mg_none_of X G z5,PySem.W.mg_none_of X G z6,PySem.W.mg_none_of X G z7,PySem.W.mg_none_of X G z8,PySem.W.mg_none_of X G z9,PySem.W.mg_none_of X G z10,PySem.W.mg_none_of X G z11,PySem.W.mg_none_of X G z12,PySem.W.mg_none_of X G z13,PySem.W.mg_none_of X G z14,PySem.W.mg_none_of X G z15,PySem.W.mg_none_of X G z16,PySem.W.mg_none_of X G z17,PySem.W.mg_none_of X G z18⟩
 have T3:Tup3 K mg "THREE" ft1 "none" "no" "yes" := ⟨PySem.W.mg_of X G p1,_,_,_,_,_,q1⟩
 have GSigns:GInt mg "SIGNS" 128:=⟨_,PySem.W.mg_of X G g1⟩
 have GReg:GInt mg "REGISTERS" 8:=⟨_,PySem.W.mg_of X G g2⟩
 have DKinds:KDi K w mg "KINDS_BY_MARK" fd_1 Ky:=⟨PySem.W.mg_of X G kg1,_,_,kl1,by show (["small", "far", "pair", "sign", "one"]:List Str).Nodup; decide +kernel, .cons ⟨rfl,_,rfl⟩ (.cons ⟨rfl,_,rfl⟩ (.cons ⟨rfl,_,rfl⟩ (.cons ⟨rfl,_,rfl⟩ (.cons ⟨rfl,_,rfl⟩ (.nil)))))⟩
 have TStore:Cls K C1:=⟨cb1,cc1,cd1,ce1⟩
 have XStore:TxStore K C1:=⟨TStore,ch1_1,ch1_2,ch1_3,ch1_4,ch1_5,ch1_6,ch1_7⟩
 have CWk:ExcK K CEWk f17:=⟨xk1Wk,xk2Wk,xk3Wk,xk4Wk,xk5Wk,xk6Wk,xk7Wk⟩
 have AWk:NoAttr K CEWk "part" := xk8Wk
 have BWk:=PySem.W.mg_of X G xaWk
 have IWordError:InitB K mg "WordError" CEWordError:=⟨PySem.W.mg_of X G xaWordError,xb1WordError,xb2WordError,xb3WordError⟩
 have NRepr:=PySem.W.mg_none_of X G ynNRepr
 have F1:=qI (st:=sBag) l1 c1 k1
 have b1:=F1.binds (ps:=["script"]) fun _ _ _ _ _ _ us hl => match us,hl with | [_],_ => rfl
 have F2:=qI (st:=VG) l2 c2 k2
 have b2:=F2.binds (ps:=["bag", "many"]) fun _ _ _ _ _ _ us hl => match us,hl with | [_,_],_ => rfl
 have F3:=qI (st:=vZ) l3 c3 k3
 have b3:=F3.binds (ps:=["bag", "bits", "order"]) fun _ _ _ _ _ _ us hl => match us,hl with | [_,_,_],_ => rfl
 have F4:=qI (st:=jq) l4 c4 k4
 have b4:=F4.binds (ps:=["bag"]) fun _ _ _ _ _ _ us hl => match us,hl with | [_],_ => rfl
 have F5:=qI (st:=xz) l5 c5 k5
 have b5:=F5.binds (ps:=["laying", "kind"]) fun _ _ _ _ _ _ us hl => match us,hl with | [_,_],_ => rfl
 have F6:=qI (st:=Xp) l6 c6 k6
 have b6:=F6.binds (ps:=["laying", "kind"]) fun _ _ _ _ _ _ us hl => match us,hl with | [_,_],_ => rfl
 have F7:=qI (st:=zK) l7 c7 k7
 have b7:=F7.binds (ps:=["laying", "kind"]) fun _ _ _ _ _ _ us hl => match us,hl with | [_,_],_ => rfl
 have F8:=qI (st:=Xq) l8 c8 k8
 have b8:=F8.binds (ps:=["laying", "kind"]) fun _ _ _ _ _ _ us hl => match us,hl with | [_,_],_ => rfl
 have F9:=qI (st:=xA) l9 c9 k9
 have b9:=F9.binds (ps:=["marks", "word"]) fun _ _ _ _ _ _ us hl => match us,hl with | [_,_],_ => rfl
 have F10:=qI (st:=jo) l10 c10 k10
 have b10:=F10.binds (ps:=["laying", "word"]) fun _ _ _ _ _ _ us hl => match us,hl with | [_,_],_ => rfl
 have F11:=qI (st:=jp) l11 c11 k11
 have b11:=F11.binds (ps:=["laying", "word", "kind"]) fun _ _ _ _ _ _ us hl => match us,hl with | [_,_,_],_ => rfl
 have F12:=qI (st:=jn) l12 c12 k12
 have b12:=F12.binds (ps:=["laying", "kind", "load"]) fun _ _ _ _ _ _ us hl => match us,hl with | [_,_,_],_ => rfl
 have F13:=qI (st:=xy) l13 c13 k13
 have b13:=F13.binds (ps:=["bits", "load"]) fun _ _ _ _ _ _ us hl => match us,hl with | [_,_],_ => rfl
 have F14:=qI (st:=xx) l14 c14 k14
 have b14:=F14.binds (ps:=["laying", "word"]) fun _ _ _ _ _ _ us hl => match us,hl with | [_,_],_ => rfl
 have F15:=qI (st:=jl) l15 c15 k15
 have b15:=F15.binds (ps:=["laying", "worth"]) fun _ _ _ _ _ _ us hl => match us,hl with | [_,_],_ => rfl
 have F16:=qI (st:=xB) l16 c16 k16
 have b16:=F16.binds (ps:=["laying", "n"]) fun _ _ _ _ _ _ us hl => match us,hl with | [_,_],_ => rfl
 have F17:=qI (st:=jm) l17 c17 k17
 have b17:=F17.binds (ps:=["self", "part"]) fun _ _ _ _ _ _ us hl => match us,hl with | [_,_],_ => rfl
 have F18:=qI (st:=zk) l18 c18 k18
 have b18:=F18.binds (ps:=["laying"]) fun _ _ _ _ _ _ us hl => match us,hl with | [_],_ => rfl
 have F21:=qI (st:=xZ) l21 c21 k21
 have b21:=F21.binds (ps:=["laying", "outside", "address"]) fun _ _ _ _ _ _ us hl => match us,hl with | [_,_,_],_ => rfl
 have F22:=qI (st:=zh) l22 c22 k22
 have b22:=F22.binds (ps:=["self", "laying", "room"]) fun _ _ _ _ _ _ us hl => match us,hl with | [_,_,_],_ => rfl
 have F23:=qI (st:=vX) l23 c23 k23
 have b23:=F23.binds (ps:=["self"]) fun _ _ _ _ _ _ us hl => match us,hl with | [_],_ => rfl
 have F24:=qI (st:=vD) l24 c24 k24
 have b24:=F24.binds (ps:=["self"]) fun _ _ _ _ _ _ us hl => match us,hl with | [_],_ => rfl
 have F25:=qI (st:=ze) l25 c25 k25
 have b25:=F25.binds (ps:=["self", "r", "k"]) fun _ _ _ _ _ _ us hl => match us,hl with | [_,_,_],_ => rfl
 have F26:=qI (st:=zJ) l26 c26 k26
 have b26:=F26.binds (ps:=["self", "r", "text"]) fun _ _ _ _ _ _ us hl => match us,hl with | [_,_,_],_ => rfl
 have F27:=qI (st:=zi) l27 c27 k27
 have b27:=F27.binds (ps:=["self", "r", "q"]) fun _ _ _ _ _ _ us hl => match us,hl with | [_,_,_],_ => rfl
 have F28:=qI (st:=v7) l28 c28 k28
 have b28:=F28.binds (ps:=["self", "size"]) fun _ _ _ _ _ _ us hl => match us,hl with | [_,_],_ => rfl
 have F29:=qI (st:=xY) l29 c29 k29
 have b29:=F29.binds (ps:=["self", "r", "kind", "thing"]) fun _ _ _ _ _ _ us hl => match us,hl with | [_,_,_,_],_ => rfl
 have F30:=qI (st:=vJ) l30 c30 k30
 have b30:=F30.binds (ps:=["self", "r", "n"]) fun _ _ _ _ _ _ us hl => match us,hl with | [_,_,_],_ => rfl
 have F31:=qI (st:=zg) l31 c31 k31
 have b31:=F31.binds (ps:=["self", "q"]) fun _ _ _ _ _ _ us hl => match us,hl with | [_,_],_ => rfl
 have F32:=qI (st:=zj) l32 c32 k32
 have b32:=F32.binds (ps:=["laying", "outside", "word"]) fun _ _ _ _ _ _ us hl => match us,hl with | [_,_,_],_ => rfl
 have F33:=qI (st:=zd) l33 c33 k33
 have b33:=F33.binds (ps:=["self", "q"]) fun _ _ _ _ _ _ us hl => match us,hl with | [_,_],_ => rfl
 have F34:=qI (st:=zf) l34 c34 k34
 have b34:=F34.binds (ps:=["self", "q", "p"]) fun _ _ _ _ _ _ us hl => match us,hl with | [_,_,_],_ => rfl
 have F35:=qI (st:=vK) l35 c35 k35
 have b35:=F35.binds (ps:=["store", "q", "p"]) fun _ _ _ _ _ _ us hl => match us,hl with | [_,_,_],_ => rfl
 have F36:=qI (st:=vY) l36 c36 k36
 have b36:=F36.binds (ps:=["self", "q", "p"]) fun _ _ _ _ _ _ us hl => match us,hl with | [_,_,_],_ => rfl
 have F37:=qI (st:=kh) l37 c37 k37
 have b37:=F37.binds (ps:=["found", "due"]) fun _ _ _ _ _ _ us hl => match us,hl with | [_,_],_ => rfl
 have F38:=qI (st:=Xr) l38 c38 k38
 have b38:=F38.binds (ps:=["worth"]) fun _ _ _ _ _ _ us hl => match us,hl with | [_],_ => rfl
 have F39:=qI (st:=sPut) l39 c39 k39
 have b39:=F39.binds (ps:=["store", "r", "worth"]) fun _ _ _ _ _ _ us hl => match us,hl with | [_,_,_],_ => rfl
 have F40:=qI (st:=kg) l40 c40 k40
 have b40:=F40.binds (ps:=["store", "q", "p"]) fun _ _ _ _ _ _ us hl => match us,hl with | [_,_,_],_ => rfl
 have F41:=qI (st:=zL) l41 c41 k41
 have b41:=F41.binds (ps:=["held", "q", "p"]) fun _ _ _ _ _ _ us hl => match us,hl with | [_,_,_],_ => rfl
 have F42:=qI (st:=Xo) l42 c42 k42
 have b42:=F42.binds (ps:=["laying", "worth"]) fun _ _ _ _ _ _ us hl => match us,hl with | [_,_],_ => rfl
 have F43:=qI (st:=vW) l43 c43 k43
 have b43:=F43.binds (ps:=["bag", "laying"]) fun _ _ _ _ _ _ us hl => match us,hl with | [_,_],_ => rfl
 have F44:=qI (st:=kf) l44 c44 k44
 have b44:=F44.binds (ps:=["bag", "laying", "store", "held"]) fun _ _ _ _ _ _ us hl => match us,hl with | [_,_,_,_],_ => rfl
 have F45:=qI (st:=sLaw) l45 c45 k45
 refine ⟨PySem.W.fnOf "law" "law" (qh sLaw) (qg sLaw) (qc sLaw) .none kV45 dc45 pm45 an45 cdd45 ct45,fun s v => .of_eq rfl,fun base _ _ => ?_⟩
 have DBag:Def l.prog w K mg base "_law_bag" 1 ["script"] (spBag K):=⟨f1,_,PySem.W.mg_of X G a1,k1,b1,ok_bag F1 N⟩
 have DDraw:Def l.prog w K mg base "_law_draw" 1 ["bag", "many"] (spU Qb):=⟨f2,_,PySem.W.mg_of X G a2,k2,b2,ok_drawU F2 N⟩
 have DFullLaying:Def l.prog w K mg base "_law_full_laying" 2 ["bag", "bits", "order"] (spU gFull):=⟨f3,_,PySem.W.mg_of X G a3,k3,b3,ok_fullU F3 N DDraw⟩
 have DLaying:Def l.prog w K mg base "_law_laying" 3 ["bag"] (spU kY):=⟨f4,_,PySem.W.mg_of X G a4,k4,b4,XA F4 N DDraw DFullLaying⟩
 have DMarkFor:Def l.prog w K mg base "mark_for" 1 ["laying", "kind"] (spP kX):=⟨f5,_,PySem.W.mg_of X G a5,k5,b5,QP F5⟩
 have DMark:Def l.prog w K mg base "_law_mark" 1 ["laying", "kind"] (spP kX):=⟨f6,_,PySem.W.mg_of X G a6,k6,b6,QQ F6⟩
 have DLoadBits:Def l.prog w K mg base "load_bits" 2 ["laying", "kind"] (spP Va):=⟨f7,_,PySem.W.mg_of X G a7,k7,b7,kL F7 DMarkFor⟩
 have DLoad:Def l.prog w K mg base "_law_load" 2 ["laying", "kind"] (spP Va):=⟨f8,_,PySem.W.mg_of X G a8,k8,b8,QR F8 DMark⟩
 have DKindsOn:Def l.prog w K mg base "kinds_on" 1 ["marks", "word"] (spP kZ):=⟨f9,_,PySem.W.mg_of X G a9,k9,b9,QU F9⟩
 have DMarkOf:Def l.prog w K mg base "mark_of" 2 ["laying", "word"] (spP j2):=⟨f10,_,PySem.W.mg_of X G a10,k10,b10,VQ F10 DKindsOn⟩
 have DLoadOf:Def l.prog w K mg base "load_of" 2 ["laying", "word", "kind"] (spP V4):=⟨f11,_,PySem.W.mg_of X G a11,k11,b11,VR F11 DMarkFor⟩
 have DMarked:Def l.prog w K mg base "marked" 2 ["laying", "kind", "load"] (spP V3):=⟨f12,_,PySem.W.mg_of X G a12,k12,b12,Xy F12 DMarkFor⟩
 have DSmallOf:Def l.prog w K mg base "small_of" 1 ["bits", "load"] (spP kU):=⟨f13,_,PySem.W.mg_of X G a13,k13,b13,QN F13⟩
 have DWorthOf:Def l.prog w K mg base "worth_of" 3 ["laying", "word"] (spP kT):=⟨f14,_,PySem.W.mg_of X G a14,k14,b14,QM F14 N T3 GSigns DMarkOf DLoadOf DSmallOf DLoadBits⟩
 have DWordOf:Def l.prog w K mg base "word_of" 3 ["laying", "worth"] (spP xS):=⟨f15,_,PySem.W.mg_of X G a15,k15,b15,VP F15 N T3 DMarked DLoadBits⟩
 have DIsSmall:Def l.prog w K mg base "is_small" 3 ["laying", "n"] (spP Qa):=⟨f16,_,PySem.W.mg_of X G a16,k16,b16,QV F16 DLoadBits⟩
 have DWk:ExcD l.prog w K mg base "WrongKind" CEWk 1:=⟨PySem.W.mg_of X G xaWk,f17,_,CWk,b17,ok_winit F17 CWk AWk IWordError⟩
 have DOwnLaying:Def l.prog w K mg base "own_laying" 1 ["laying"] (spP jz):=⟨f18,_,PySem.W.mg_of X G a18,k18,b18,j9 F18 N⟩
 have DIsGreat:Def l.prog w K mg base "is_great" 2 ["laying", "n"] (spP fun _ _ => False):=⟨f19,_,PySem.W.mg_of X G a19,k19,b16,FnOk.noP⟩
 have DRowsOf:Def l.prog w K mg base "rows_of" 2 ["laying", "n"] (spP fun _ _ => False):=⟨f20,_,PySem.W.mg_of X G a20,k20,b16,FnOk.noP⟩
 have DNumberAt:Def l.prog w K mg base "number_at" 2 ["laying", "outside", "address"] (spP fun _ _ => False):=⟨f21,_,PySem.W.mg_of X G a21,k21,b21,FnOk.noP⟩
 have KStore:MkDef l.prog w K mg base C1 "Store" 4 ["self", "laying", "room"] (spU (KQ C1)):=⟨f22,_,⟨cf1,a22,n22,cg1⟩,PySem.W.mg_of X G ca1,b22,Kb F22 XStore GReg DOwnLaying DWordOf⟩
 have MStoreWords:MDef l.prog w K mg base C1 "words" 1 ["self"] (spU (V1 C1)):=⟨f23,_,⟨a23,n23,k23⟩,b23,Xw F23 N XStore⟩
 have MStoreOutside:MDef l.prog w K mg base C1 "outside" 1 ["self"] (spU (gSOut C1)):=⟨f24,_,⟨a24,n24,k24⟩,b24,ok_soutU F24 N XStore⟩
 have MStoreSign:MDef l.prog w K mg base C1 "sign" 4 ["self", "r", "k"] (spU (kW C1 "sign" fun x => .int x.2)):=⟨f25,_,⟨a25,n25,k25⟩,b25,J8 F25 N XStore DWordOf⟩
 have MStoreOne:MDef l.prog w K mg base C1 "one" 4 ["self", "r", "text"] (spU (kW C1 "one" tOf)):=⟨f26,_,⟨a26,n26,k26⟩,b26,ok_soneU F26 N XStore DWordOf⟩
 have MStoreCopy:MDef l.prog w K mg base C1 "copy" 1 ["self", "r", "q"] (spU (KU C1)):=⟨f27,_,⟨a27,n27,k27⟩,b27,Kc F27 N XStore⟩
 have MStoreMakeRoom:MDef l.prog w K mg base C1 "make_room" 2 ["self", "size"] (spU fun _ _ _ => False):=⟨f28,_,⟨a28,n28,k28⟩,b28,FnOk.no⟩
 have MStoreLay:MDef l.prog w K mg base C1 "lay" 2 ["self", "r", "kind", "thing"] (spU fun _ _ _ => False):=⟨f29,_,⟨a29,n29,k29⟩,b29,FnOk.no⟩
 have MStoreNumber:MDef l.prog w K mg base C1 "number" 4 ["self", "r", "n"] (spU (kW C1 "small" tOf)):=⟨f30,_,⟨a30,n30,k30⟩,b30,ok_snumU F30 N XStore TStore DIsSmall DWordOf DIsGreat DRowsOf MStoreMakeRoom MStoreLay⟩
 have MStoreKind:MDef l.prog w K mg base C1 "kind" 3 ["self", "q"] (spU (kq C1)):=⟨f31,_,⟨a31,n31,k31⟩,b31,Ka F31 N XStore DKinds DMarkOf⟩
 have DReadWorth:Def l.prog w K mg base "read_worth" 4 ["laying", "outside", "word"] (spU KW):=⟨f32,_,PySem.W.mg_of X G a32,k32,b32,j8 F32 N DWorthOf DMarkOf DNumberAt⟩
 have MStoreTold:MDef l.prog w K mg base C1 "told" 5 ["self", "q"] (spU (Q9 C1)):=⟨f33,_,⟨a33,n33,k33⟩,b33,J7 F33 N XStore TStore MStoreKind DReadWorth⟩
 have MStoreSame:MDef l.prog w K mg base C1 "same" 6 ["self", "q", "p"] (spU (KP C1)):=⟨f34,_,⟨a34,n34,k34⟩,b34,J9 F34 N XStore TStore MStoreKind MStoreTold⟩
 have DNeedNumbers:DefX l.prog w K mg base "need_numbers" 4 ["store", "q", "p"] (spX mg (KY C1)):=⟨f35,_,PySem.W.mg_of X G a35,k35,b35,Ke F35 N TStore DWk MStoreKind⟩
 have MStoreBelow:MDefX l.prog w K mg base C1 "below" 6 ["self", "q", "p"] (spX mg (V2 C1)):=⟨f36,_,⟨a36,n36,k36⟩,b36,Xx F36 N TStore DNeedNumbers MStoreTold⟩
 have DAlike:Def l.prog w K mg base "_law_alike" 1 ["found", "due"] (spP V6):=⟨f37,_,PySem.W.mg_of X G a37,k37,b37,Kh F37 NRepr⟩
 have DKind:Def l.prog w K mg base "_law_kind" 1 ["worth"] (spP K0):=⟨f38,_,PySem.W.mg_of X G a38,k38,b38,Kg F38 N⟩
 have DPut:Def l.prog w K mg base "_law_put" 5 ["store", "r", "worth"] (spU (gLPut C1)):=⟨f39,_,PySem.W.mg_of X G a39,k39,b39,ok_lputU F39 N TStore MStoreNumber MStoreSign MStoreOne⟩
 have DBelow:Def l.prog w K mg base "_law_below" 7 ["store", "q", "p"] (spU (V5 C1)):=⟨f40,_,PySem.W.mg_of X G a40,k40,b40,Xz F40 N TStore CWk AWk BWk EWk_Wk MStoreBelow⟩
 have DBelowDue:Def l.prog w K mg base "_law_below_due" 1 ["held", "q", "p"] (spU gLDue):=⟨f41,_,PySem.W.mg_of X G a41,k41,b41,kc F41 N⟩
 have DWord:Def l.prog w K mg base "_law_word" 2 ["laying", "worth"] (spP KZ):=⟨f42,_,PySem.W.mg_of X G a42,k42,b42,Kf F42 N DMark⟩
 have DWorthDrawn:Def l.prog w K mg base "_law_worth_drawn" 3 ["bag", "laying"] (spU K1):=⟨f43,_,PySem.W.mg_of X G a43,k43,b43,jR F43 N DDraw DLoad⟩
 have DRight:Def l.prog w K mg base "_law_right" 8 ["bag", "laying", "store", "held"] (spU (ZY C1)):=⟨f44,_,PySem.W.mg_of X G a44,k44,b44,Kd F44 N XStore TStore DDraw DAlike DWord DKind MStoreWords MStoreOutside MStoreTold MStoreKind MStoreSame DBelow DBelowDue⟩
 exact ok_lawU F45 N XStore TStore KStore DBag DDraw DLaying DWorthDrawn DPut DRight MStoreCopy
theorem walk {l:PySem.W.OpenLaw} {q:Program} {loose:List Str} {XP:(Str→Option Value)→Heap→Prop} {YP:World→Heap→Prop} {d:DefRec} {K:Params→PySem.W.Frag} (hn:l.most = some 63) (hdf:d.params.defaults = [])
  (hY:∀ (w:World) (h:Heap),YP w h→(K w.params).In h)
  (F:∀ (w:World) (mg:Str→Option Value) (fa:Addr) (h:Heap),(K w.params).In h→h.Ns mainGlobals mg→mg d.name = some (.ref fa) →
   ∃ fd:FuncData,(∀ (s:Shared) (u:Value),BindsTo s fd ⟨[u], []⟩ [("script", u)])∧∀ base:Heap,(K w.params).In base→base.Ns mainGlobals mg→FnOk l.prog w (K w.params) mg base CX0 9 fa fd ["script"] (Jb (K w.params))) :
  PySem.W.WalkO q loose XP YP l.row.toRowW d [] (fun f vs => PySem.call f vs) :=
 L2.walk_of (n:=63) (k:=9) (x := "script") (CX:=fun _ => CX0) (sp:=fun w => Jb (K w.params)) hn (by decide) hdf ⟨rfl,by decide,by decide,rfl⟩ hY F (fun _ _ a ns hl _ hS => ⟨a,ns,rfl,hS,hl,fun _ => rfl⟩) fun _ _ _ _ _ z => z
end Mw
theorem PySem.W.Fast.te16148747032443467598:True:=True.intro
namespace Mw
open PySem PySem.W PySem.Calls PyProof.Rows L2
abbrev oE (P:Params) (n:Str) (t:Nat) (v:Value):DictEntry:=⟨PyData.keyHash P n, .str n t,v⟩
noncomputable def K:Params→Frag:=fun P =>
(nat_lit 2,⟨.none,none,(.dict #[] 0), #[]⟩) ::
(nat_lit 3,⟨.type "dict", none,(.dict [oE P "__name__" 165 (.str "law_markwords_k33_worths_in_registers" 821),oE P "__doc__" 166 (.none),oE P "__package__" 167 (.none),oE P "__loader__" 168 (.builtin "__main__.__loader__#opaque"),oE P "__spec__" 169 (.none),oE P "__annotations__" 170 (.ref 6),oE P "__builtins__" 171 (.ref 4),oE P "__file__" 173 (.str "/claim/cut.py" 172),oE P "__cached__" 174 (.none),oE P "_wall" 193 (.ref 21),oE P "WordError" 213 (.ref 31),oE P "WrongKind" 238 (.ref 51),oE P "NoRoom" 254 (.ref 63),oE P "kinds_on" 262 (.ref 70),oE P "mark_of" 271 (.ref 77),oE P "mark_for" 277 (.ref 82),oE P "load_bits" 285 (.ref 89),oE P "PAIR_HEAD" 289 (.int (1) 288),oE P "PAIR_SIZE" 291 (.int (3) 290),oE P "limb_count" 300 (.ref 96),oE P "rows_of" 313 (.ref 103),oE P "size_at" 322 (.ref 110),oE P "number_at" 333 (.ref 117),oE P "is_great" 341 (.ref 124),oE P "need_numbers" 352 (.ref 131),oE P "need_pair" 360 (.ref 138),oE P "REGISTERS" 362 (.int (8) 361),oE P "THREE" 368 (.ref 139),oE P "SIGNS" 370 (.int (128) 369),oE P "load_of" 379 (.ref 146),oE P "marked" 389 (.ref 153),oE P "small_of" 397 (.ref 160),oE P "worth_of" 407 (.ref 167),oE P "word_of" 415 (.ref 174),oE P "is_small" 424 (.ref 181),oE P "address_of" 433 (.ref 188),oE P "heads_in" 444 (.ref 195),oE P "pair_words_at" 452 (.ref 202),oE P "read_worth" 462 (.ref 209),oE P "reached_from" 476 (.ref 216),oE P "new_places" 487 (.ref 223),oE P "moved_word" 497 (.ref 230),oE P "moved_thing" 503 (.ref 235),oE P "swept" 509 (.ref 240),oE P "KINDS_BY_MARK" 527 (.ref 241),oE P "own_laying" 534 (.ref 248),oE P "most_outside" 542 (.ref 255),oE P "Store" 820 (.ref 461),oE P "_law_bag" 828 (.ref 470),oE P "_law_draw" 837 (.ref 477),oE P "_law_full_laying" 843 (.ref 482),oE P "_law_laying" 849 (.ref 487),oE P "_law_number" 860 (.ref 494),oE P "_law_mark" 866 (.ref 499),oE P "_law_load" 874 (.ref 506),oE P "_law_is_small" 883 (.ref 513),oE P "_law_alike" 891 (.ref 520),oE P "_law_worth_drawn" 902 (.ref 527),oE P "_law_word" 915 (.ref 534),oE P "_law_kind" 922 (.ref 541),oE P "_law_put" 931 (.ref 548),oE P "_law_below" 942 (.ref 555),oE P "_law_below_due" 953 (.ref 562),oE P "_law_right" 959 (.ref 567),oE P "law" 973 (.ref 574)].toArray 65), #[]⟩) ::
(nat_lit 15,⟨.type "tuple", none,(.seq #[] 0), #[]⟩) ::
(nat_lit 17,⟨.type "tuple", none,(.seq #[.str "k" 190] 0), #[]⟩) ::
(nat_lit 18,⟨.type "tuple", none,(.seq #[] 0), #[]⟩) ::
(nat_lit 20,⟨.type "code", none,(.fields #[.str "_wall" 187, .str "_wall" 188, .str "/claim/cut.py" 189, .int (1) 0, .int (1) 0, .int (0) 0, .int (0) 0, .int (3) 0, .ref 15, .bool true, .int (181) 0, .ref 16, .none, .ref 17, .ref 18, .ref 19, .int (191) 0, .int (1) 0, .str "/claim/cut.py" 192]), #[]⟩) ::
(nat_lit 21,⟨.type "function", none,(.func (PySem.W.fnOf "_wall" "_wall" (qh (top 0)) (qg (top 0)) (qc (top 0)) (.none) (.none) (.none) (.str "__main__" 164) none (.ref 20) (.none))), #[]⟩) ::
(nat_lit 22,⟨.type "tuple", none,(.seq #[.type "ValueError"] 0), #[]⟩) ::
(nat_lit 29,⟨.type "tuple", none,(.seq #[] 0), #[]⟩) ::
(nat_lit 30,⟨.type "dict", none,(.dict [oE P "__module__" 203 (.str "markwords.errors" 194),oE P "__firstlineno__" 207 (.int (5) 206),oE P "__static_attributes__" 208 (.ref 29),oE P "__weakref__" 210 (.ref 32),oE P "__doc__" 211 (.none)].toArray 3), #[]⟩) ::
(nat_lit 31,⟨.type "type", none,(.cls ({ name := "WordError", bases:=[.type "ValueError"],mro:=[.ref 31, .type "ValueError", .type "Exception", .type "BaseException", .type "object"],ns:=30,qualname := "WordError", hasDict:=true,slotNames:=[],subclasses:=[.ref 51, .ref 63],abstract:=false,collection:=none,hasDel:=false }:ClassData)), #[(some (.ref 22)),none,(some (.str "WordError" 196)),(some (.str "WordError" 204)),(some (.builtin "ValueError.__new__")),(some (.bool true))]⟩) ::
(nat_lit 32,⟨.type "getset_descriptor", none,(.fields #[.str "__weakref__" 209, .ref 31, .builtin "ExceptionGroup.__weakref__", .none]), #[]⟩) ::
(nat_lit 35,⟨.type "tuple", none,(.seq #[.ref 31] 0), #[]⟩) ::
(nat_lit 42,⟨.type "tuple", none,(.seq #[] 0), #[]⟩) ::
(nat_lit 44,⟨.type "tuple", none,(.seq #[.str "self" 229, .str "part" 230] 0), #[]⟩) ::
(nat_lit 45,⟨.type "tuple", none,(.seq #[] 0), #[]⟩) ::
(nat_lit 47,⟨.type "code", none,(.fields #[.str "__init__" 226, .str "WrongKind.__init__" 227, .str "/claim/cut.py" 228, .int (9) 0, .int (2) 0, .int (0) 0, .int (0) 0, .int (3) 0, .ref 42, .bool true, .int (181) 0, .ref 43, .none, .ref 44, .ref 45, .ref 46, .int (231) 0, .int (9) 0, .str "/claim/cut.py" 232]), #[]⟩) ::
(nat_lit 48,⟨.type "function", none,(.func (PySem.W.fnOf "__init__" "WrongKind.__init__" (qh (qj (top 3) 0)) (qg (qj (top 3) 0)) (qc (qj (top 3) 0)) (.none) (.none) (.none) (.str "markwords.errors" 194) none (.ref 47) (.none))), #[]⟩) ::
(nat_lit 49,⟨.type "tuple", none,(.seq #[.str "part" 234] 0), #[]⟩) ::
(nat_lit 50,⟨.type "dict", none,(.dict [oE P "__module__" 221 (.str "markwords.errors" 194),oE P "__firstlineno__" 225 (.int (7) 224),oE P "__init__" 233 (.ref 48),oE P "__static_attributes__" 235 (.ref 49),oE P "__doc__" 236 (.none)].toArray 2), #[]⟩) ::
(nat_lit 51,⟨.type "type", none,(.cls ({ name := "WrongKind", bases:=[.ref 31],mro:=[.ref 51, .ref 31, .type "ValueError", .type "Exception", .type "BaseException", .type "object"],ns:=50,qualname := "WrongKind", hasDict:=true,slotNames:=[],subclasses:=[],abstract:=false,collection:=none,hasDel:=false }:ClassData)), #[(some (.ref 35)),none,(some (.str "WrongKind" 214)),(some (.str "WrongKind" 222)),(some (.builtin "ValueError.__new__")),(some (.bool true))]⟩) ::
(nat_lit 54,⟨.type "tuple", none,(.seq #[.ref 31] 0), #[]⟩) ::
(nat_lit 61,⟨.type "tuple", none,(.seq #[] 0), #[]⟩) ::
(nat_lit 62,⟨.type "dict", none,(.dict [oE P "__module__" 246 (.str "markwords.errors" 194),oE P "__firstlineno__" 250 (.int (12) 249),oE P "__static_attributes__" 251 (.ref 61),oE P "__doc__" 252 (.none)].toArray 2), #[]⟩) ::
(nat_lit 63,⟨.type "type", none,(.cls ({ name := "NoRoom", bases:=[.ref 31],mro:=[.ref 63, .ref 31, .type "ValueError", .type "Exception", .type "BaseException", .type "object"],ns:=62,qualname := "NoRoom", hasDict:=true,slotNames:=[],subclasses:=[],abstract:=false,collection:=none,hasDel:=false }:ClassData)), #[(some (.ref 54)),none,(some (.str "NoRoom" 239)),(some (.str "NoRoom" 247)),(some (.builtin "ValueError.__new__")),(some (.bool true))]⟩) ::
(nat_lit 66,⟨.type "tuple", none,(.seq #[] 0), #[]⟩) ::
(nat_lit 69,⟨.type "code", none,(.fields #[.str "kinds_on" 257, .str "kinds_on" 258, .str "/claim/cut.py" 259, .int (15) 0, .int (2) 0, .int (0) 0, .int (0) 0, .int (3) 0, .ref 66, .bool true, .int (181) 0, .ref 67, .none, .none, .none, .ref 68, .int (260) 0, .int (15) 0, .str "/claim/cut.py" 261]), #[]⟩) ::
(nat_lit 70,⟨.type "function", none,(.func (PySem.W.fnOf "kinds_on" "kinds_on" (qh (top 6)) (qg (top 6)) (qc (top 6)) (.none) (.none) (.none) (.str "markwords.layings" 255) none (.ref 69) (.none))), #[]⟩) ::
(nat_lit 71,⟨.type "tuple", none,(.seq #[] 0), #[]⟩) ::
(nat_lit 73,⟨.type "tuple", none,(.seq #[.str "laying" 266, .str "word" 267, .str "kinds" 268] 0), #[]⟩) ::
(nat_lit 74,⟨.type "tuple", none,(.seq #[] 0), #[]⟩) ::
(nat_lit 76,⟨.type "code", none,(.fields #[.str "mark_of" 263, .str "mark_of" 264, .str "/claim/cut.py" 265, .int (17) 0, .int (2) 0, .int (0) 0, .int (0) 0, .int (3) 0, .ref 71, .bool true, .int (181) 0, .ref 72, .none, .ref 73, .ref 74, .ref 75, .int (269) 0, .int (17) 0, .str "/claim/cut.py" 270]), #[]⟩) ::
(nat_lit 77,⟨.type "function", none,(.func (PySem.W.fnOf "mark_of" "mark_of" (qh (top 7)) (qg (top 7)) (qc (top 7)) (.none) (.none) (.none) (.str "markwords.layings" 255) none (.ref 76) (.none))), #[]⟩) ::
(nat_lit 78,⟨.type "tuple", none,(.seq #[] 0), #[]⟩) ::
(nat_lit 81,⟨.type "code", none,(.fields #[.str "mark_for" 272, .str "mark_for" 273, .str "/claim/cut.py" 274, .int (20) 0, .int (2) 0, .int (0) 0, .int (0) 0, .int (3) 0, .ref 78, .bool true, .int (181) 0, .ref 79, .none, .none, .none, .ref 80, .int (275) 0, .int (20) 0, .str "/claim/cut.py" 276]), #[]⟩) ::
(nat_lit 82,⟨.type "function", none,(.func (PySem.W.fnOf "mark_for" "mark_for" (qh (top 8)) (qg (top 8)) (qc (top 8)) (.none) (.none) (.none) (.str "markwords.layings" 255) none (.ref 81) (.none))), #[]⟩) ::
(nat_lit 83,⟨.type "tuple", none,(.seq #[] 0), #[]⟩) ::
(nat_lit 85,⟨.type "tuple", none,(.seq #[.str "laying" 281, .str "kind" 282] 0), #[]⟩) ::
(nat_lit 86,⟨.type "tuple", none,(.seq #[] 0), #[]⟩) ::
(nat_lit 88,⟨.type "code", none,(.fields #[.str "load_bits" 278, .str "load_bits" 279, .str "/claim/cut.py" 280, .int (22) 0, .int (2) 0, .int (0) 0, .int (0) 0, .int (3) 0, .ref 83, .bool true, .int (181) 0, .ref 84, .none, .ref 85, .ref 86, .ref 87, .int (283) 0, .int (22) 0, .str "/claim/cut.py" 284]), #[]⟩) ::
(nat_lit 89,⟨.type "function", none,(.func (PySem.W.fnOf "load_bits" "load_bits" (qh (top 9)) (qg (top 9)) (qc (top 9)) (.none) (.none) (.none) (.str "markwords.layings" 255) none (.ref 88) (.none))), #[]⟩) ::
(nat_lit 90,⟨.type "tuple", none,(.seq #[] 0), #[]⟩) ::
(nat_lit 92,⟨.type "tuple", none,(.seq #[.str "laying" 295, .str "n" 296, .str "bits" 297] 0), #[]⟩) ::
(nat_lit 93,⟨.type "tuple", none,(.seq #[] 0), #[]⟩) ::
(nat_lit 95,⟨.type "code", none,(.fields #[.str "limb_count" 292, .str "limb_count" 293, .str "/claim/cut.py" 294, .int (27) 0, .int (2) 0, .int (0) 0, .int (0) 0, .int (3) 0, .ref 90, .bool true, .int (181) 0, .ref 91, .none, .ref 92, .ref 93, .ref 94, .int (298) 0, .int (27) 0, .str "/claim/cut.py" 299]), #[]⟩) ::
(nat_lit 96,⟨.type "function", none,(.func (PySem.W.fnOf "limb_count" "limb_count" (qh (top 13)) (qg (top 13)) (qc (top 13)) (.none) (.none) (.none) (.str "markwords.limbs" 286) none (.ref 95) (.none))), #[]⟩) ::
(nat_lit 97,⟨.type "tuple", none,(.seq #[] 0), #[]⟩) ::
(nat_lit 99,⟨.type "tuple", none,(.seq #[.str "laying" 304, .str "n" 305, .str "bits" 306, .str "count" 307, .str "words" 308, .str "left" 309, .str "limb" 310] 0), #[]⟩) ::
(nat_lit 100,⟨.type "tuple", none,(.seq #[] 0), #[]⟩) ::
(nat_lit 102,⟨.type "code", none,(.fields #[.str "rows_of" 301, .str "rows_of" 302, .str "/claim/cut.py" 303, .int (30) 0, .int (2) 0, .int (0) 0, .int (0) 0, .int (3) 0, .ref 97, .bool true, .int (181) 0, .ref 98, .none, .ref 99, .ref 100, .ref 101, .int (311) 0, .int (30) 0, .str "/claim/cut.py" 312]), #[]⟩) ::
(nat_lit 103,⟨.type "function", none,(.func (PySem.W.fnOf "rows_of" "rows_of" (qh (top 14)) (qg (top 14)) (qc (top 14)) (.none) (.none) (.none) (.str "markwords.limbs" 286) none (.ref 102) (.none))), #[]⟩) ::
(nat_lit 104,⟨.type "tuple", none,(.seq #[] 0), #[]⟩) ::
(nat_lit 106,⟨.type "tuple", none,(.seq #[.str "outside" 317, .str "address" 318, .str "head" 319] 0), #[]⟩) ::
(nat_lit 107,⟨.type "tuple", none,(.seq #[] 0), #[]⟩) ::
(nat_lit 109,⟨.type "code", none,(.fields #[.str "size_at" 314, .str "size_at" 315, .str "/claim/cut.py" 316, .int (39) 0, .int (2) 0, .int (0) 0, .int (0) 0, .int (3) 0, .ref 104, .bool true, .int (181) 0, .ref 105, .none, .ref 106, .ref 107, .ref 108, .int (320) 0, .int (39) 0, .str "/claim/cut.py" 321]), #[]⟩) ::
(nat_lit 110,⟨.type "function", none,(.func (PySem.W.fnOf "size_at" "size_at" (qh (top 15)) (qg (top 15)) (qc (top 15)) (.none) (.none) (.none) (.str "markwords.limbs" 286) none (.ref 109) (.none))), #[]⟩) ::
(nat_lit 111,⟨.type "tuple", none,(.seq #[] 0), #[]⟩) ::
(nat_lit 113,⟨.type "tuple", none,(.seq #[.str "laying" 326, .str "outside" 327, .str "address" 328, .str "amount" 329, .str "limb" 330] 0), #[]⟩) ::
(nat_lit 114,⟨.type "tuple", none,(.seq #[] 0), #[]⟩) ::
(nat_lit 116,⟨.type "code", none,(.fields #[.str "number_at" 323, .str "number_at" 324, .str "/claim/cut.py" 325, .int (42) 0, .int (3) 0, .int (0) 0, .int (0) 0, .int (3) 0, .ref 111, .bool true, .int (181) 0, .ref 112, .none, .ref 113, .ref 114, .ref 115, .int (331) 0, .int (42) 0, .str "/claim/cut.py" 332]), #[]⟩) ::
(nat_lit 117,⟨.type "function", none,(.func (PySem.W.fnOf "number_at" "number_at" (qh (top 16)) (qg (top 16)) (qc (top 16)) (.none) (.none) (.none) (.str "markwords.limbs" 286) none (.ref 116) (.none))), #[]⟩) ::
(nat_lit 118,⟨.type "tuple", none,(.seq #[] 0), #[]⟩) ::
(nat_lit 120,⟨.type "tuple", none,(.seq #[.str "laying" 337, .str "n" 338] 0), #[]⟩) ::
(nat_lit 121,⟨.type "tuple", none,(.seq #[] 0), #[]⟩) ::
(nat_lit 123,⟨.type "code", none,(.fields #[.str "is_great" 334, .str "is_great" 335, .str "/claim/cut.py" 336, .int (47) 0, .int (2) 0, .int (0) 0, .int (0) 0, .int (3) 0, .ref 118, .bool true, .int (181) 0, .ref 119, .none, .ref 120, .ref 121, .ref 122, .int (339) 0, .int (47) 0, .str "/claim/cut.py" 340]), #[]⟩) ::
(nat_lit 124,⟨.type "function", none,(.func (PySem.W.fnOf "is_great" "is_great" (qh (top 17)) (qg (top 17)) (qc (top 17)) (.none) (.none) (.none) (.str "markwords.limbs" 286) none (.ref 123) (.none))), #[]⟩) ::
(nat_lit 125,⟨.type "tuple", none,(.seq #[] 0), #[]⟩) ::
(nat_lit 127,⟨.type "tuple", none,(.seq #[.str "store" 347, .str "q" 348, .str "p" 349] 0), #[]⟩) ::
(nat_lit 128,⟨.type "tuple", none,(.seq #[] 0), #[]⟩) ::
(nat_lit 130,⟨.type "code", none,(.fields #[.str "need_numbers" 344, .str "need_numbers" 345, .str "/claim/cut.py" 346, .int (50) 0, .int (3) 0, .int (0) 0, .int (0) 0, .int (3) 0, .ref 125, .bool true, .int (181) 0, .ref 126, .none, .ref 127, .ref 128, .ref 129, .int (350) 0, .int (50) 0, .str "/claim/cut.py" 351]), #[]⟩) ::
(nat_lit 131,⟨.type "function", none,(.func (PySem.W.fnOf "need_numbers" "need_numbers" (qh (top 19)) (qg (top 19)) (qc (top 19)) (.none) (.none) (.none) (.str "markwords.needs" 342) none (.ref 130) (.none))), #[]⟩) ::
(nat_lit 132,⟨.type "tuple", none,(.seq #[] 0), #[]⟩) ::
(nat_lit 134,⟨.type "tuple", none,(.seq #[.str "store" 356, .str "q" 357] 0), #[]⟩) ::
(nat_lit 135,⟨.type "tuple", none,(.seq #[] 0), #[]⟩) ::
(nat_lit 137,⟨.type "code", none,(.fields #[.str "need_pair" 353, .str "need_pair" 354, .str "/claim/cut.py" 355, .int (55) 0, .int (2) 0, .int (0) 0, .int (0) 0, .int (3) 0, .ref 132, .bool true, .int (181) 0, .ref 133, .none, .ref 134, .ref 135, .ref 136, .int (358) 0, .int (55) 0, .str "/claim/cut.py" 359]), #[]⟩) ::
(nat_lit 138,⟨.type "function", none,(.func (PySem.W.fnOf "need_pair" "need_pair" (qh (top 20)) (qg (top 20)) (qc (top 20)) (.none) (.none) (.none) (.str "markwords.needs" 342) none (.ref 137) (.none))), #[]⟩) ::
(nat_lit 139,⟨.type "tuple", none,(.seq #[.str "none" 365, .str "no" 366, .str "yes" 367] 0), #[]⟩) ::
(nat_lit 140,⟨.type "tuple", none,(.seq #[] 0), #[]⟩) ::
(nat_lit 142,⟨.type "tuple", none,(.seq #[.str "laying" 374, .str "word" 375, .str "kind" 376] 0), #[]⟩) ::
(nat_lit 143,⟨.type "tuple", none,(.seq #[] 0), #[]⟩) ::
(nat_lit 145,⟨.type "code", none,(.fields #[.str "load_of" 371, .str "load_of" 372, .str "/claim/cut.py" 373, .int (62) 0, .int (3) 0, .int (0) 0, .int (0) 0, .int (3) 0, .ref 140, .bool true, .int (181) 0, .ref 141, .none, .ref 142, .ref 143, .ref 144, .int (377) 0, .int (62) 0, .str "/claim/cut.py" 378]), #[]⟩) ::
(nat_lit 146,⟨.type "function", none,(.func (PySem.W.fnOf "load_of" "load_of" (qh (top 25)) (qg (top 25)) (qc (top 25)) (.none) (.none) (.none) (.str "markwords.words" 363) none (.ref 145) (.none))), #[]⟩) ::
(nat_lit 147,⟨.type "tuple", none,(.seq #[] 0), #[]⟩) ::
(nat_lit 149,⟨.type "tuple", none,(.seq #[.str "laying" 383, .str "kind" 384, .str "load" 385, .str "mark" 386] 0), #[]⟩) ::
(nat_lit 150,⟨.type "tuple", none,(.seq #[] 0), #[]⟩) ::
(nat_lit 152,⟨.type "code", none,(.fields #[.str "marked" 380, .str "marked" 381, .str "/claim/cut.py" 382, .int (64) 0, .int (3) 0, .int (0) 0, .int (0) 0, .int (3) 0, .ref 147, .bool true, .int (181) 0, .ref 148, .none, .ref 149, .ref 150, .ref 151, .int (387) 0, .int (64) 0, .str "/claim/cut.py" 388]), #[]⟩) ::
(nat_lit 153,⟨.type "function", none,(.func (PySem.W.fnOf "marked" "marked" (qh (top 26)) (qg (top 26)) (qc (top 26)) (.none) (.none) (.none) (.str "markwords.words" 363) none (.ref 152) (.none))), #[]⟩) ::
(nat_lit 154,⟨.type "tuple", none,(.seq #[] 0), #[]⟩) ::
(nat_lit 156,⟨.type "tuple", none,(.seq #[.str "bits" 393, .str "load" 394] 0), #[]⟩) ::
(nat_lit 157,⟨.type "tuple", none,(.seq #[] 0), #[]⟩) ::
(nat_lit 159,⟨.type "code", none,(.fields #[.str "small_of" 390, .str "small_of" 391, .str "/claim/cut.py" 392, .int (67) 0, .int (2) 0, .int (0) 0, .int (0) 0, .int (3) 0, .ref 154, .bool true, .int (181) 0, .ref 155, .none, .ref 156, .ref 157, .ref 158, .int (395) 0, .int (67) 0, .str "/claim/cut.py" 396]), #[]⟩) ::
(nat_lit 160,⟨.type "function", none,(.func (PySem.W.fnOf "small_of" "small_of" (qh (top 27)) (qg (top 27)) (qc (top 27)) (.none) (.none) (.none) (.str "markwords.words" 363) none (.ref 159) (.none))), #[]⟩) ::
(nat_lit 161,⟨.type "tuple", none,(.seq #[] 0), #[]⟩) ::
(nat_lit 163,⟨.type "tuple", none,(.seq #[.str "laying" 401, .str "word" 402, .str "kind" 403, .str "load" 404] 0), #[]⟩) ::
(nat_lit 164,⟨.type "tuple", none,(.seq #[] 0), #[]⟩) ::
(nat_lit 166,⟨.type "code", none,(.fields #[.str "worth_of" 398, .str "worth_of" 399, .str "/claim/cut.py" 400, .int (69) 0, .int (2) 0, .int (0) 0, .int (0) 0, .int (3) 0, .ref 161, .bool true, .int (181) 0, .ref 162, .none, .ref 163, .ref 164, .ref 165, .int (405) 0, .int (69) 0, .str "/claim/cut.py" 406]), #[]⟩) ::
(nat_lit 167,⟨.type "function", none,(.func (PySem.W.fnOf "worth_of" "worth_of" (qh (top 28)) (qg (top 28)) (qc (top 28)) (.none) (.none) (.none) (.str "markwords.words" 363) none (.ref 166) (.none))), #[]⟩) ::
(nat_lit 168,⟨.type "tuple", none,(.seq #[] 0), #[]⟩) ::
(nat_lit 170,⟨.type "tuple", none,(.seq #[.str "laying" 411, .str "worth" 412] 0), #[]⟩) ::
(nat_lit 171,⟨.type "tuple", none,(.seq #[] 0), #[]⟩) ::
(nat_lit 173,⟨.type "code", none,(.fields #[.str "word_of" 408, .str "word_of" 409, .str "/claim/cut.py" 410, .int (81) 0, .int (2) 0, .int (0) 0, .int (0) 0, .int (3) 0, .ref 168, .bool true, .int (181) 0, .ref 169, .none, .ref 170, .ref 171, .ref 172, .int (413) 0, .int (81) 0, .str "/claim/cut.py" 414]), #[]⟩) ::
(nat_lit 174,⟨.type "function", none,(.func (PySem.W.fnOf "word_of" "word_of" (qh (top 29)) (qg (top 29)) (qc (top 29)) (.none) (.none) (.none) (.str "markwords.words" 363) none (.ref 173) (.none))), #[]⟩) ::
(nat_lit 175,⟨.type "tuple", none,(.seq #[] 0), #[]⟩) ::
(nat_lit 177,⟨.type "tuple", none,(.seq #[.str "laying" 419, .str "n" 420, .str "half" 421] 0), #[]⟩) ::
(nat_lit 178,⟨.type "tuple", none,(.seq #[] 0), #[]⟩) ::
(nat_lit 180,⟨.type "code", none,(.fields #[.str "is_small" 416, .str "is_small" 417, .str "/claim/cut.py" 418, .int (87) 0, .int (2) 0, .int (0) 0, .int (0) 0, .int (3) 0, .ref 175, .bool true, .int (181) 0, .ref 176, .none, .ref 177, .ref 178, .ref 179, .int (422) 0, .int (87) 0, .str "/claim/cut.py" 423]), #[]⟩) ::
(nat_lit 181,⟨.type "function", none,(.func (PySem.W.fnOf "is_small" "is_small" (qh (top 30)) (qg (top 30)) (qc (top 30)) (.none) (.none) (.none) (.str "markwords.words" 363) none (.ref 180) (.none))), #[]⟩) ::
(nat_lit 182,⟨.type "tuple", none,(.seq #[] 0), #[]⟩) ::
(nat_lit 184,⟨.type "tuple", none,(.seq #[.str "laying" 428, .str "word" 429, .str "kind" 430] 0), #[]⟩) ::
(nat_lit 185,⟨.type "tuple", none,(.seq #[] 0), #[]⟩) ::
(nat_lit 187,⟨.type "code", none,(.fields #[.str "address_of" 425, .str "address_of" 426, .str "/claim/cut.py" 427, .int (90) 0, .int (2) 0, .int (0) 0, .int (0) 0, .int (3) 0, .ref 182, .bool true, .int (181) 0, .ref 183, .none, .ref 184, .ref 185, .ref 186, .int (431) 0, .int (90) 0, .str "/claim/cut.py" 432]), #[]⟩) ::
(nat_lit 188,⟨.type "function", none,(.func (PySem.W.fnOf "address_of" "address_of" (qh (top 31)) (qg (top 31)) (qc (top 31)) (.none) (.none) (.none) (.str "markwords.words" 363) none (.ref 187) (.none))), #[]⟩) ::
(nat_lit 189,⟨.type "tuple", none,(.seq #[] 0), #[]⟩) ::
(nat_lit 191,⟨.type "tuple", none,(.seq #[.str "outside" 439, .str "heads" 440, .str "address" 441] 0), #[]⟩) ::
(nat_lit 192,⟨.type "tuple", none,(.seq #[] 0), #[]⟩) ::
(nat_lit 194,⟨.type "code", none,(.fields #[.str "heads_in" 436, .str "heads_in" 437, .str "/claim/cut.py" 438, .int (94) 0, .int (1) 0, .int (0) 0, .int (0) 0, .int (3) 0, .ref 189, .bool true, .int (181) 0, .ref 190, .none, .ref 191, .ref 192, .ref 193, .int (442) 0, .int (94) 0, .str "/claim/cut.py" 443]), #[]⟩) ::
(nat_lit 195,⟨.type "function", none,(.func (PySem.W.fnOf "heads_in" "heads_in" (qh (top 33)) (qg (top 33)) (qc (top 33)) (.none) (.none) (.none) (.str "markwords.things" 434) none (.ref 194) (.none))), #[]⟩) ::
(nat_lit 196,⟨.type "tuple", none,(.seq #[] 0), #[]⟩) ::
(nat_lit 198,⟨.type "tuple", none,(.seq #[.str "outside" 448, .str "address" 449] 0), #[]⟩) ::
(nat_lit 199,⟨.type "tuple", none,(.seq #[] 0), #[]⟩) ::
(nat_lit 201,⟨.type "code", none,(.fields #[.str "pair_words_at" 445, .str "pair_words_at" 446, .str "/claim/cut.py" 447, .int (101) 0, .int (2) 0, .int (0) 0, .int (0) 0, .int (3) 0, .ref 196, .bool true, .int (181) 0, .ref 197, .none, .ref 198, .ref 199, .ref 200, .int (450) 0, .int (101) 0, .str "/claim/cut.py" 451]), #[]⟩) ::
(nat_lit 202,⟨.type "function", none,(.func (PySem.W.fnOf "pair_words_at" "pair_words_at" (qh (top 34)) (qg (top 34)) (qc (top 34)) (.none) (.none) (.none) (.str "markwords.things" 434) none (.ref 201) (.none))), #[]⟩) ::
(nat_lit 203,⟨.type "tuple", none,(.seq #[] 0), #[]⟩) ::
(nat_lit 205,⟨.type "tuple", none,(.seq #[.str "laying" 456, .str "outside" 457, .str "word" 458, .str "worth" 459] 0), #[]⟩) ::
(nat_lit 206,⟨.type "tuple", none,(.seq #[] 0), #[]⟩) ::
(nat_lit 208,⟨.type "code", none,(.fields #[.str "read_worth" 453, .str "read_worth" 454, .str "/claim/cut.py" 455, .int (103) 0, .int (3) 0, .int (0) 0, .int (0) 0, .int (3) 0, .ref 203, .bool true, .int (181) 0, .ref 204, .none, .ref 205, .ref 206, .ref 207, .int (460) 0, .int (103) 0, .str "/claim/cut.py" 461]), #[]⟩) ::
(nat_lit 209,⟨.type "function", none,(.func (PySem.W.fnOf "read_worth" "read_worth" (qh (top 35)) (qg (top 35)) (qc (top 35)) (.none) (.none) (.none) (.str "markwords.things" 434) none (.ref 208) (.none))), #[]⟩) ::
(nat_lit 210,⟨.type "tuple", none,(.seq #[] 0), #[]⟩) ::
(nat_lit 212,⟨.type "tuple", none,(.seq #[.str "laying" 468, .str "words" 469, .str "outside" 470, .str "reached" 471, .str "waiting" 472, .str "address" 473] 0), #[]⟩) ::
(nat_lit 213,⟨.type "tuple", none,(.seq #[] 0), #[]⟩) ::
(nat_lit 215,⟨.type "code", none,(.fields #[.str "reached_from" 465, .str "reached_from" 466, .str "/claim/cut.py" 467, .int (109) 0, .int (3) 0, .int (0) 0, .int (0) 0, .int (3) 0, .ref 210, .bool true, .int (181) 0, .ref 211, .none, .ref 212, .ref 213, .ref 214, .int (474) 0, .int (109) 0, .str "/claim/cut.py" 475]), #[]⟩) ::
(nat_lit 216,⟨.type "function", none,(.func (PySem.W.fnOf "reached_from" "reached_from" (qh (top 37)) (qg (top 37)) (qc (top 37)) (.none) (.none) (.none) (.str "markwords.sweeping" 463) none (.ref 215) (.none))), #[]⟩) ::
(nat_lit 217,⟨.type "tuple", none,(.seq #[] 0), #[]⟩) ::
(nat_lit 219,⟨.type "tuple", none,(.seq #[.str "outside" 480, .str "reached" 481, .str "places" 482, .str "filled" 483, .str "address" 484] 0), #[]⟩) ::
(nat_lit 220,⟨.type "tuple", none,(.seq #[] 0), #[]⟩) ::
(nat_lit 222,⟨.type "code", none,(.fields #[.str "new_places" 477, .str "new_places" 478, .str "/claim/cut.py" 479, .int (118) 0, .int (2) 0, .int (0) 0, .int (0) 0, .int (3) 0, .ref 217, .bool true, .int (181) 0, .ref 218, .none, .ref 219, .ref 220, .ref 221, .int (485) 0, .int (118) 0, .str "/claim/cut.py" 486]), #[]⟩) ::
(nat_lit 223,⟨.type "function", none,(.func (PySem.W.fnOf "new_places" "new_places" (qh (top 38)) (qg (top 38)) (qc (top 38)) (.none) (.none) (.none) (.str "markwords.sweeping" 463) none (.ref 222) (.none))), #[]⟩) ::
(nat_lit 224,⟨.type "tuple", none,(.seq #[] 0), #[]⟩) ::
(nat_lit 226,⟨.type "tuple", none,(.seq #[.str "laying" 491, .str "places" 492, .str "word" 493, .str "address" 494] 0), #[]⟩) ::
(nat_lit 227,⟨.type "tuple", none,(.seq #[] 0), #[]⟩) ::
(nat_lit 229,⟨.type "code", none,(.fields #[.str "moved_word" 488, .str "moved_word" 489, .str "/claim/cut.py" 490, .int (126) 0, .int (3) 0, .int (0) 0, .int (0) 0, .int (3) 0, .ref 224, .bool true, .int (181) 0, .ref 225, .none, .ref 226, .ref 227, .ref 228, .int (495) 0, .int (126) 0, .str "/claim/cut.py" 496]), #[]⟩) ::
(nat_lit 230,⟨.type "function", none,(.func (PySem.W.fnOf "moved_word" "moved_word" (qh (top 39)) (qg (top 39)) (qc (top 39)) (.none) (.none) (.none) (.str "markwords.sweeping" 463) none (.ref 229) (.none))), #[]⟩) ::
(nat_lit 231,⟨.type "tuple", none,(.seq #[] 0), #[]⟩) ::
(nat_lit 234,⟨.type "code", none,(.fields #[.str "moved_thing" 498, .str "moved_thing" 499, .str "/claim/cut.py" 500, .int (131) 0, .int (4) 0, .int (0) 0, .int (0) 0, .int (3) 0, .ref 231, .bool true, .int (181) 0, .ref 232, .none, .none, .none, .ref 233, .int (501) 0, .int (131) 0, .str "/claim/cut.py" 502]), #[]⟩) ::
(nat_lit 235,⟨.type "function", none,(.func (PySem.W.fnOf "moved_thing" "moved_thing" (qh (top 40)) (qg (top 40)) (qc (top 40)) (.none) (.none) (.none) (.str "markwords.sweeping" 463) none (.ref 234) (.none))), #[]⟩) ::
(nat_lit 236,⟨.type "tuple", none,(.seq #[] 0), #[]⟩) ::
(nat_lit 239,⟨.type "code", none,(.fields #[.str "swept" 504, .str "swept" 505, .str "/claim/cut.py" 506, .int (135) 0, .int (3) 0, .int (0) 0, .int (0) 0, .int (3) 0, .ref 236, .bool true, .int (181) 0, .ref 237, .none, .none, .none, .ref 238, .int (507) 0, .int (135) 0, .str "/claim/cut.py" 508]), #[]⟩) ::
(nat_lit 240,⟨.type "function", none,(.func (PySem.W.fnOf "swept" "swept" (qh (top 41)) (qg (top 41)) (qc (top 41)) (.none) (.none) (.none) (.str "markwords.sweeping" 463) none (.ref 239) (.none))), #[]⟩) ::
(nat_lit 241,⟨.type "dict", none,(.dict [oE P "small" 512 (.str "number" 513),oE P "far" 514 (.str "number" 515),oE P "pair" 516 (.str "pair" 517),oE P "sign" 518 (.str "sign" 519),oE P "one" 520 (.str "one" 521)].toArray 5), #[]⟩) ::
(nat_lit 242,⟨.type "tuple", none,(.seq #[] 0), #[]⟩) ::
(nat_lit 244,⟨.type "tuple", none,(.seq #[.str "laying" 531] 0), #[]⟩) ::
(nat_lit 245,⟨.type "tuple", none,(.seq #[] 0), #[]⟩) ::
(nat_lit 247,⟨.type "code", none,(.fields #[.str "own_laying" 528, .str "own_laying" 529, .str "/claim/cut.py" 530, .int (143) 0, .int (1) 0, .int (0) 0, .int (0) 0, .int (3) 0, .ref 242, .bool true, .int (181) 0, .ref 243, .none, .ref 244, .ref 245, .ref 246, .int (532) 0, .int (143) 0, .str "/claim/cut.py" 533]), #[]⟩) ::
(nat_lit 248,⟨.type "function", none,(.func (PySem.W.fnOf "own_laying" "own_laying" (qh (top 44)) (qg (top 44)) (qc (top 44)) (.none) (.none) (.none) (.str "markwords.store" 510) none (.ref 247) (.none))), #[]⟩) ::
(nat_lit 249,⟨.type "tuple", none,(.seq #[] 0), #[]⟩) ::
(nat_lit 251,⟨.type "tuple", none,(.seq #[.str "laying" 538, .str "room" 539] 0), #[]⟩) ::
(nat_lit 252,⟨.type "tuple", none,(.seq #[] 0), #[]⟩) ::
(nat_lit 254,⟨.type "code", none,(.fields #[.str "most_outside" 535, .str "most_outside" 536, .str "/claim/cut.py" 537, .int (145) 0, .int (2) 0, .int (0) 0, .int (0) 0, .int (3) 0, .ref 249, .bool true, .int (181) 0, .ref 250, .none, .ref 251, .ref 252, .ref 253, .int (540) 0, .int (145) 0, .str "/claim/cut.py" 541]), #[]⟩) ::
(nat_lit 255,⟨.type "function", none,(.func (PySem.W.fnOf "most_outside" "most_outside" (qh (top 45)) (qg (top 45)) (qc (top 45)) (.none) (.none) (.none) (.str "markwords.store" 510) none (.ref 254) (.none))), #[]⟩) ::
(nat_lit 263,⟨.type "tuple", none,(.seq #[] 0), #[]⟩) ::
(nat_lit 265,⟨.type "tuple", none,(.seq #[.str "self" 558, .str "laying" 559, .str "room" 560] 0), #[]⟩) ::
(nat_lit 266,⟨.type "tuple", none,(.seq #[] 0), #[]⟩) ::
(nat_lit 268,⟨.type "code", none,(.fields #[.str "__init__" 555, .str "Store.__init__" 556, .str "/claim/cut.py" 557, .int (149) 0, .int (3) 0, .int (0) 0, .int (0) 0, .int (3) 0, .ref 263, .bool true, .int (181) 0, .ref 264, .none, .ref 265, .ref 266, .ref 267, .int (561) 0, .int (149) 0, .str "/claim/cut.py" 562]), #[]⟩) ::
(nat_lit 269,⟨.type "function", none,(.func (PySem.W.fnOf "__init__" "Store.__init__" (qh (qj (top 46) 0)) (qg (qj (top 46) 0)) (qc (qj (top 46) 0)) (.none) (.none) (.none) (.str "markwords.store" 510) none (.ref 268) (.none))), #[]⟩) ::
(nat_lit 270,⟨.type "tuple", none,(.seq #[] 0), #[]⟩) ::
(nat_lit 272,⟨.type "tuple", none,(.seq #[.str "self" 567] 0), #[]⟩) ::
(nat_lit 273,⟨.type "tuple", none,(.seq #[] 0), #[]⟩) ::
(nat_lit 275,⟨.type "code", none,(.fields #[.str "words" 564, .str "Store.words" 565, .str "/claim/cut.py" 566, .int (158) 0, .int (1) 0, .int (0) 0, .int (0) 0, .int (3) 0, .ref 270, .bool true, .int (181) 0, .ref 271, .none, .ref 272, .ref 273, .ref 274, .int (568) 0, .int (158) 0, .str "/claim/cut.py" 569]), #[]⟩) ::
(nat_lit 276,⟨.type "function", none,(.func (PySem.W.fnOf "words" "Store.words" (qh (qj (top 46) 1)) (qg (qj (top 46) 1)) (qc (qj (top 46) 1)) (.none) (.none) (.none) (.str "markwords.store" 510) none (.ref 275) (.none))), #[]⟩) ::
(nat_lit 277,⟨.type "tuple", none,(.seq #[] 0), #[]⟩) ::
(nat_lit 279,⟨.type "tuple", none,(.seq #[.str "self" 574] 0), #[]⟩) ::
(nat_lit 280,⟨.type "tuple", none,(.seq #[] 0), #[]⟩) ::
(nat_lit 282,⟨.type "code", none,(.fields #[.str "outside" 571, .str "Store.outside" 572, .str "/claim/cut.py" 573, .int (161) 0, .int (1) 0, .int (0) 0, .int (0) 0, .int (3) 0, .ref 277, .bool true, .int (181) 0, .ref 278, .none, .ref 279, .ref 280, .ref 281, .int (575) 0, .int (161) 0, .str "/claim/cut.py" 576]), #[]⟩) ::
(nat_lit 283,⟨.type "function", none,(.func (PySem.W.fnOf "outside" "Store.outside" (qh (qj (top 46) 2)) (qg (qj (top 46) 2)) (qc (qj (top 46) 2)) (.none) (.none) (.none) (.str "markwords.store" 510) none (.ref 282) (.none))), #[]⟩) ::
(nat_lit 284,⟨.type "tuple", none,(.seq #[] 0), #[]⟩) ::
(nat_lit 286,⟨.type "tuple", none,(.seq #[.str "self" 581, .str "left" 582] 0), #[]⟩) ::
(nat_lit 287,⟨.type "tuple", none,(.seq #[] 0), #[]⟩) ::
(nat_lit 289,⟨.type "code", none,(.fields #[.str "sweep" 578, .str "Store.sweep" 579, .str "/claim/cut.py" 580, .int (164) 0, .int (1) 0, .int (0) 0, .int (0) 0, .int (3) 0, .ref 284, .bool true, .int (181) 0, .ref 285, .none, .ref 286, .ref 287, .ref 288, .int (583) 0, .int (164) 0, .str "/claim/cut.py" 584]), #[]⟩) ::
(nat_lit 290,⟨.type "function", none,(.func (PySem.W.fnOf "sweep" "Store.sweep" (qh (qj (top 46) 3)) (qg (qj (top 46) 3)) (qc (qj (top 46) 3)) (.none) (.none) (.none) (.str "markwords.store" 510) none (.ref 289) (.none))), #[]⟩) ::
(nat_lit 291,⟨.type "tuple", none,(.seq #[] 0), #[]⟩) ::
(nat_lit 293,⟨.type "tuple", none,(.seq #[.str "self" 589, .str "size" 590] 0), #[]⟩) ::
(nat_lit 294,⟨.type "tuple", none,(.seq #[] 0), #[]⟩) ::
(nat_lit 296,⟨.type "code", none,(.fields #[.str "lacks" 586, .str "Store.lacks" 587, .str "/claim/cut.py" 588, .int (170) 0, .int (2) 0, .int (0) 0, .int (0) 0, .int (3) 0, .ref 291, .bool true, .int (181) 0, .ref 292, .none, .ref 293, .ref 294, .ref 295, .int (591) 0, .int (170) 0, .str "/claim/cut.py" 592]), #[]⟩) ::
(nat_lit 297,⟨.type "function", none,(.func (PySem.W.fnOf "lacks" "Store.lacks" (qh (qj (top 46) 4)) (qg (qj (top 46) 4)) (qc (qj (top 46) 4)) (.none) (.none) (.none) (.str "markwords.store" 510) none (.ref 296) (.none))), #[]⟩) ::
(nat_lit 298,⟨.type "tuple", none,(.seq #[] 0), #[]⟩) ::
(nat_lit 300,⟨.type "tuple", none,(.seq #[.str "self" 597, .str "size" 598] 0), #[]⟩) ::
(nat_lit 301,⟨.type "tuple", none,(.seq #[] 0), #[]⟩) ::
(nat_lit 303,⟨.type "code", none,(.fields #[.str "make_room" 594, .str "Store.make_room" 595, .str "/claim/cut.py" 596, .int (173) 0, .int (2) 0, .int (0) 0, .int (0) 0, .int (3) 0, .ref 298, .bool true, .int (181) 0, .ref 299, .none, .ref 300, .ref 301, .ref 302, .int (599) 0, .int (173) 0, .str "/claim/cut.py" 600]), #[]⟩) ::
(nat_lit 304,⟨.type "function", none,(.func (PySem.W.fnOf "make_room" "Store.make_room" (qh (qj (top 46) 5)) (qg (qj (top 46) 5)) (qc (qj (top 46) 5)) (.none) (.none) (.none) (.str "markwords.store" 510) none (.ref 303) (.none))), #[]⟩) ::
(nat_lit 305,⟨.type "tuple", none,(.seq #[] 0), #[]⟩) ::
(nat_lit 307,⟨.type "tuple", none,(.seq #[.str "self" 605, .str "r" 606, .str "kind" 607, .str "thing" 608] 0), #[]⟩) ::
(nat_lit 308,⟨.type "tuple", none,(.seq #[] 0), #[]⟩) ::
(nat_lit 310,⟨.type "code", none,(.fields #[.str "lay" 602, .str "Store.lay" 603, .str "/claim/cut.py" 604, .int (179) 0, .int (4) 0, .int (0) 0, .int (0) 0, .int (3) 0, .ref 305, .bool true, .int (181) 0, .ref 306, .none, .ref 307, .ref 308, .ref 309, .int (609) 0, .int (179) 0, .str "/claim/cut.py" 610]), #[]⟩) ::
(nat_lit 311,⟨.type "function", none,(.func (PySem.W.fnOf "lay" "Store.lay" (qh (qj (top 46) 6)) (qg (qj (top 46) 6)) (qc (qj (top 46) 6)) (.none) (.none) (.none) (.str "markwords.store" 510) none (.ref 310) (.none))), #[]⟩) ::
(nat_lit 312,⟨.type "tuple", none,(.seq #[] 0), #[]⟩) ::
(nat_lit 314,⟨.type "tuple", none,(.seq #[.str "self" 615, .str "r" 616, .str "n" 617, .str "thing" 618] 0), #[]⟩) ::
(nat_lit 315,⟨.type "tuple", none,(.seq #[] 0), #[]⟩) ::
(nat_lit 317,⟨.type "code", none,(.fields #[.str "number" 612, .str "Store.number" 613, .str "/claim/cut.py" 614, .int (183) 0, .int (3) 0, .int (0) 0, .int (0) 0, .int (3) 0, .ref 312, .bool true, .int (181) 0, .ref 313, .none, .ref 314, .ref 315, .ref 316, .int (619) 0, .int (183) 0, .str "/claim/cut.py" 620]), #[]⟩) ::
(nat_lit 318,⟨.type "function", none,(.func (PySem.W.fnOf "number" "Store.number" (qh (qj (top 46) 7)) (qg (qj (top 46) 7)) (qc (qj (top 46) 7)) (.none) (.none) (.none) (.str "markwords.store" 510) none (.ref 317) (.none))), #[]⟩) ::
(nat_lit 319,⟨.type "tuple", none,(.seq #[] 0), #[]⟩) ::
(nat_lit 321,⟨.type "tuple", none,(.seq #[.str "self" 625, .str "r" 626, .str "k" 627] 0), #[]⟩) ::
(nat_lit 322,⟨.type "tuple", none,(.seq #[] 0), #[]⟩) ::
(nat_lit 324,⟨.type "code", none,(.fields #[.str "sign" 622, .str "Store.sign" 623, .str "/claim/cut.py" 624, .int (193) 0, .int (3) 0, .int (0) 0, .int (0) 0, .int (3) 0, .ref 319, .bool true, .int (181) 0, .ref 320, .none, .ref 321, .ref 322, .ref 323, .int (628) 0, .int (193) 0, .str "/claim/cut.py" 629]), #[]⟩) ::
(nat_lit 325,⟨.type "function", none,(.func (PySem.W.fnOf "sign" "Store.sign" (qh (qj (top 46) 8)) (qg (qj (top 46) 8)) (qc (qj (top 46) 8)) (.none) (.none) (.none) (.str "markwords.store" 510) none (.ref 324) (.none))), #[]⟩) ::
(nat_lit 326,⟨.type "tuple", none,(.seq #[] 0), #[]⟩) ::
(nat_lit 328,⟨.type "tuple", none,(.seq #[.str "self" 634, .str "r" 635, .str "text" 636] 0), #[]⟩) ::
(nat_lit 329,⟨.type "tuple", none,(.seq #[] 0), #[]⟩) ::
(nat_lit 331,⟨.type "code", none,(.fields #[.str "one" 631, .str "Store.one" 632, .str "/claim/cut.py" 633, .int (196) 0, .int (3) 0, .int (0) 0, .int (0) 0, .int (3) 0, .ref 326, .bool true, .int (181) 0, .ref 327, .none, .ref 328, .ref 329, .ref 330, .int (637) 0, .int (196) 0, .str "/claim/cut.py" 638]), #[]⟩) ::
(nat_lit 332,⟨.type "function", none,(.func (PySem.W.fnOf "one" "Store.one" (qh (qj (top 46) 9)) (qg (qj (top 46) 9)) (qc (qj (top 46) 9)) (.none) (.none) (.none) (.str "markwords.store" 510) none (.ref 331) (.none))), #[]⟩) ::
(nat_lit 333,⟨.type "tuple", none,(.seq #[] 0), #[]⟩) ::
(nat_lit 335,⟨.type "tuple", none,(.seq #[.str "self" 643, .str "r" 644, .str "q" 645] 0), #[]⟩) ::
(nat_lit 336,⟨.type "tuple", none,(.seq #[] 0), #[]⟩) ::
(nat_lit 338,⟨.type "code", none,(.fields #[.str "copy" 640, .str "Store.copy" 641, .str "/claim/cut.py" 642, .int (199) 0, .int (3) 0, .int (0) 0, .int (0) 0, .int (3) 0, .ref 333, .bool true, .int (181) 0, .ref 334, .none, .ref 335, .ref 336, .ref 337, .int (646) 0, .int (199) 0, .str "/claim/cut.py" 647]), #[]⟩) ::
(nat_lit 339,⟨.type "function", none,(.func (PySem.W.fnOf "copy" "Store.copy" (qh (qj (top 46) 10)) (qg (qj (top 46) 10)) (qc (qj (top 46) 10)) (.none) (.none) (.none) (.str "markwords.store" 510) none (.ref 338) (.none))), #[]⟩) ::
(nat_lit 340,⟨.type "tuple", none,(.seq #[] 0), #[]⟩) ::
(nat_lit 342,⟨.type "tuple", none,(.seq #[.str "self" 652, .str "q" 653] 0), #[]⟩) ::
(nat_lit 343,⟨.type "tuple", none,(.seq #[] 0), #[]⟩) ::
(nat_lit 345,⟨.type "code", none,(.fields #[.str "in_word" 649, .str "Store.in_word" 650, .str "/claim/cut.py" 651, .int (202) 0, .int (2) 0, .int (0) 0, .int (0) 0, .int (3) 0, .ref 340, .bool true, .int (181) 0, .ref 341, .none, .ref 342, .ref 343, .ref 344, .int (654) 0, .int (202) 0, .str "/claim/cut.py" 655]), #[]⟩) ::
(nat_lit 346,⟨.type "function", none,(.func (PySem.W.fnOf "in_word" "Store.in_word" (qh (qj (top 46) 11)) (qg (qj (top 46) 11)) (qc (qj (top 46) 11)) (.none) (.none) (.none) (.str "markwords.store" 510) none (.ref 345) (.none))), #[]⟩) ::
(nat_lit 347,⟨.type "tuple", none,(.seq #[] 0), #[]⟩) ::
(nat_lit 349,⟨.type "tuple", none,(.seq #[.str "self" 660, .str "r" 661, .str "q" 662, .str "p" 663, .str "n" 664] 0), #[]⟩) ::
(nat_lit 350,⟨.type "tuple", none,(.seq #[] 0), #[]⟩) ::
(nat_lit 352,⟨.type "code", none,(.fields #[.str "come_of_two" 657, .str "Store.come_of_two" 658, .str "/claim/cut.py" 659, .int (205) 0, .int (5) 0, .int (0) 0, .int (0) 0, .int (3) 0, .ref 347, .bool true, .int (181) 0, .ref 348, .none, .ref 349, .ref 350, .ref 351, .int (665) 0, .int (205) 0, .str "/claim/cut.py" 666]), #[]⟩) ::
(nat_lit 353,⟨.type "function", none,(.func (PySem.W.fnOf "come_of_two" "Store.come_of_two" (qh (qj (top 46) 12)) (qg (qj (top 46) 12)) (qc (qj (top 46) 12)) (.none) (.none) (.none) (.str "markwords.store" 510) none (.ref 352) (.none))), #[]⟩) ::
(nat_lit 354,⟨.type "tuple", none,(.seq #[] 0), #[]⟩) ::
(nat_lit 356,⟨.type "tuple", none,(.seq #[.str "self" 671, .str "r" 672, .str "q" 673, .str "p" 674] 0), #[]⟩) ::
(nat_lit 357,⟨.type "tuple", none,(.seq #[] 0), #[]⟩) ::
(nat_lit 359,⟨.type "code", none,(.fields #[.str "plus" 668, .str "Store.plus" 669, .str "/claim/cut.py" 670, .int (208) 0, .int (4) 0, .int (0) 0, .int (0) 0, .int (3) 0, .ref 354, .bool true, .int (181) 0, .ref 355, .none, .ref 356, .ref 357, .ref 358, .int (675) 0, .int (208) 0, .str "/claim/cut.py" 676]), #[]⟩) ::
(nat_lit 360,⟨.type "function", none,(.func (PySem.W.fnOf "plus" "Store.plus" (qh (qj (top 46) 13)) (qg (qj (top 46) 13)) (qc (qj (top 46) 13)) (.none) (.none) (.none) (.str "markwords.store" 510) none (.ref 359) (.none))), #[]⟩) ::
(nat_lit 361,⟨.type "tuple", none,(.seq #[] 0), #[]⟩) ::
(nat_lit 363,⟨.type "tuple", none,(.seq #[.str "self" 681, .str "r" 682, .str "q" 683, .str "p" 684] 0), #[]⟩) ::
(nat_lit 364,⟨.type "tuple", none,(.seq #[] 0), #[]⟩) ::
(nat_lit 366,⟨.type "code", none,(.fields #[.str "less" 678, .str "Store.less" 679, .str "/claim/cut.py" 680, .int (211) 0, .int (4) 0, .int (0) 0, .int (0) 0, .int (3) 0, .ref 361, .bool true, .int (181) 0, .ref 362, .none, .ref 363, .ref 364, .ref 365, .int (685) 0, .int (211) 0, .str "/claim/cut.py" 686]), #[]⟩) ::
(nat_lit 367,⟨.type "function", none,(.func (PySem.W.fnOf "less" "Store.less" (qh (qj (top 46) 14)) (qg (qj (top 46) 14)) (qc (qj (top 46) 14)) (.none) (.none) (.none) (.str "markwords.store" 510) none (.ref 366) (.none))), #[]⟩) ::
(nat_lit 368,⟨.type "tuple", none,(.seq #[] 0), #[]⟩) ::
(nat_lit 370,⟨.type "tuple", none,(.seq #[.str "self" 691, .str "r" 692, .str "q" 693, .str "p" 694] 0), #[]⟩) ::
(nat_lit 371,⟨.type "tuple", none,(.seq #[] 0), #[]⟩) ::
(nat_lit 373,⟨.type "code", none,(.fields #[.str "times" 688, .str "Store.times" 689, .str "/claim/cut.py" 690, .int (214) 0, .int (4) 0, .int (0) 0, .int (0) 0, .int (3) 0, .ref 368, .bool true, .int (181) 0, .ref 369, .none, .ref 370, .ref 371, .ref 372, .int (695) 0, .int (214) 0, .str "/claim/cut.py" 696]), #[]⟩) ::
(nat_lit 374,⟨.type "function", none,(.func (PySem.W.fnOf "times" "Store.times" (qh (qj (top 46) 15)) (qg (qj (top 46) 15)) (qc (qj (top 46) 15)) (.none) (.none) (.none) (.str "markwords.store" 510) none (.ref 373) (.none))), #[]⟩) ::
(nat_lit 375,⟨.type "tuple", none,(.seq #[] 0), #[]⟩) ::
(nat_lit 377,⟨.type "tuple", none,(.seq #[.str "self" 701, .str "r" 702, .str "q" 703, .str "p" 704] 0), #[]⟩) ::
(nat_lit 378,⟨.type "tuple", none,(.seq #[] 0), #[]⟩) ::
(nat_lit 380,⟨.type "code", none,(.fields #[.str "over" 698, .str "Store.over" 699, .str "/claim/cut.py" 700, .int (217) 0, .int (4) 0, .int (0) 0, .int (0) 0, .int (3) 0, .ref 375, .bool true, .int (181) 0, .ref 376, .none, .ref 377, .ref 378, .ref 379, .int (705) 0, .int (217) 0, .str "/claim/cut.py" 706]), #[]⟩) ::
(nat_lit 381,⟨.type "function", none,(.func (PySem.W.fnOf "over" "Store.over" (qh (qj (top 46) 16)) (qg (qj (top 46) 16)) (qc (qj (top 46) 16)) (.none) (.none) (.none) (.str "markwords.store" 510) none (.ref 380) (.none))), #[]⟩) ::
(nat_lit 382,⟨.type "tuple", none,(.seq #[] 0), #[]⟩) ::
(nat_lit 384,⟨.type "tuple", none,(.seq #[.str "self" 711, .str "r" 712, .str "q" 713, .str "p" 714] 0), #[]⟩) ::
(nat_lit 385,⟨.type "tuple", none,(.seq #[] 0), #[]⟩) ::
(nat_lit 387,⟨.type "code", none,(.fields #[.str "rest" 708, .str "Store.rest" 709, .str "/claim/cut.py" 710, .int (220) 0, .int (4) 0, .int (0) 0, .int (0) 0, .int (3) 0, .ref 382, .bool true, .int (181) 0, .ref 383, .none, .ref 384, .ref 385, .ref 386, .int (715) 0, .int (220) 0, .str "/claim/cut.py" 716]), #[]⟩) ::
(nat_lit 388,⟨.type "function", none,(.func (PySem.W.fnOf "rest" "Store.rest" (qh (qj (top 46) 17)) (qg (qj (top 46) 17)) (qc (qj (top 46) 17)) (.none) (.none) (.none) (.str "markwords.store" 510) none (.ref 387) (.none))), #[]⟩) ::
(nat_lit 389,⟨.type "tuple", none,(.seq #[] 0), #[]⟩) ::
(nat_lit 391,⟨.type "tuple", none,(.seq #[.str "self" 721, .str "r" 722, .str "q" 723, .str "p" 724] 0), #[]⟩) ::
(nat_lit 392,⟨.type "tuple", none,(.seq #[] 0), #[]⟩) ::
(nat_lit 394,⟨.type "code", none,(.fields #[.str "pair" 718, .str "Store.pair" 719, .str "/claim/cut.py" 720, .int (223) 0, .int (4) 0, .int (0) 0, .int (0) 0, .int (3) 0, .ref 389, .bool true, .int (181) 0, .ref 390, .none, .ref 391, .ref 392, .ref 393, .int (725) 0, .int (223) 0, .str "/claim/cut.py" 726]), #[]⟩) ::
(nat_lit 395,⟨.type "function", none,(.func (PySem.W.fnOf "pair" "Store.pair" (qh (qj (top 46) 18)) (qg (qj (top 46) 18)) (qc (qj (top 46) 18)) (.none) (.none) (.none) (.str "markwords.store" 510) none (.ref 394) (.none))), #[]⟩) ::
(nat_lit 396,⟨.type "tuple", none,(.seq #[] 0), #[]⟩) ::
(nat_lit 398,⟨.type "tuple", none,(.seq #[.str "self" 731, .str "q" 732] 0), #[]⟩) ::
(nat_lit 399,⟨.type "tuple", none,(.seq #[] 0), #[]⟩) ::
(nat_lit 401,⟨.type "code", none,(.fields #[.str "pair_in" 728, .str "Store.pair_in" 729, .str "/claim/cut.py" 730, .int (227) 0, .int (2) 0, .int (0) 0, .int (0) 0, .int (3) 0, .ref 396, .bool true, .int (181) 0, .ref 397, .none, .ref 398, .ref 399, .ref 400, .int (733) 0, .int (227) 0, .str "/claim/cut.py" 734]), #[]⟩) ::
(nat_lit 402,⟨.type "function", none,(.func (PySem.W.fnOf "pair_in" "Store.pair_in" (qh (qj (top 46) 19)) (qg (qj (top 46) 19)) (qc (qj (top 46) 19)) (.none) (.none) (.none) (.str "markwords.store" 510) none (.ref 401) (.none))), #[]⟩) ::
(nat_lit 403,⟨.type "tuple", none,(.seq #[] 0), #[]⟩) ::
(nat_lit 405,⟨.type "tuple", none,(.seq #[.str "self" 739, .str "r" 740, .str "q" 741] 0), #[]⟩) ::
(nat_lit 406,⟨.type "tuple", none,(.seq #[] 0), #[]⟩) ::
(nat_lit 408,⟨.type "code", none,(.fields #[.str "first" 736, .str "Store.first" 737, .str "/claim/cut.py" 738, .int (231) 0, .int (3) 0, .int (0) 0, .int (0) 0, .int (3) 0, .ref 403, .bool true, .int (181) 0, .ref 404, .none, .ref 405, .ref 406, .ref 407, .int (742) 0, .int (231) 0, .str "/claim/cut.py" 743]), #[]⟩) ::
(nat_lit 409,⟨.type "function", none,(.func (PySem.W.fnOf "first" "Store.first" (qh (qj (top 46) 20)) (qg (qj (top 46) 20)) (qc (qj (top 46) 20)) (.none) (.none) (.none) (.str "markwords.store" 510) none (.ref 408) (.none))), #[]⟩) ::
(nat_lit 410,⟨.type "tuple", none,(.seq #[] 0), #[]⟩) ::
(nat_lit 412,⟨.type "tuple", none,(.seq #[.str "self" 748, .str "r" 749, .str "q" 750] 0), #[]⟩) ::
(nat_lit 413,⟨.type "tuple", none,(.seq #[] 0), #[]⟩) ::
(nat_lit 415,⟨.type "code", none,(.fields #[.str "second" 745, .str "Store.second" 746, .str "/claim/cut.py" 747, .int (234) 0, .int (3) 0, .int (0) 0, .int (0) 0, .int (3) 0, .ref 410, .bool true, .int (181) 0, .ref 411, .none, .ref 412, .ref 413, .ref 414, .int (751) 0, .int (234) 0, .str "/claim/cut.py" 752]), #[]⟩) ::
(nat_lit 416,⟨.type "function", none,(.func (PySem.W.fnOf "second" "Store.second" (qh (qj (top 46) 21)) (qg (qj (top 46) 21)) (qc (qj (top 46) 21)) (.none) (.none) (.none) (.str "markwords.store" 510) none (.ref 415) (.none))), #[]⟩) ::
(nat_lit 417,⟨.type "tuple", none,(.seq #[] 0), #[]⟩) ::
(nat_lit 419,⟨.type "tuple", none,(.seq #[.str "self" 757, .str "q" 758, .str "p" 759] 0), #[]⟩) ::
(nat_lit 420,⟨.type "tuple", none,(.seq #[] 0), #[]⟩) ::
(nat_lit 422,⟨.type "code", none,(.fields #[.str "set_first" 754, .str "Store.set_first" 755, .str "/claim/cut.py" 756, .int (237) 0, .int (3) 0, .int (0) 0, .int (0) 0, .int (3) 0, .ref 417, .bool true, .int (181) 0, .ref 418, .none, .ref 419, .ref 420, .ref 421, .int (760) 0, .int (237) 0, .str "/claim/cut.py" 761]), #[]⟩) ::
(nat_lit 423,⟨.type "function", none,(.func (PySem.W.fnOf "set_first" "Store.set_first" (qh (qj (top 46) 22)) (qg (qj (top 46) 22)) (qc (qj (top 46) 22)) (.none) (.none) (.none) (.str "markwords.store" 510) none (.ref 422) (.none))), #[]⟩) ::
(nat_lit 424,⟨.type "tuple", none,(.seq #[] 0), #[]⟩) ::
(nat_lit 426,⟨.type "tuple", none,(.seq #[.str "self" 766, .str "q" 767, .str "p" 768] 0), #[]⟩) ::
(nat_lit 427,⟨.type "tuple", none,(.seq #[] 0), #[]⟩) ::
(nat_lit 429,⟨.type "code", none,(.fields #[.str "set_second" 763, .str "Store.set_second" 764, .str "/claim/cut.py" 765, .int (240) 0, .int (3) 0, .int (0) 0, .int (0) 0, .int (3) 0, .ref 424, .bool true, .int (181) 0, .ref 425, .none, .ref 426, .ref 427, .ref 428, .int (769) 0, .int (240) 0, .str "/claim/cut.py" 770]), #[]⟩) ::
(nat_lit 430,⟨.type "function", none,(.func (PySem.W.fnOf "set_second" "Store.set_second" (qh (qj (top 46) 23)) (qg (qj (top 46) 23)) (qc (qj (top 46) 23)) (.none) (.none) (.none) (.str "markwords.store" 510) none (.ref 429) (.none))), #[]⟩) ::
(nat_lit 431,⟨.type "tuple", none,(.seq #[] 0), #[]⟩) ::
(nat_lit 433,⟨.type "tuple", none,(.seq #[.str "self" 775, .str "q" 776, .str "p" 777] 0), #[]⟩) ::
(nat_lit 434,⟨.type "tuple", none,(.seq #[] 0), #[]⟩) ::
(nat_lit 436,⟨.type "code", none,(.fields #[.str "below" 772, .str "Store.below" 773, .str "/claim/cut.py" 774, .int (243) 0, .int (3) 0, .int (0) 0, .int (0) 0, .int (3) 0, .ref 431, .bool true, .int (181) 0, .ref 432, .none, .ref 433, .ref 434, .ref 435, .int (778) 0, .int (243) 0, .str "/claim/cut.py" 779]), #[]⟩) ::
(nat_lit 437,⟨.type "function", none,(.func (PySem.W.fnOf "below" "Store.below" (qh (qj (top 46) 24)) (qg (qj (top 46) 24)) (qc (qj (top 46) 24)) (.none) (.none) (.none) (.str "markwords.store" 510) none (.ref 436) (.none))), #[]⟩) ::
(nat_lit 438,⟨.type "tuple", none,(.seq #[] 0), #[]⟩) ::
(nat_lit 440,⟨.type "tuple", none,(.seq #[.str "self" 784, .str "q" 785, .str "p" 786] 0), #[]⟩) ::
(nat_lit 441,⟨.type "tuple", none,(.seq #[] 0), #[]⟩) ::
(nat_lit 443,⟨.type "code", none,(.fields #[.str "same" 781, .str "Store.same" 782, .str "/claim/cut.py" 783, .int (247) 0, .int (3) 0, .int (0) 0, .int (0) 0, .int (3) 0, .ref 438, .bool true, .int (181) 0, .ref 439, .none, .ref 440, .ref 441, .ref 442, .int (787) 0, .int (247) 0, .str "/claim/cut.py" 788]), #[]⟩) ::
(nat_lit 444,⟨.type "function", none,(.func (PySem.W.fnOf "same" "Store.same" (qh (qj (top 46) 25)) (qg (qj (top 46) 25)) (qc (qj (top 46) 25)) (.none) (.none) (.none) (.str "markwords.store" 510) none (.ref 443) (.none))), #[]⟩) ::
(nat_lit 445,⟨.type "tuple", none,(.seq #[] 0), #[]⟩) ::
(nat_lit 447,⟨.type "tuple", none,(.seq #[.str "self" 793, .str "q" 794] 0), #[]⟩) ::
(nat_lit 448,⟨.type "tuple", none,(.seq #[] 0), #[]⟩) ::
(nat_lit 450,⟨.type "code", none,(.fields #[.str "kind" 790, .str "Store.kind" 791, .str "/claim/cut.py" 792, .int (252) 0, .int (2) 0, .int (0) 0, .int (0) 0, .int (3) 0, .ref 445, .bool true, .int (181) 0, .ref 446, .none, .ref 447, .ref 448, .ref 449, .int (795) 0, .int (252) 0, .str "/claim/cut.py" 796]), #[]⟩) ::
(nat_lit 451,⟨.type "function", none,(.func (PySem.W.fnOf "kind" "Store.kind" (qh (qj (top 46) 26)) (qg (qj (top 46) 26)) (qc (qj (top 46) 26)) (.none) (.none) (.none) (.str "markwords.store" 510) none (.ref 450) (.none))), #[]⟩) ::
(nat_lit 452,⟨.type "tuple", none,(.seq #[] 0), #[]⟩) ::
(nat_lit 454,⟨.type "tuple", none,(.seq #[.str "self" 801, .str "q" 802] 0), #[]⟩) ::
(nat_lit 455,⟨.type "tuple", none,(.seq #[] 0), #[]⟩) ::
(nat_lit 457,⟨.type "code", none,(.fields #[.str "told" 798, .str "Store.told" 799, .str "/claim/cut.py" 800, .int (255) 0, .int (2) 0, .int (0) 0, .int (0) 0, .int (3) 0, .ref 452, .bool true, .int (181) 0, .ref 453, .none, .ref 454, .ref 455, .ref 456, .int (803) 0, .int (255) 0, .str "/claim/cut.py" 804]), #[]⟩) ::
(nat_lit 458,⟨.type "function", none,(.func (PySem.W.fnOf "told" "Store.told" (qh (qj (top 46) 27)) (qg (qj (top 46) 27)) (qc (qj (top 46) 27)) (.none) (.none) (.none) (.str "markwords.store" 510) none (.ref 457) (.none))), #[]⟩) ::
(nat_lit 459,⟨.type "tuple", none,(.seq #[.str "held" 806, .str "kept" 807, .str "laying" 808, .str "quick" 809, .str "room" 810, .str "slow" 811, .str "sweeps" 812] 0), #[]⟩) ::
(nat_lit 460,⟨.type "dict", none,(.dict [oE P "__module__" 550 (.str "markwords.store" 510),oE P "__firstlineno__" 554 (.int (147) 553),oE P "__init__" 563 (.ref 269),oE P "words" 570 (.ref 276),oE P "outside" 577 (.ref 283),oE P "sweep" 585 (.ref 290),oE P "lacks" 593 (.ref 297),oE P "make_room" 601 (.ref 304),oE P "lay" 611 (.ref 311),oE P "number" 621 (.ref 318),oE P "sign" 630 (.ref 325),oE P "one" 639 (.ref 332),oE P "copy" 648 (.ref 339),oE P "in_word" 656 (.ref 346),oE P "come_of_two" 667 (.ref 353),oE P "plus" 677 (.ref 360),oE P "less" 687 (.ref 367),oE P "times" 697 (.ref 374),oE P "over" 707 (.ref 381),oE P "rest" 717 (.ref 388),oE P "pair" 727 (.ref 395),oE P "pair_in" 735 (.ref 402),oE P "first" 744 (.ref 409),oE P "second" 753 (.ref 416),oE P "set_first" 762 (.ref 423),oE P "set_second" 771 (.ref 430),oE P "below" 780 (.ref 437),oE P "same" 789 (.ref 444),oE P "kind" 797 (.ref 451),oE P "told" 805 (.ref 458),oE P "__static_attributes__" 813 (.ref 459),oE P "__dict__" 815 (.ref 462),oE P "__weakref__" 817 (.ref 463),oE P "__doc__" 818 (.none)].toArray 4), #[]⟩) ::
(nat_lit 461,⟨.type "type", none,(.cls ({ name := "Store", bases:=[.type "object"],mro:=[.ref 461, .type "object"],ns:=460,qualname := "Store", hasDict:=true,slotNames:=[],subclasses:=[],abstract:=false,collection:=none,hasDel:=false }:ClassData)), #[none,none,(some (.str "Store" 543)),(some (.str "Store" 551)),(some (.builtin "object.__new__")),(some (.bool true))]⟩) ::
(nat_lit 462,⟨.type "getset_descriptor", none,(.fields #[.str "__dict__" 814, .ref 461, .builtin "function.__dict__", .builtin "function.__dict__#set"]), #[]⟩) ::
(nat_lit 463,⟨.type "getset_descriptor", none,(.fields #[.str "__weakref__" 816, .ref 461, .builtin "ExceptionGroup.__weakref__", .none]), #[]⟩) ::
(nat_lit 466,⟨.type "tuple", none,(.seq #[] 0), #[]⟩) ::
(nat_lit 469,⟨.type "code", none,(.fields #[.str "_law_bag" 823, .str "_law_bag" 824, .str "/claim/cut.py" 825, .int (260) 0, .int (1) 0, .int (0) 0, .int (0) 0, .int (3) 0, .ref 466, .bool true, .int (181) 0, .ref 467, .none, .none, .none, .ref 468, .int (826) 0, .int (260) 0, .str "/claim/cut.py" 827]), #[]⟩) ::
(nat_lit 470,⟨.type "function", none,(.func (PySem.W.fnOf "_law_bag" "_law_bag" (qh (top 48)) (qg (top 48)) (qc (top 48)) (.none) (.none) (.none) (.str "law_markwords_k33_worths_in_registers" 821) none (.ref 469) (.none))), #[]⟩) ::
(nat_lit 471,⟨.type "tuple", none,(.seq #[] 0), #[]⟩) ::
(nat_lit 473,⟨.type "tuple", none,(.seq #[.str "bag" 832, .str "many" 833, .str "found" 834] 0), #[]⟩) ::
(nat_lit 474,⟨.type "tuple", none,(.seq #[] 0), #[]⟩) ::
(nat_lit 476,⟨.type "code", none,(.fields #[.str "_law_draw" 829, .str "_law_draw" 830, .str "/claim/cut.py" 831, .int (265) 0, .int (2) 0, .int (0) 0, .int (0) 0, .int (3) 0, .ref 471, .bool true, .int (181) 0, .ref 472, .none, .ref 473, .ref 474, .ref 475, .int (835) 0, .int (265) 0, .str "/claim/cut.py" 836]), #[]⟩) ::
(nat_lit 477,⟨.type "function", none,(.func (PySem.W.fnOf "_law_draw" "_law_draw" (qh (top 49)) (qg (top 49)) (qc (top 49)) (.none) (.none) (.none) (.str "law_markwords_k33_worths_in_registers" 821) none (.ref 476) (.none))), #[]⟩) ::
(nat_lit 478,⟨.type "tuple", none,(.seq #[] 0), #[]⟩) ::
(nat_lit 481,⟨.type "code", none,(.fields #[.str "_law_full_laying" 838, .str "_law_full_laying" 839, .str "/claim/cut.py" 840, .int (276) 0, .int (3) 0, .int (0) 0, .int (0) 0, .int (3) 0, .ref 478, .bool true, .int (181) 0, .ref 479, .none, .none, .none, .ref 480, .int (841) 0, .int (276) 0, .str "/claim/cut.py" 842]), #[]⟩) ::
(nat_lit 482,⟨.type "function", none,(.func (PySem.W.fnOf "_law_full_laying" "_law_full_laying" (qh (top 50)) (qg (top 50)) (qc (top 50)) (.none) (.none) (.none) (.str "law_markwords_k33_worths_in_registers" 821) none (.ref 481) (.none))), #[]⟩) ::
(nat_lit 483,⟨.type "tuple", none,(.seq #[] 0), #[]⟩) ::
(nat_lit 486,⟨.type "code", none,(.fields #[.str "_law_laying" 844, .str "_law_laying" 845, .str "/claim/cut.py" 846, .int (284) 0, .int (1) 0, .int (0) 0, .int (0) 0, .int (3) 0, .ref 483, .bool true, .int (181) 0, .ref 484, .none, .none, .none, .ref 485, .int (847) 0, .int (284) 0, .str "/claim/cut.py" 848]), #[]⟩) ::
(nat_lit 487,⟨.type "function", none,(.func (PySem.W.fnOf "_law_laying" "_law_laying" (qh (top 51)) (qg (top 51)) (qc (top 51)) (.none) (.none) (.none) (.str "law_markwords_k33_worths_in_registers" 821) none (.ref 486) (.none))), #[]⟩) ::
(nat_lit 495,⟨.type "tuple", none,(.seq #[] 0), #[]⟩) ::
(nat_lit 498,⟨.type "code", none,(.fields #[.str "_law_mark" 861, .str "_law_mark" 862, .str "/claim/cut.py" 863, .int (317) 0, .int (2) 0, .int (0) 0, .int (0) 0, .int (3) 0, .ref 495, .bool true, .int (181) 0, .ref 496, .none, .none, .none, .ref 497, .int (864) 0, .int (317) 0, .str "/claim/cut.py" 865]), #[]⟩) ::
(nat_lit 499,⟨.type "function", none,(.func (PySem.W.fnOf "_law_mark" "_law_mark" (qh (top 53)) (qg (top 53)) (qc (top 53)) (.none) (.none) (.none) (.str "law_markwords_k33_worths_in_registers" 821) none (.ref 498) (.none))), #[]⟩) ::
(nat_lit 500,⟨.type "tuple", none,(.seq #[] 0), #[]⟩) ::
(nat_lit 502,⟨.type "tuple", none,(.seq #[.str "laying" 870, .str "kind" 871] 0), #[]⟩) ::
(nat_lit 503,⟨.type "tuple", none,(.seq #[] 0), #[]⟩) ::
(nat_lit 505,⟨.type "code", none,(.fields #[.str "_law_load" 867, .str "_law_load" 868, .str "/claim/cut.py" 869, .int (319) 0, .int (2) 0, .int (0) 0, .int (0) 0, .int (3) 0, .ref 500, .bool true, .int (181) 0, .ref 501, .none, .ref 502, .ref 503, .ref 504, .int (872) 0, .int (319) 0, .str "/claim/cut.py" 873]), #[]⟩) ::
(nat_lit 506,⟨.type "function", none,(.func (PySem.W.fnOf "_law_load" "_law_load" (qh (top 54)) (qg (top 54)) (qc (top 54)) (.none) (.none) (.none) (.str "law_markwords_k33_worths_in_registers" 821) none (.ref 505) (.none))), #[]⟩) ::
(nat_lit 514,⟨.type "tuple", none,(.seq #[] 0), #[]⟩) ::
(nat_lit 516,⟨.type "tuple", none,(.seq #[.str "found" 887, .str "due" 888] 0), #[]⟩) ::
(nat_lit 517,⟨.type "tuple", none,(.seq #[] 0), #[]⟩) ::
(nat_lit 519,⟨.type "code", none,(.fields #[.str "_law_alike" 884, .str "_law_alike" 885, .str "/claim/cut.py" 886, .int (324) 0, .int (2) 0, .int (0) 0, .int (0) 0, .int (3) 0, .ref 514, .bool true, .int (181) 0, .ref 515, .none, .ref 516, .ref 517, .ref 518, .int (889) 0, .int (324) 0, .str "/claim/cut.py" 890]), #[]⟩) ::
(nat_lit 520,⟨.type "function", none,(.func (PySem.W.fnOf "_law_alike" "_law_alike" (qh (top 56)) (qg (top 56)) (qc (top 56)) (.none) (.none) (.none) (.str "law_markwords_k33_worths_in_registers" 821) none (.ref 519) (.none))), #[]⟩) ::
(nat_lit 521,⟨.type "tuple", none,(.seq #[] 0), #[]⟩) ::
(nat_lit 523,⟨.type "tuple", none,(.seq #[.str "bag" 895, .str "laying" 896, .str "kind" 897, .str "half" 898, .str "some" 899] 0), #[]⟩) ::
(nat_lit 524,⟨.type "tuple", none,(.seq #[] 0), #[]⟩) ::
(nat_lit 526,⟨.type "code", none,(.fields #[.str "_law_worth_drawn" 892, .str "_law_worth_drawn" 893, .str "/claim/cut.py" 894, .int (326) 0, .int (2) 0, .int (0) 0, .int (0) 0, .int (3) 0, .ref 521, .bool true, .int (181) 0, .ref 522, .none, .ref 523, .ref 524, .ref 525, .int (900) 0, .int (326) 0, .str "/claim/cut.py" 901]), #[]⟩) ::
(nat_lit 527,⟨.type "function", none,(.func (PySem.W.fnOf "_law_worth_drawn" "_law_worth_drawn" (qh (top 57)) (qg (top 57)) (qc (top 57)) (.none) (.none) (.none) (.str "law_markwords_k33_worths_in_registers" 821) none (.ref 526) (.none))), #[]⟩) ::
(nat_lit 528,⟨.type "tuple", none,(.seq #[] 0), #[]⟩) ::
(nat_lit 530,⟨.type "tuple", none,(.seq #[.str "laying" 906, .str "worth" 907, .str "kind" 908, .str "name" 909, .str "width" 910, .str "pattern" 911, .str "load" 912] 0), #[]⟩) ::
(nat_lit 531,⟨.type "tuple", none,(.seq #[] 0), #[]⟩) ::
(nat_lit 533,⟨.type "code", none,(.fields #[.str "_law_word" 903, .str "_law_word" 904, .str "/claim/cut.py" 905, .int (335) 0, .int (2) 0, .int (0) 0, .int (0) 0, .int (3) 0, .ref 528, .bool true, .int (181) 0, .ref 529, .none, .ref 530, .ref 531, .ref 532, .int (913) 0, .int (335) 0, .str "/claim/cut.py" 914]), #[]⟩) ::
(nat_lit 534,⟨.type "function", none,(.func (PySem.W.fnOf "_law_word" "_law_word" (qh (top 58)) (qg (top 58)) (qc (top 58)) (.none) (.none) (.none) (.str "law_markwords_k33_worths_in_registers" 821) none (.ref 533) (.none))), #[]⟩) ::
(nat_lit 535,⟨.type "tuple", none,(.seq #[] 0), #[]⟩) ::
(nat_lit 537,⟨.type "tuple", none,(.seq #[.str "worth" 919] 0), #[]⟩) ::
(nat_lit 538,⟨.type "tuple", none,(.seq #[] 0), #[]⟩) ::
(nat_lit 540,⟨.type "code", none,(.fields #[.str "_law_kind" 916, .str "_law_kind" 917, .str "/claim/cut.py" 918, .int (344) 0, .int (1) 0, .int (0) 0, .int (0) 0, .int (3) 0, .ref 535, .bool true, .int (181) 0, .ref 536, .none, .ref 537, .ref 538, .ref 539, .int (920) 0, .int (344) 0, .str "/claim/cut.py" 921]), #[]⟩) ::
(nat_lit 541,⟨.type "function", none,(.func (PySem.W.fnOf "_law_kind" "_law_kind" (qh (top 59)) (qg (top 59)) (qc (top 59)) (.none) (.none) (.none) (.str "law_markwords_k33_worths_in_registers" 821) none (.ref 540) (.none))), #[]⟩) ::
(nat_lit 542,⟨.type "tuple", none,(.seq #[] 0), #[]⟩) ::
(nat_lit 544,⟨.type "tuple", none,(.seq #[.str "store" 926, .str "r" 927, .str "worth" 928] 0), #[]⟩) ::
(nat_lit 545,⟨.type "tuple", none,(.seq #[] 0), #[]⟩) ::
(nat_lit 547,⟨.type "code", none,(.fields #[.str "_law_put" 923, .str "_law_put" 924, .str "/claim/cut.py" 925, .int (346) 0, .int (3) 0, .int (0) 0, .int (0) 0, .int (3) 0, .ref 542, .bool true, .int (181) 0, .ref 543, .none, .ref 544, .ref 545, .ref 546, .int (929) 0, .int (346) 0, .str "/claim/cut.py" 930]), #[]⟩) ::
(nat_lit 548,⟨.type "function", none,(.func (PySem.W.fnOf "_law_put" "_law_put" (qh (top 60)) (qg (top 60)) (qc (top 60)) (.none) (.none) (.none) (.str "law_markwords_k33_worths_in_registers" 821) none (.ref 547) (.none))), #[]⟩) ::
(nat_lit 549,⟨.type "tuple", none,(.seq #[] 0), #[]⟩) ::
(nat_lit 551,⟨.type "tuple", none,(.seq #[.str "store" 935, .str "q" 936, .str "p" 937, .str "found" 938, .str "e" 939] 0), #[]⟩) ::
(nat_lit 552,⟨.type "tuple", none,(.seq #[] 0), #[]⟩) ::
(nat_lit 554,⟨.type "code", none,(.fields #[.str "_law_below" 932, .str "_law_below" 933, .str "/claim/cut.py" 934, .int (353) 0, .int (3) 0, .int (0) 0, .int (0) 0, .int (3) 0, .ref 549, .bool true, .int (181) 0, .ref 550, .none, .ref 551, .ref 552, .ref 553, .int (940) 0, .int (353) 0, .str "/claim/cut.py" 941]), #[]⟩) ::
(nat_lit 555,⟨.type "function", none,(.func (PySem.W.fnOf "_law_below" "_law_below" (qh (top 61)) (qg (top 61)) (qc (top 61)) (.none) (.none) (.none) (.str "law_markwords_k33_worths_in_registers" 821) none (.ref 554) (.none))), #[]⟩) ::
(nat_lit 556,⟨.type "tuple", none,(.seq #[] 0), #[]⟩) ::
(nat_lit 558,⟨.type "tuple", none,(.seq #[.str "held" 946, .str "q" 947, .str "p" 948, .str "part" 949, .str "at" 950] 0), #[]⟩) ::
(nat_lit 559,⟨.type "tuple", none,(.seq #[] 0), #[]⟩) ::
(nat_lit 561,⟨.type "code", none,(.fields #[.str "_law_below_due" 943, .str "_law_below_due" 944, .str "/claim/cut.py" 945, .int (360) 0, .int (3) 0, .int (0) 0, .int (0) 0, .int (3) 0, .ref 556, .bool true, .int (181) 0, .ref 557, .none, .ref 558, .ref 559, .ref 560, .int (951) 0, .int (360) 0, .str "/claim/cut.py" 952]), #[]⟩) ::
(nat_lit 562,⟨.type "function", none,(.func (PySem.W.fnOf "_law_below_due" "_law_below_due" (qh (top 62)) (qg (top 62)) (qc (top 62)) (.none) (.none) (.none) (.str "law_markwords_k33_worths_in_registers" 821) none (.ref 561) (.none))), #[]⟩) ::
(nat_lit 563,⟨.type "tuple", none,(.seq #[] 0), #[]⟩) ::
(nat_lit 566,⟨.type "code", none,(.fields #[.str "_law_right" 954, .str "_law_right" 955, .str "/claim/cut.py" 956, .int (365) 0, .int (4) 0, .int (0) 0, .int (0) 0, .int (3) 0, .ref 563, .bool true, .int (181) 0, .ref 564, .none, .none, .none, .ref 565, .int (957) 0, .int (365) 0, .str "/claim/cut.py" 958]), #[]⟩) ::
(nat_lit 567,⟨.type "function", none,(.func (PySem.W.fnOf "_law_right" "_law_right" (qh (top 63)) (qg (top 63)) (qc (top 63)) (.none) (.none) (.none) (.str "law_markwords_k33_worths_in_registers" 821) none (.ref 566) (.none))), #[]⟩) ::
(nat_lit 568,⟨.type "tuple", none,(.seq #[] 0), #[]⟩) ::
(nat_lit 570,⟨.type "tuple", none,(.seq #[.str "script" 963, .str "bag" 964, .str "laying" 965, .str "store" 966, .str "held" 967, .str "k" 968, .str "r" 969, .str "q" 970] 0), #[]⟩) ::
(nat_lit 571,⟨.type "tuple", none,(.seq #[] 0), #[]⟩) ::
(nat_lit 573,⟨.type "code", none,(.fields #[.str "law" 960, .str "law" 961, .str "/claim/cut.py" 962, .int (378) 0, .int (1) 0, .int (0) 0, .int (0) 0, .int (3) 0, .ref 568, .bool true, .int (181) 0, .ref 569, .none, .ref 570, .ref 571, .ref 572, .int (971) 0, .int (378) 0, .str "/claim/cut.py" 972]), #[]⟩) ::
(nat_lit 574,⟨.type "function", none,(.func (PySem.W.fnOf "law" "law" (qh (top 64)) (qg (top 64)) (qc (top 64)) (.none) (.none) (.none) (.str "law_markwords_k33_worths_in_registers" 821) none (.ref 573) (.none))), #[]⟩) ::
[]
def KA:List Addr:=[2,3,15,17,18,20,21,22,29,30,31,32,35,42,44,45,47,48,49,50,51,54,61,62,63,66,69,70,71,73,74,76,77,78,81,82,83,85,86,88,89,90,92,93,95,96,97,99,100,102,103,104,106,107,109,110,111,113,114,116,117,118,120,121,123,124,125,127,128,130,131,132,134,135,137,138,139,140,142,143,145,146,147,149,150,152,153,154,156,157,159,160,161,163,164,166,167,168,170,171,173,174,175,177,178,180,181,182,184,185,187,188,189,191,192,194,195,196,198,199,201,202,203,205,206,208,209,210,212,213,215,216,217,219,220,222,223,224,226,227,229,230,231,234,235,236,239,240,241,242,244,245,247,248,249,251,252,254,255,263,265,266,268,269,270,272,273,275,276,277,279,280,282,283,284,286,287,289,290,291,293,294,296,297,298,300,301,303,304,305,307,308,310,311,312,314,315,317,318,319,321,322,324,325,326,328,329,331,332,333,335,336,338,339,340,342,343,345,346,347,349,350,352,353,354,356,357,359,360,361,363,364,366,367,368,370,371,373,374,375,377,378,380,381,382,384,385,387,388,389,391,392,394,395,396,398,399,401,402,403,405,406,408,409,410,412,413,415,416,417,419,420,422,423,424,426,427,429,430,431,433,434,436,437,438,440,441,443,444,445,447,448,450,451,452,454,455,457,458,459,460,461,462,463,466,469,470,471,473,474,476,477,478,481,482,483,486,487,495,498,499,500,502,503,505,506,514,516,517,519,520,521,523,524,526,527,528,530,531,533,534,535,537,538,540,541,542,544,545,547,548,549,551,552,554,555,556,558,559,561,562,563,566,567,568,570,571,573,574]
theorem K_as:∀ P,KA = (K P).map (·.1):=fun _ => by kernel_rfl
noncomputable def vw:Program:=PySem.W.view PySem.Challenge.pw_markwords_k33_worths_in_registers [0,2,3,4,6,7,8,9,11,12,13,14,15,16,17,19,20,21,23,24,25,26,27,28,29,30,31,33,34,35,37,38,39,40,41,43,44,45,46,48,49,50,51,52,53,54,55,56,57,58,59,60,61,62,63,64]
def ls:List Str:=["KINDS_BY_MARK"]
def lv:List (Str × WData):=[]
noncomputable def Xt (s:Shared):Bool:=xlAt vw lv s && recOk (RowW.records (OpenRow.toRowW (OpenLaw.row PySem.Challenge.rw_markwords_k33_worths_in_registers))) s
noncomputable def LfA (w:World) (os:OsState):=(Hd.topT treeTable PySem.Challenge.pw_markwords_k33_worths_in_registers w 11 (some (.ref 6)) 6878 (Hd.S0 w os) (topStub PySem.Challenge.pw_markwords_k33_worths_in_registers)).map (fun s => staticsOk (importedModules PySem.Challenge.pw_markwords_k33_worths_in_registers.main.body) (boot_heap w.params) s.abs.heap && namesBound PySem.Challenge.pw_markwords_k33_worths_in_registers s.abs.heap && gensDone s.abs && laidKept (boot_heap w.params) s.abs.heap)
noncomputable def RtA (w:World) (_:OsState):=some true
theorem LfA_is:LfA = LfA:=rfl
theorem RtA_is:RtA = RtA:=rfl
name_quick MwLAq for LfA by LfA_is
theorem run0A (w:World):(fun os => LfA (World.withFollow w "special-get-raises" false) os) = fun os => RtA (World.withFollow w "special-get-raises" false) os :=
 (congrFun PySem.W.Fast.MwLAq_eq (World.withFollow w "special-get-raises" false)).trans (by kernel_rfl:PySem.W.Fast.MwLAq (World.withFollow w "special-get-raises" false) = fun os => RtA (World.withFollow w "special-get-raises" false) os)
theorem run1A (w:World):(fun os => LfA (World.withFollow w "special-get-raises" true) os) = fun os => RtA (World.withFollow w "special-get-raises" true) os :=
 (congrFun PySem.W.Fast.MwLAq_eq (World.withFollow w "special-get-raises" true)).trans (by kernel_rfl:PySem.W.Fast.MwLAq (World.withFollow w "special-get-raises" true) = fun os => RtA (World.withFollow w "special-get-raises" true) os)
theorem runA (w:World):(fun os => LfA w os) = fun os => RtA w os:=byRow2 "special-get-raises" (P:=fun w => (fun os => LfA w os) = fun os => RtA w os) run0A run1A w
noncomputable def LfB (w:World) (os:OsState):=(Hd.topT treeTable PySem.Challenge.pw_markwords_k33_worths_in_registers w 11 (some (.ref 6)) 6878 (Hd.S0 w os) (topStub PySem.Challenge.pw_markwords_k33_worths_in_registers)).map (fun s => ((openSeen vw ls (importedModules PySem.Challenge.pw_markwords_k33_worths_in_registers.main.body) Xt true s.abs).1,(openSeen vw ls (importedModules PySem.Challenge.pw_markwords_k33_worths_in_registers.main.body) Xt true s.abs).2.1,(openSeen vw ls (importedModules PySem.Challenge.pw_markwords_k33_worths_in_registers.main.body) Xt true s.abs).2.2.1,(openSeen vw ls (importedModules PySem.Challenge.pw_markwords_k33_worths_in_registers.main.body) Xt true s.abs).2.2.2.1))
noncomputable def RtB (w:World) (_:OsState):=some ((openGood vw ls).1,(openGood vw ls).2.1,(openGood vw ls).2.2.1,(openGood vw ls).2.2.2.1)
theorem LfB_is:LfB = LfB:=rfl
theorem RtB_is:RtB = RtB:=rfl
name_quick MwLBq for LfB by LfB_is
name_quick MwRBq for RtB by RtB_is
theorem run0B (w:World):(fun os => LfB (World.withFollow w "special-get-raises" false) os) = fun os => RtB (World.withFollow w "special-get-raises" false) os :=
 (congrFun PySem.W.Fast.MwLBq_eq (World.withFollow w "special-get-raises" false)).trans (Eq.trans (by kernel_rfl:PySem.W.Fast.MwLBq (World.withFollow w "special-get-raises" false) = PySem.W.Fast.MwRBq (World.withFollow w "special-get-raises" false)) (congrFun PySem.W.Fast.MwRBq_eq (World.withFollow w "special-get-raises" false)).symm)
theorem run1B (w:World):(fun os => LfB (World.withFollow w "special-get-raises" true) os) = fun os => RtB (World.withFollow w "special-get-raises" true) os :=
 (congrFun PySem.W.Fast.MwLBq_eq (World.withFollow w "special-get-raises" true)).trans (Eq.trans (by kernel_rfl:PySem.W.Fast.MwLBq (World.withFollow w "special-get-raises" true) = PySem.W.Fast.MwRBq (World.withFollow w "special-get-raises" true)) (congrFun PySem.W.Fast.MwRBq_eq (World.withFollow w "special-get-raises" true)).symm)
theorem runB (w:World):(fun os => LfB w os) = fun os => RtB w os:=byRow2 "special-get-raises" (P:=fun w => (fun os => LfB w os) = fun os => RtB w os) run0B run1B w
noncomputable def LfD (w:World) (os:OsState):=(Hd.topT treeTable PySem.Challenge.pw_markwords_k33_worths_in_registers w 11 (some (.ref 6)) 6878 (Hd.S0 w os) (topStub PySem.Challenge.pw_markwords_k33_worths_in_registers)).map (fun s => (openSeen vw ls (importedModules PySem.Challenge.pw_markwords_k33_worths_in_registers.main.body) Xt true s.abs).2.2.2.2)
noncomputable def RtD (w:World) (_:OsState):=some (openGood vw ls).2.2.2.2
theorem LfD_is:LfD = LfD:=rfl
theorem RtD_is:RtD = RtD:=rfl
name_quick MwLDq for LfD by LfD_is
name_quick MwRDq for RtD by RtD_is
theorem run0D (w:World):(fun os => LfD (World.withFollow w "special-get-raises" false) os) = fun os => RtD (World.withFollow w "special-get-raises" false) os :=
 (congrFun PySem.W.Fast.MwLDq_eq (World.withFollow w "special-get-raises" false)).trans (Eq.trans (by kernel_rfl:PySem.W.Fast.MwLDq (World.withFollow w "special-get-raises" false) = PySem.W.Fast.MwRDq (World.withFollow w "special-get-raises" false)) (congrFun PySem.W.Fast.MwRDq_eq (World.withFollow w "special-get-raises" false)).symm)
theorem run1D (w:World):(fun os => LfD (World.withFollow w "special-get-raises" true) os) = fun os => RtD (World.withFollow w "special-get-raises" true) os :=
 (congrFun PySem.W.Fast.MwLDq_eq (World.withFollow w "special-get-raises" true)).trans (Eq.trans (by kernel_rfl:PySem.W.Fast.MwLDq (World.withFollow w "special-get-raises" true) = PySem.W.Fast.MwRDq (World.withFollow w "special-get-raises" true)) (congrFun PySem.W.Fast.MwRDq_eq (World.withFollow w "special-get-raises" true)).symm)
theorem runD (w:World):(fun os => LfD w os) = fun os => RtD w os:=byRow2 "special-get-raises" (P:=fun w => (fun os => LfD w os) = fun os => RtD w os) run0D run1D w
noncomputable def LfC (w:World) (os:OsState):=(Hd.topT treeTable PySem.Challenge.pw_markwords_k33_worths_in_registers w 11 (some (.ref 6)) 6878 (Hd.S0 w os) (topStub PySem.Challenge.pw_markwords_k33_worths_in_registers)).map (fun s => (kHook K KA K_as).obs s.abs)
noncomputable def RtC (w:World) (_:OsState):=some ((kHook K KA K_as).val w)
theorem LfC_is:LfC = LfC:=rfl
theorem RtC_is:RtC = RtC:=rfl
name_quick MwLCq for LfC by LfC_is
name_quick MwRCq for RtC by RtC_is
theorem run0C (w:World):(fun os => LfC (World.withFollow w "special-get-raises" false) os) = fun os => RtC (World.withFollow w "special-get-raises" false) os :=
 (congrFun PySem.W.Fast.MwLCq_eq (World.withFollow w "special-get-raises" false)).trans (Eq.trans (by kernel_rfl:PySem.W.Fast.MwLCq (World.withFollow w "special-get-raises" false) = PySem.W.Fast.MwRCq (World.withFollow w "special-get-raises" false)) (congrFun PySem.W.Fast.MwRCq_eq (World.withFollow w "special-get-raises" false)).symm)
theorem run1C (w:World):(fun os => LfC (World.withFollow w "special-get-raises" true) os) = fun os => RtC (World.withFollow w "special-get-raises" true) os :=
 (congrFun PySem.W.Fast.MwLCq_eq (World.withFollow w "special-get-raises" true)).trans (Eq.trans (by kernel_rfl:PySem.W.Fast.MwLCq (World.withFollow w "special-get-raises" true) = PySem.W.Fast.MwRCq (World.withFollow w "special-get-raises" true)) (congrFun PySem.W.Fast.MwRCq_eq (World.withFollow w "special-get-raises" true)).symm)
theorem runC (w:World):(fun os => LfC w os) = fun os => RtC w os:=byRow2 "special-get-raises" (P:=fun w => (fun os => LfC w os) = fun os => RtC w os) run0C run1C w
theorem LA_eq (w:World) (os:OsState):LfA w os = (Hd.topT treeTable PySem.Challenge.pw_markwords_k33_worths_in_registers w 11 (some (.ref 6)) 6878 (Hd.S0 w os) (topStub PySem.Challenge.pw_markwords_k33_worths_in_registers)).map (fun s => staticsOk (importedModules PySem.Challenge.pw_markwords_k33_worths_in_registers.main.body) (boot_heap w.params) s.abs.heap && namesBound PySem.Challenge.pw_markwords_k33_worths_in_registers s.abs.heap && gensDone s.abs && laidKept (boot_heap w.params) s.abs.heap):=by delta LfA; exact Eq.refl _
theorem RA_eq (w:World) (os:OsState):RtA w os = some true:=by delta RtA; exact Eq.refl _
theorem HA_eq (w:World) (os:OsState):(Hd.topT treeTable PySem.Challenge.pw_markwords_k33_worths_in_registers w 11 (some (.ref 6)) 6878 (Hd.S0 w os) (topStub PySem.Challenge.pw_markwords_k33_worths_in_registers)).map (fun s => staticsOk (importedModules PySem.Challenge.pw_markwords_k33_worths_in_registers.main.body) (boot_heap w.params) s.abs.heap && namesBound PySem.Challenge.pw_markwords_k33_worths_in_registers s.abs.heap && gensDone s.abs && laidKept (boot_heap w.params) s.abs.heap) = some true:=(LA_eq w os).symm.trans ((congrFun (runA w) os).trans (RA_eq w os))
theorem LB_eq (w:World) (os:OsState):LfB w os = (Hd.topT treeTable PySem.Challenge.pw_markwords_k33_worths_in_registers w 11 (some (.ref 6)) 6878 (Hd.S0 w os) (topStub PySem.Challenge.pw_markwords_k33_worths_in_registers)).map (fun s => ((openSeen vw ls (importedModules PySem.Challenge.pw_markwords_k33_worths_in_registers.main.body) Xt true s.abs).1,(openSeen vw ls (importedModules PySem.Challenge.pw_markwords_k33_worths_in_registers.main.body) Xt true s.abs).2.1,(openSeen vw ls (importedModules PySem.Challenge.pw_markwords_k33_worths_in_registers.main.body) Xt true s.abs).2.2.1,(openSeen vw ls (importedModules PySem.Challenge.pw_markwords_k33_worths_in_registers.main.body) Xt true s.abs).2.2.2.1)):=by delta LfB; exact Eq.refl _
theorem RB_eq (w:World) (os:OsState):RtB w os = some ((openGood vw ls).1,(openGood vw ls).2.1,(openGood vw ls).2.2.1,(openGood vw ls).2.2.2.1):=by delta RtB; exact Eq.refl _
theorem HB_eq (w:World) (os:OsState):(Hd.topT treeTable PySem.Challenge.pw_markwords_k33_worths_in_registers w 11 (some (.ref 6)) 6878 (Hd.S0 w os) (topStub PySem.Challenge.pw_markwords_k33_worths_in_registers)).map (fun s => ((openSeen vw ls (importedModules PySem.Challenge.pw_markwords_k33_worths_in_registers.main.body) Xt true s.abs).1,(openSeen vw ls (importedModules PySem.Challenge.pw_markwords_k33_worths_in_registers.main.body) Xt true s.abs).2.1,(openSeen vw ls (importedModules PySem.Challenge.pw_markwords_k33_worths_in_registers.main.body) Xt true s.abs).2.2.1,(openSeen vw ls (importedModules PySem.Challenge.pw_markwords_k33_worths_in_registers.main.body) Xt true s.abs).2.2.2.1)) = some ((openGood vw ls).1,(openGood vw ls).2.1,(openGood vw ls).2.2.1,(openGood vw ls).2.2.2.1):=(LB_eq w os).symm.trans ((congrFun (runB w) os).trans (RB_eq w os))
theorem LD_eq (w:World) (os:OsState):LfD w os = (Hd.topT treeTable PySem.Challenge.pw_markwords_k33_worths_in_registers w 11 (some (.ref 6)) 6878 (Hd.S0 w os) (topStub PySem.Challenge.pw_markwords_k33_worths_in_registers)).map (fun s => (openSeen vw ls (importedModules PySem.Challenge.pw_markwords_k33_worths_in_registers.main.body) Xt true s.abs).2.2.2.2):=by delta LfD; exact Eq.refl _
theorem RD_eq (w:World) (os:OsState):RtD w os = some (openGood vw ls).2.2.2.2:=by delta RtD; exact Eq.refl _
theorem HD_eq (w:World) (os:OsState):(Hd.topT treeTable PySem.Challenge.pw_markwords_k33_worths_in_registers w 11 (some (.ref 6)) 6878 (Hd.S0 w os) (topStub PySem.Challenge.pw_markwords_k33_worths_in_registers)).map (fun s => (openSeen vw ls (importedModules PySem.Challenge.pw_markwords_k33_worths_in_registers.main.body) Xt true s.abs).2.2.2.2) = some (openGood vw ls).2.2.2.2:=(LD_eq w os).symm.trans ((congrFun (runD w) os).trans (RD_eq w os))
theorem LC_eq (w:World) (os:OsState):LfC w os = (Hd.topT treeTable PySem.Challenge.pw_markwords_k33_worths_in_registers w 11 (some (.ref 6)) 6878 (Hd.S0 w os) (topStub PySem.Challenge.pw_markwords_k33_worths_in_registers)).map (fun s => (kHook K KA K_as).obs s.abs):=by delta LfC; exact Eq.refl _
theorem RC_eq (w:World) (os:OsState):RtC w os = some ((kHook K KA K_as).val w):=by delta RtC; exact Eq.refl _
theorem HC_eq (w:World) (os:OsState):(Hd.topT treeTable PySem.Challenge.pw_markwords_k33_worths_in_registers w 11 (some (.ref 6)) 6878 (Hd.S0 w os) (topStub PySem.Challenge.pw_markwords_k33_worths_in_registers)).map (fun s => (kHook K KA K_as).obs s.abs) = some ((kHook K KA K_as).val w):=(LC_eq w os).symm.trans ((congrFun (runC w) os).trans (RC_eq w os))
theorem hLf9:LeftO PySem.Challenge.pw_markwords_k33_worths_in_registers vw ls Xt (kHook K KA K_as).obs (kHook K KA K_as).val 6878 :=
 Hd.left_of4 (M:=6878) (by kernel_rfl) (by decide) (fun _ => by kernel_rfl) (by decide) HA_eq HB_eq HD_eq HC_eq Hd.boot_main
end Mw
open PySem PySem.W PyProof.Rows
set_option maxRecDepth 100000 in
set_option maxHeartbeats 0 in
theorem PySem.Challenge.cw_markwords_k33_worths_in_registers_holds : PySem.Challenge.rw_markwords_k33_worths_in_registers.Holds := by
 w_on; o_law
 refine Hd.close (q:=Mw.vw) (loose:=Mw.ls) (lv:=Mw.lv) (H:=kHook Mw.K Mw.KA Mw.K_as) (N:=6878) Mw.hLf9 (by rfl) (by rfl) (by rfl) (by rfl) (by assumption) (by decide +kernel) ⟨rfl,rfl,rfl,rfl,rfl,by decide +kernel⟩ ?hw ?hc
 case hw => w_witness2
 k_fill
 refine Mw.walk (l:=PySem.Challenge.rw_markwords_k33_worths_in_registers) rfl rfl (fun w h Y => PySem.W.kIn_of Y) ?F
 case F =>
  intro w mg fa h KX G hmg
  refine' Mw.all_mk KX G hmg ?ca1 ?cb1 ?cc1 ?cd1 ?ce1 ?cf1 ?cg1 ?ch1_1 ?ch1_2 ?ch1_3 ?ch1_4 ?ch1_5 ?ch1_6 ?ch1_7 ?xaWk ?xaWordError ?EWk_Wk ?a1 ?l1 ?c1 ?k1 ?a2 ?l2 ?c2 ?k2 ?a3 ?l3 ?c3 ?k3 ?a4 ?l4 ?c4 ?k4 ?a5 ?l5 ?c5 ?k5 ?a6 ?l6 ?c6 ?k6 ?a7 ?l7 ?c7 ?k7 ?a8 ?l8 ?c8 ?k8 ?a9 ?l9 ?c9 ?k9 ?a10 ?l10 ?c10 ?k10 ?a11 ?l11 ?c11 ?k11 ?a12 ?l12 ?c12 ?k12 ?a13 ?l13 ?c13 ?k13 ?a14 ?l14 ?c14 ?k14 ?a15 ?l15 ?c15 ?k15 ?a16 ?l16 ?c16 ?k16 ?a17 ?l17 ?c17 ?k17 ?a18 ?l18 ?c18 ?k18 ?a19 ?k19 ?a20 ?k20 ?a21 ?l21 ?c21 ?k21 ?a22 ?n22 ?l22 ?c22 ?k22 ?a23 ?n23 ?l23 ?c23 ?k23 ?a24 ?n24 ?l24 ?c24 ?k24 ?a25 ?n25 ?l25 ?c25 ?k25 ?a26 ?n26 ?l26 ?c26 ?k26 ?a27 ?n27 ?l27 ?c27 ?k27 ?a28 ?n28 ?l28 ?c28 ?k28 ?a29 ?n29 ?l29 ?c29 ?k29 ?a30 ?n30 ?l30 ?c30 ?k30 ?a31 ?n31 ?l31 ?c31 ?k31 ?a32 ?l32 ?c32 ?k32 ?a33 ?n33 ?l33 ?c33 ?k33 ?a34 ?n34 ?l34 ?c34 ?k34 ?a35 ?l35 ?c35 ?k35 ?a36 ?n36 ?l36 ?c36 ?k36 ?a37 ?l37 ?c37 ?k37 ?a38 ?l38 ?c38 ?k38 ?a39 ?l39 ?c39 ?k39 ?a40 ?l40 ?c40 ?k40 ?a41 ?l41 ?c41 ?k41 ?a42 ?l42 ?c42 ?k42 ?a43 ?l43 ?c43 ?k43 ?a44 ?l44 ?c44 ?k44 ?a45 ?l45 ?c45 ?k45 ?xk1Wk ?xk2Wk ?xk3Wk ?xk4Wk ?xk5Wk ?xk6Wk ?xk7Wk ?xk8Wk ?xb1WordError ?xb2WordError ?xb3WordError ?ynNRepr ?z1 ?z2 ?z3 ?z4 ?z5 ?z6 ?z7 ?z8 ?z9 ?z10 ?z11 ?z12 ?z13 ?z14 ?z15 ?z16 ?z17 ?z18 ?p1 ?q1 ?g1 ?g2 ?kg1 ?kl1
  (case ca1 => k_is)
  (case cb1 => k_is)
  (case cc1 => k_is)
  (case cd1 => k_is)
  (case ce1 => k_is)
  (case cf1 => k_is)
  (case cg1 => k_is)
  (case ch1_1 => k_is)
  (case ch1_2 => k_is)
  (case ch1_3 => k_is)
  (case ch1_4 => k_is)
  (case ch1_5 => k_is)
  (case ch1_6 => k_is)
  (case ch1_7 => k_is)
  (case xaWk => k_is)
  (case xaWordError => k_is)
  (case EWk_Wk => kernel_rfl)
  (case a1 => k_is)
  (case l1 => k_is)
  (case c1 => k_is)
  (case k1 => k_is)
  (case a2 => k_is)
  (case l2 => k_is)
  (case c2 => k_is)
  (case k2 => k_is)
  (case a3 => k_is)
  (case l3 => k_is)
  (case c3 => k_is)
  (case k3 => k_is)
  (case a4 => k_is)
  (case l4 => k_is)
  (case c4 => k_is)
  (case k4 => k_is)
  (case a5 => k_is)
  (case l5 => k_is)
  (case c5 => k_is)
  (case k5 => k_is)
  (case a6 => k_is)
  (case l6 => k_is)
  (case c6 => k_is)
  (case k6 => k_is)
  (case a7 => k_is)
  (case l7 => k_is)
  (case c7 => k_is)
  (case k7 => k_is)
  (case a8 => k_is)
  (case l8 => k_is)
  (case c8 => k_is)
  (case k8 => k_is)
  (case a9 => k_is)
  (case l9 => k_is)
  (case c9 => k_is)
  (case k9 => k_is)
  (case a10 => k_is)
  (case l10 => k_is)
  (case c10 => k_is)
  (case k10 => k_is)
  (case a11 => k_is)
  (case l11 => k_is)
  (case c11 => k_is)
  (case k11 => k_is)
  (case a12 => k_is)
  (case l12 => k_is)
  (case c12 => k_is)
  (case k12 => k_is)
  (case a13 => k_is)
  (case l13 => k_is)
  (case c13 => k_is)
  (case k13 => k_is)
  (case a14 => k_is)
  (case l14 => k_is)
  (case c14 => k_is)
  (case k14 => k_is)
  (case a15 => k_is)
  (case l15 => k_is)
  (case c15 => k_is)
  (case k15 => k_is)
  (case a16 => k_is)
  (case l16 => k_is)
  (case c16 => k_is)
  (case k16 => k_is)
  (case a17 => k_is)
  (case l17 => k_is)
  (case c17 => k_is)
  (case k17 => k_is)
  (case a18 => k_is)
  (case l18 => k_is)
  (case c18 => k_is)
  (case k18 => k_is)
  (case a19 => k_is)
  (case k19 => k_is)
  (case a20 => k_is)
  (case k20 => k_is)
  (case a21 => k_is)
  (case l21 => k_is)
  (case c21 => k_is)
  (case k21 => k_is)
  (case a22 => k_is)
  (case n22 => k_is)
  (case l22 => k_is)
  (case c22 => k_is)
  (case k22 => k_is)
  (case a23 => k_is)
  (case n23 => k_is)
  (case l23 => k_is)
  (case c23 => k_is)
  (case k23 => k_is)
  (case a24 => k_is)
  (case n24 => k_is)
  (case l24 => k_is)
  (case c24 => k_is)
  (case k24 => k_is)
  (case a25 => k_is)
  (case n25 => k_is)
  (case l25 => k_is)
  (case c25 => k_is)
  (case k25 => k_is)
  (case a26 => k_is)
  (case n26 => k_is)
  (case l26 => k_is)
  (case c26 => k_is)
  (case k26 => k_is)
  (case a27 => k_is)
  (case n27 => k_is)
  (case l27 => k_is)
  (case c27 => k_is)
  (case k27 => k_is)
  (case a28 => k_is)
  (case n28 => k_is)
  (case l28 => k_is)
  (case c28 => k_is)
  (case k28 => k_is)
  (case a29 => k_is)
  (case n29 => k_is)
  (case l29 => k_is)
  (case c29 => k_is)
  (case k29 => k_is)
  (case a30 => k_is)
  (case n30 => k_is)
  (case l30 => k_is)
  (case c30 => k_is)
  (case k30 => k_is)
  (case a31 => k_is)
  (case n31 => k_is)
  (case l31 => k_is)
  (case c31 => k_is)
  (case k31 => k_is)
  (case a32 => k_is)
  (case l32 => k_is)
  (case c32 => k_is)
  (case k32 => k_is)
  (case a33 => k_is)
  (case n33 => k_is)
  (case l33 => k_is)
  (case c33 => k_is)
  (case k33 => k_is)
  (case a34 => k_is)
  (case n34 => k_is)
  (case l34 => k_is)
  (case c34 => k_is)
  (case k34 => k_is)
  (case a35 => k_is)
  (case l35 => k_is)
  (case c35 => k_is)
  (case k35 => k_is)
  (case a36 => k_is)
  (case n36 => k_is)
  (case l36 => k_is)
  (case c36 => k_is)
  (case k36 => k_is)
  (case a37 => k_is)
  (case l37 => k_is)
  (case c37 => k_is)
  (case k37 => k_is)
  (case a38 => k_is)
  (case l38 => k_is)
  (case c38 => k_is)
  (case k38 => k_is)
  (case a39 => k_is)
  (case l39 => k_is)
  (case c39 => k_is)
  (case k39 => k_is)
  (case a40 => k_is)
  (case l40 => k_is)
  (case c40 => k_is)
  (case k40 => k_is)
  (case a41 => k_is)
  (case l41 => k_is)
  (case c41 => k_is)
  (case k41 => k_is)
  (case a42 => k_is)
  (case l42 => k_is)
  (case c42 => k_is)
  (case k42 => k_is)
  (case a43 => k_is)
  (case l43 => k_is)
  (case c43 => k_is)
  (case k43 => k_is)
  (case a44 => k_is)
  (case l44 => k_is)
  (case c44 => k_is)
  (case k44 => k_is)
  (case a45 => k_is)
  (case l45 => k_is)
  (case c45 => k_is)
  (case k45 => k_is)
  (case xk1Wk => kernel_rfl)
  (case xk2Wk => kernel_rfl)
  (case xk3Wk => kernel_rfl)
  (case xk4Wk => kernel_rfl)
  (case xk5Wk => kernel_rfl)
  (case xk6Wk => kernel_rfl)
  (case xk7Wk => kernel_rfl)
  (case xk8Wk => kernel_rfl)
  (case xb1WordError => kernel_rfl)
  (case xb2WordError => kernel_rfl)
  (case xb3WordError => kernel_rfl)
  (case ynNRepr => k_is)
  (case z1 => k_is)
  (case z2 => k_is)
  (case z3 => k_is)
  (case z4 => k_is)
  (case z5 => k_is)
  (case z6 => k_is)
  (case z7 => k_is)
  (case z8 => k_is)
  (case z9 => k_is)
  (case z10 => k_is)
  (case z11 => k_is)
  (case z12 => k_is)
  (case z13 => k_is)
  (case z14 => k_is)
  (case z15 => k_is)
  (case z16 => k_is)
  (case z17 => k_is)
  (case z18 => k_is)
  (case p1 => k_is)
  (case q1 => k_is)
  (case g1 => k_is)
  (case g2 => k_is)
  (case kg1 => k_is)
  (case kl1 => k_is)
