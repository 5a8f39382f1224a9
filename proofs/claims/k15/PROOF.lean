import PyProof.Rows.All
import Wide.All
import OpenK.AllK
import Wide.FinOn
import Lean
import PyProof.EqAt
import PyProof.EqKinds
import PyProof.TupleCall
import PySem.Challenge.RW_hoopcord_k15_what_rings_add
set_option Elab.async false
set_option linter.all false
set_option maxRecDepth 100000
set_option maxHeartbeats 8000000
namespace L2
open PySem PySem.Spec PyProof.Rows
abbrev Key := Sum Int Str
def keyIs : Key -> Value -> Bool
 | .inl k, v => Value.isInt k v
 | .inr x, v => Value.isStrOf x v
def keyH (w : World) : Key -> Int
 | .inl k => hashInt k
 | .inr x => hashStr w x
theorem keyIs_shape : ∀ {k : Key} {v : Value}, keyIs k v = true -> (∃ i t, k = Sum.inl i /\ v = Value.int i t) ∨ (∃ x t, k = Sum.inr x /\ v = Value.str x t)
 | .inl i, v, h => by
   obtain ⟨t, e⟩ := Value.isInt_shape (k := i) (v := v) h
   exact .inl ⟨i, t, rfl, e⟩
 | .inr x, v, h => by
   obtain ⟨t, e⟩ := Value.isStrOf_shape (x := x) (v := v) h
   exact .inr ⟨x, t, rfl, e⟩
theorem keyIs_int (i : Int) (t : Tok) : keyIs (.inl i) (.int i t) = true := by simp [keyIs, Value.isInt]
theorem keyIs_str (x : Str) (t : Tok) : keyIs (.inr x) (.str x t) = true := by simp [keyIs, Value.isStrOf]
theorem key_ll (a b : Int) : decide ((Sum.inl a : Key) = Sum.inl b) = (a == b) := by
 by_cases e : a = b
 · subst e; simp
 · have h : ¬ (Sum.inl a : Key) = Sum.inl b := fun q => e (Sum.inl.inj q)
   rw [decide_eq_false h]
   exact (beq_eq_false_iff_ne.mpr e).symm
theorem key_rr (a b : Str) : decide ((Sum.inr a : Key) = Sum.inr b) = decide (a = b) := by
 by_cases e : a = b
 · subst e; simp
 · have h : ¬ (Sum.inr a : Key) = Sum.inr b := fun q => e (Sum.inr.inj q)
   rw [decide_eq_false h, decide_eq_false e]
theorem key_lr (a : Int) (b : Str) : decide ((Sum.inl a : Key) = Sum.inr b) = false := decide_eq_false (fun q => nomatch q)
theorem key_rl (a : Str) (b : Int) : decide ((Sum.inr a : Key) = Sum.inl b) = false := decide_eq_false (fun q => nomatch q)
def mixKind (prog : Program) (w : World) : PySem.KeyKind prog w Key where
 is := keyIs
 hash := keyH w
 inj := fun v a b ha hb => by
   rcases keyIs_shape ha with ⟨i, t, rfl, rfl⟩ | ⟨x, t, rfl, rfl⟩
   · rcases keyIs_shape hb with ⟨j, u, rfl, e⟩ | ⟨y, u, rfl, e⟩
     · injection e with e1 _; rw [e1]
     · exact nomatch e
   · rcases keyIs_shape hb with ⟨j, u, rfl, e⟩ | ⟨y, u, rfl, e⟩
     · exact nomatch e
     · injection e with e1 _; rw [e1]
 byValue := fun k v h => by
   rcases keyIs_shape h with ⟨i, t, rfl, rfl⟩ | ⟨x, t, rfl, rfl⟩ <;> rfl
 pyHash := fun hv h => by
   rcases keyIs_shape hv with ⟨i, t, rfl, rfl⟩ | ⟨x, t, rfl, rfl⟩
   · exact wpAny_pyHash_int h
   · exact wpAny_pyHash_str h
 eqBool := fun hu hv h => by
   rcases keyIs_shape hu with ⟨i, t, rfl, rfl⟩ | ⟨x, t, rfl, rfl⟩
   · rcases keyIs_shape hv with ⟨j, u, rfl, rfl⟩ | ⟨y, u, rfl, rfl⟩
     · rw [key_ll] at h; exact wpAny_eqBool_int h
     · rw [key_lr] at h; exact SeqAt.EqAt.int_str i t y u _ _ _ _ h
   · rcases keyIs_shape hv with ⟨j, u, rfl, rfl⟩ | ⟨y, u, rfl, rfl⟩
     · rw [key_rl] at h; exact SeqAt.EqAt.str_int x t j u _ _ _ _ h
     · rw [key_rr] at h; exact wpAny_eqBool_str h
 «strs» := fun k x t v h => by
   rcases keyIs_shape h with ⟨i, u, rfl, e⟩ | ⟨y, u, rfl, e⟩
   · exact nomatch e
   · injection e with e1 _
     subst e1
     cases v <;> rfl
theorem mixKind_is (prog : Program) (w : World) (k : Key) (v : Value) : (mixKind prog w).is k v = keyIs k v := rfl
theorem mixKind_int (prog : Program) (w : World) (i : Int) (t : Tok) : (mixKind prog w).is (.inl i) (.int i t) = true := keyIs_int i t
theorem mixKind_str (prog : Program) (w : World) (x : Str) (t : Tok) : (mixKind prog w).is (.inr x) (.str x t) = true := keyIs_str x t
end L2
namespace L2
open PySem PySem.Spec PyProof.Rows
inductive V where
 | non | bl (b : Bool) | int (i : Int) | str (x : Str) | byt (b : Array UInt8) | flt (b : UInt64) | ref (a : Addr) | ty (n : String)
 deriving DecidableEq
def RelV : V -> Value -> Prop
 | .non, u => u = Value.none
 | .bl b, u => u = Value.bool b
 | .int i, u => ∃ t, u = Value.int i t
 | .str x, u => ∃ t, u = Value.str x t
 | .byt b, u => ∃ t, u = Value.bytes b t
 | .flt b, u => ∃ t, u = Value.float b t
 | .ref a, u => u = Value.ref a
 | .ty n, u => u = Value.type n
abbrev Vals : List V -> List Value -> Prop := Paired RelV
theorem Vals.length {xs : List V} {us : List Value} (r : Vals xs us) : xs.length = us.length := Paired.length r
theorem Vals.get : ∀ {xs : List V} {us : List Value} {i : Nat} {x : V}, Vals xs us -> xs[i]? = some x -> ∃ u, us[i]? = some u /\ RelV x u
 | _, _, _, _, .nil, e => by simp at e
 | _, _, 0, _, .cons r _, e => by simp at e; subst e; exact ⟨_, rfl, r⟩
 | _, _, i + 1, x, .cons _ t, e => by
   obtain ⟨u, h1, h2⟩ := Vals.get (i := i) (x := x) t (by simpa using e)
   exact ⟨u, by simpa using h1, h2⟩
theorem Vals.set {x : V} {u : Value} (r : RelV x u) : ∀ {xs : List V} {us : List Value} (i : Nat), Vals xs us -> Vals (xs.set i x) (us.set i u)
 | _, _, _, .nil => .nil
 | _, _, 0, .cons _ t => .cons r t
 | _, _, i + 1, .cons q t => .cons q (Vals.set r i t)
theorem Vals.append : ∀ {xs ys : List V} {us ws : List Value}, Vals xs us -> Vals ys ws -> Vals (xs ++ ys) (us ++ ws)
 | _, _, _, _, .nil, s => s
 | _, _, _, _, .cons r t, s => .cons r (Vals.append t s)
theorem Vals.take : ∀ {xs : List V} {us : List Value} (n : Nat), Vals xs us -> Vals (xs.take n) (us.take n)
 | _, _, 0, _ => .nil
 | _, _, _ + 1, .nil => .nil
 | _, _, n + 1, .cons r t => .cons r (Vals.take n t)
theorem Vals.drop : ∀ {xs : List V} {us : List Value} (n : Nat), Vals xs us -> Vals (xs.drop n) (us.drop n)
 | _, _, 0, r => r
 | _, _, _ + 1, .nil => .nil
 | _, _, n + 1, .cons _ t => Vals.drop n t
theorem Vals.none_of : ∀ {xs : List V} {us : List Value} {i : Nat}, Vals xs us -> xs[i]? = none -> us[i]? = none := fun {xs us i} r e => by
 have h1 := r.length
 have h2 : xs.length <= i := List.getElem?_eq_none_iff.mp e
 exact List.getElem?_eq_none_iff.mpr (by omega)
def RelO : Option V -> Option Value -> Prop
 | some v, some u => RelV v u
 | none, none => True
 | _, _ => False
def KV {κ : Type} : List (κ × V) -> List (κ × Value) -> Prop := Paired fun (p : κ × V) (q : κ × Value) => p.1 = q.1 /\ RelV p.2 q.2
def kV : Key -> V
 | .inl i => .int i
 | .inr x => .str x
inductive HO where
 | lst (xs : List V)
 | tup (xs : List V)
 | dK (kvs : List (Key × V)) | dT (kvs : List (List Key × V))
 | set (S : Int -> Bool) (n : Nat)
 | ins (C dx : Addr) (fs : List (Str × V))
 | own (x : Addr)
 | xd (fs : List (Str × V))
 | met (f x : Addr)
 | rng (lo hi : Int)
 | frz (o : Obj) (u : HO)
 | tbl (ps : Array Value)
 | ext (φ : Heap -> Prop)
abbrev Hp := Addr -> Option HO
def upd (H : Hp) (a : Addr) (o : HO) : Hp := fun b => if b = a then some o else H b
theorem upd_same {H : Hp} {a : Addr} {o : HO} : upd H a o a = some o := by unfold upd; rw [if_pos rfl]
theorem upd_ne {H : Hp} {a b : Addr} {o : HO} (h : b ≠ a) : upd H a o b = H b := by unfold upd; rw [if_neg h]
theorem upd_upd {H : Hp} {a : Addr} {o u : HO} : upd (upd H a o) a u = upd H a u := by
 funext b; unfold upd; split <;> rfl
theorem ne_of {H : Hp} {a b : Addr} {o u : HO} (h : H a = some o) (h' : H b = some u) (d : o ≠ u) : a ≠ b := by
 intro e; subst e; rw [h] at h'; exact d (Option.some.inj h')
theorem ne_of_none {H : Hp} {a b : Addr} {o : HO} (h : H a = some o) (h' : H b = none) : a ≠ b := by
 intro e; subst e; rw [h] at h'; cases h'
section
variable (P : Program) (w : World)
def ObjOk (H : Hp) (h : Heap) (a : Addr) : HO -> Prop
 | .lst xs => xs.length <= sizeLine /\ ∃ (its : List Value) (n : Nat), Vals xs its /\ h.get? a = some { cls := .type "list", data := .seq its.toArray n }
 | .tup xs => xs.length <= sizeLine /\ ∃ its : List Value, Vals xs its /\ IsTup h a its.toArray
 | .dK kvs => kvs.length <= sizeLine /\ (a == sysModules) = false /\ ∃ vs, KV kvs vs /\ h.DictOf (mixKind P w) a vs
 | .dT kvs => kvs.length <= sizeLine /\ (a == sysModules) = false /\ ∃ xs : List (List Key × Addr × Value),
     Paired (fun (p : List Key × V) (q : List Key × Addr × Value) => p.1 = q.1 /\ H q.2.1 = some (.tup (p.1.map kV)) /\ RelV p.2 q.2.2) kvs xs /\
     ∃ o es ep, h.get? a = some o /\ o.ExactDict /\ o.data = .dict es ep /\ es.toList = xs.map (entryOfKey (tupleKind (mixKind P w))) /\ (xs.map (·.1)).Nodup
 | .set S n => h.SetOf (intKind P w) a S n
 | .ins C dx fs => H dx = some (.own a) /\ fs.length <= 1000 /\ dx ≠ a /\ h.get? a = some (PySem.W.instObj C dx) /\
     ∃ mA, h.Ns1 dx mA /\ (∀ f, RelO (fs.lookup f) (mA f)) /\ PySem.Within mA (fs.map (·.1))
 | .own _ => ∃ o, h.get? a = some o
 | .xd fs => ∃ mA, h.Ns1 a mA /\ ∀ f, RelO (fs.lookup f) (mA f)
 | .rng lo hi => ∃ t u v, h.get? a = some { cls := .type "range", data := .fields #[.int lo t, .int hi u, .int 1 v] }
 | .frz o u => h.get? a = some o /\ ObjOk H h a u
 | .tbl ps => h.get? a = some { cls := .none, data := .fields ps }
 | .met f x => h.get? a = some (PySem.W.methodObj (.ref f) (.ref x))
 | .ext φ => φ h /\ (∃ o, h.get? a = some o) /\ ∀ h1 h2 : Heap, φ h1 -> (∀ o, h1.get? a = some o -> h2.get? a = some o) -> φ h2
def HOk (H : Hp) (h : Heap) : Prop := ∀ a o, H a = some o -> ObjOk P w H h a o
end
section
variable {P : Program} {w : World} {H H' : Hp} {h h' : Heap} {a : Addr} {o : HO}
theorem ObjOk.lt (x : ObjOk P w H h a o) : a < h.objs.size := by
 cases o with
 | lst xs => obtain ⟨_, _, _, _, e⟩ := x; exact Heap.lt_size e
 | tup xs => obtain ⟨_, _, _, p⟩ := x; exact p.lt
 | dK kvs => obtain ⟨_, _, _, _, o, _, _, e, _⟩ := x; exact Heap.lt_size e
 | dT kvs => obtain ⟨_, _, _, _, o, _, _, e, _⟩ := x; exact Heap.lt_size e
 | set S n => obtain ⟨o, _, _, _, e, _⟩ := x; exact Heap.lt_size e
 | ins C dx fs => obtain ⟨_, _, _, e, _⟩ := x; exact Heap.lt_size e
 | own y => obtain ⟨_, e⟩ := x; exact Heap.lt_size e
 | xd fs => obtain ⟨_, ⟨_, _, _, e, _⟩, _⟩ := x; exact Heap.lt_size e
 | rng lo hi => obtain ⟨_, _, _, e⟩ := x; exact Heap.lt_size e
 | frz ob u => obtain ⟨e, _⟩ := x; exact Heap.lt_size e
 | tbl ps => exact Heap.lt_size (show h.get? a = some _ from x)
 | met f y => exact Heap.lt_size (show h.get? a = some _ from x)
 | ext φ => obtain ⟨_, ⟨_, e⟩, _⟩ := x; exact Heap.lt_size e
theorem Paired.mapP {α β : Type} {F G : α -> β -> Prop} : ∀ {l₁ : List α} {l₂ : List β}, Paired F l₁ l₂ -> (∀ a b, F a b -> G a b) -> Paired G l₁ l₂
 | _, _, .nil, _ => .nil
 | _, _, .cons r t, f => .cons (f _ _ r) (Paired.mapP t f)
theorem Paired.imp' {α β : Type} {F G : α -> β -> Prop} (f : ∀ a b, F a b -> G a b) {l₁ : List α} {l₂ : List β} (r : Paired F l₁ l₂) : Paired G l₁ l₂ := Paired.mapP r f
theorem ObjOk.stay (x : ObjOk P w H h a o) (k : ∀ b u, (b = a ∨ H b = some (.own a)) -> h.get? b = some u -> h'.get? b = some u)
   (ho : ∀ b, H b = some (.own a) -> H' b = some (.own a)) (ht : ∀ b xs, H b = some (.tup xs) -> H' b = some (.tup xs)) : ObjOk P w H' h' a o := by
 induction o with
 | lst xs => obtain ⟨z, its, n, r, e⟩ := x; exact ⟨z, its, n, r, k _ _ (.inl rfl) e⟩
 | tup xs => obtain ⟨z, its, r, ob, e, c⟩ := x; exact ⟨z, its, r, ob, k _ _ (.inl rfl) e, c⟩
 | dK kvs => obtain ⟨z, y, vs, r, ob, es, ep, e, c⟩ := x; exact ⟨z, y, vs, r, ob, es, ep, k _ _ (.inl rfl) e, c⟩
 | dT kvs =>
   obtain ⟨z, y, xs, r, ob, es, ep, e, c⟩ := x
   exact ⟨z, y, xs, Paired.mapP r fun p q z => ⟨z.1, ht _ _ z.2.1, z.2.2⟩, ob, es, ep, k _ _ (.inl rfl) e, c⟩
 | set S n => obtain ⟨ob, es, ep, t, e, c⟩ := x; exact ⟨ob, es, ep, t, k _ _ (.inl rfl) e, c⟩
 | ins C dx fs =>
   obtain ⟨d, z, ne, e, mA, ⟨od, es, ep, e2, c⟩, r⟩ := x
   exact ⟨ho _ d, z, ne, k _ _ (.inl rfl) e, mA, ⟨od, es, ep, k _ _ (.inr d) e2, c⟩, r⟩
 | own y => obtain ⟨ob, e⟩ := x; exact ⟨ob, k _ _ (.inl rfl) e⟩
 | xd fs => obtain ⟨mA, ⟨od, es, ep, e, c⟩, r⟩ := x; exact ⟨mA, ⟨od, es, ep, k _ _ (.inl rfl) e, c⟩, r⟩
 | rng lo hi => obtain ⟨t, u, v, e⟩ := x; exact ⟨t, u, v, k _ _ (.inl rfl) e⟩
 | frz ob u ih => obtain ⟨e, q⟩ := x; exact ⟨k _ _ (.inl rfl) e, ih q⟩
 | tbl ps =>
   have e : h.get? a = some { cls := .none, data := .fields ps } := x
   show h'.get? a = some { cls := .none, data := .fields ps }
   exact k a _ (.inl rfl) e
 | met f y =>
   have e : h.get? a = some (PySem.W.methodObj (.ref f) (.ref y)) := x
   show h'.get? a = some (PySem.W.methodObj (.ref f) (.ref y))
   exact k a _ (.inl rfl) e
 | ext φ => obtain ⟨p, ⟨o, e⟩, st⟩ := x; exact ⟨st _ _ p fun o q => k _ _ (.inl rfl) q, ⟨o, k _ _ (.inl rfl) e⟩, st⟩
theorem HOk.lt (x : HOk P w H h) (e : H a = some o) : a < h.objs.size := (x a o e).lt
theorem HOk.fresh (x : HOk P w H h) (e : h.objs.size <= a) : H a = none := by
 cases q : H a with
 | none => rfl
 | some u => exact absurd (Nat.lt_of_lt_of_le (x.lt q) e) (Nat.lt_irrefl _)
theorem HOk.kept (x : HOk P w H h) (k : ∀ b u, h.get? b = some u -> h'.get? b = some u) : HOk P w H h' := fun a o e =>
 (x a o e).stay (fun b u _ q => k b u q) (fun _ q => q) fun _ _ q => q
theorem HOk.laid (x : HOk P w H h) (k : ∀ b u, h.get? b = some u -> h'.get? b = some u) (hp : h.objs.size <= a) (new : ObjOk P w (upd H a o) h' a o) : HOk P w (upd H a o) h' := fun b u e => by
 have hn := x.fresh hp
 by_cases hb : b = a
 · subst hb; rw [upd_same] at e; cases e; exact new
 · rw [upd_ne hb] at e
   exact (x b u e).stay (fun c v _ q => k c v q) (fun c q => by rw [upd_ne (ne_of_none q hn)]; exact q) fun c xs q => by rw [upd_ne (ne_of_none q hn)]; exact q
end
def Rd (H : Hp) (a : Addr) (u : HO) : Prop := H a = some u ∨ ∃ o, H a = some (.frz o u)
theorem Rd.of {H : Hp} {a : Addr} {u : HO} (h : H a = some u) : Rd H a u := .inl h
theorem Rd.ok {P : Program} {w : World} {H : Hp} {h : Heap} {a : Addr} {u : HO} (r : Rd H a u) (x : HOk P w H h) : ObjOk P w H h a u := by
 rcases r with r | ⟨o, r⟩
 · exact x a u r
 · obtain ⟨_, q⟩ := x a _ r
   exact q
def Mut : Option HO -> Prop
 | some (.lst _) => True
 | some (.dK _) => True
 | some (.dT _) => True
 | some (.set _ _) => True
 | some (.ins _ _ _) => True
 | some (.ext _) => True
 | _ => False
section
variable {P : Program} {w : World} {H : Hp} {h h' : Heap} {x e : Addr} {o' : HO}
theorem HOk.write (ok : HOk P w H h) (mu : Mut (H x)) (he : e = x ∨ H e = some (.own x)) (k : ∀ b u, b ≠ e -> h.get? b = some u -> h'.get? b = some u) (heo : ∃ u, h'.get? e = some u)
   (new : ObjOk P w (upd H x o') h' x o') : HOk P w (upd H x o') h' := fun b u q => by
 have nown : ∀ c y, H c = some (.own y) -> c ≠ x := fun c y r z => by subst z; rw [r] at mu; exact mu
 have ntup : ∀ c xs, H c = some (.tup xs) -> c ≠ x := fun c xs r z => by subst z; rw [r] at mu; exact mu
 by_cases hb : b = x
 · subst hb; rw [upd_same] at q; cases q; exact new
 · rw [upd_ne hb] at q
   by_cases hbe : b = e
   · have q' : H b = some (.own x) := by
       rcases he with z | z
       · exact absurd (hbe.trans z) hb
       · rw [hbe]; exact z
     rw [q] at q'; cases q'
     obtain ⟨v, hv⟩ := heo
     exact ⟨v, by rw [hbe]; exact hv⟩
   · refine (ok b u q).stay (fun c v hc r => k c v ?_ r) (fun c r => by rw [upd_ne (nown c b r)]; exact r) fun c xs r => by rw [upd_ne (ntup c xs r)]; exact r
     rcases hc with rfl | hc
     · exact hbe
     · rintro rfl
       rcases he with z | z
       · exact nown c b hc z
       · rw [hc] at z; cases z; exact hb rfl
end
structure Un (fs ex : List Addr) (H H' : Hp) (h h' : Heap) : Prop where
 keep : ∀ b o, h.get? b = some o -> H b = none -> b ∉ fs -> b ∉ ex -> h'.get? b = some o
 slot : ∀ b o, h.get? b = some o -> H b = none -> b ∈ fs -> b ∉ ex -> ∃ sl, h'.get? b = some { o with slots := sl }
 free : ∀ b o, h.get? b = some o -> H b = none -> b ∉ ex -> H' b = none
 there : ∀ b o, h.get? b = some o -> b ∉ ex -> ∃ o', h'.get? b = some o'
 tups : ∀ b xs, H b = some (.tup xs) -> H' b = some (.tup xs)
 frzs : ∀ b o u, H b = some (.frz o u) -> H' b = some (.frz o u)
 tbls : ∀ b ps, H b = some (.tbl ps) -> ∃ more, H' b = some (.tbl (ps ++ more))
section
variable {fs fs' ex ex' : List Addr} {H H1 H2 : Hp} {h h1 h2 h' : Heap} {a x e : Addr} {o : HO}
theorem Un.any (u : Un fs ex H H1 h h1) {b : Addr} {ob : Obj} (q : h.get? b = some ob) (n : H b = none) (hx : b ∉ ex) : ∃ sl, h1.get? b = some { ob with slots := sl } := by
 by_cases hb : b ∈ fs
 · exact u.slot b ob q n hb hx
 · exact ⟨ob.slots, u.keep b ob q n hb hx⟩
theorem Un.trans (a : Un fs ex H H1 h h1) (b : Un fs ex H1 H2 h1 h2) : Un fs ex H H2 h h2 where
 keep := fun c ob q n hc hx => b.keep c ob (a.keep c ob q n hc hx) (a.free c ob q n hx) hc hx
 slot := fun c ob q n hc hx => by
   obtain ⟨sl, e1⟩ := a.slot c ob q n hc hx
   obtain ⟨sl', e2⟩ := b.slot c _ e1 (a.free c ob q n hx) hc hx
   exact ⟨sl', e2⟩
 free := fun c ob q n hx => by
   obtain ⟨o', e1⟩ := a.there c ob q hx
   exact b.free c o' e1 (a.free c ob q n hx) hx
 there := fun c ob q hx => by
   obtain ⟨o', e1⟩ := a.there c ob q hx
   exact b.there c o' e1 hx
 tups := fun c xs q => b.tups c xs (a.tups c xs q)
 frzs := fun c ob xs q => b.frzs c ob xs (a.frzs c ob xs q)
 tbls := fun c ps q => by
   obtain ⟨m1, e1⟩ := a.tbls c ps q
   obtain ⟨m2, e2⟩ := b.tbls c _ e1
   exact ⟨m1 ++ m2, by rw [e2, Array.append_assoc]⟩
theorem Un.kept (k : ∀ b u, h.get? b = some u -> h'.get? b = some u) : Un fs ex H H h h' :=
 ⟨fun b ob q _ _ _ => k b ob q, fun b ob q _ _ _ => ⟨ob.slots, k b ob q⟩, fun _ _ _ n _ => n, fun b ob q _ => ⟨ob, k b ob q⟩, fun _ _ q => q, fun _ _ _ q => q, fun _ ps q => ⟨#[], by rw [q]; simp⟩⟩
theorem Un.refl : Un fs ex H H h h := Un.kept fun _ _ q => q
theorem Un.laid (k : ∀ b u, h.get? b = some u -> h'.get? b = some u) (hp : h.objs.size <= a) (hn : H a = none) : Un fs ex H (upd H a o) h h' where
 keep := fun b u q _ _ _ => k b u q
 slot := fun b u q _ _ _ => ⟨u.slots, k b u q⟩
 free := fun b u q n _ => by rw [upd_ne (Nat.ne_of_lt (Nat.lt_of_lt_of_le (Heap.lt_size q) hp))]; exact n
 there := fun b u q _ => ⟨u, k b u q⟩
 tups := fun b xs q => by rw [upd_ne (ne_of_none q hn)]; exact q
 frzs := fun b u xs q => by rw [upd_ne (ne_of_none q hn)]; exact q
 tbls := fun b ps q => ⟨#[], by rw [upd_ne (ne_of_none q hn), q]; simp⟩
theorem Un.write (mu : Mut (H x)) (he : e = x ∨ H e = some (.own x)) (k : ∀ b u, b ≠ e -> h.get? b = some u -> h'.get? b = some u) (heo : ∃ u, h'.get? e = some u) : Un fs ex H (upd H x o) h h' := by
 have hx : ∀ b, H b = none -> b ≠ x := fun b n z => by subst z; rw [n] at mu; exact mu
 have hb : ∀ b, H b = none -> b ≠ e := fun b n z => by
   subst z
   rcases he with r | r
   · exact hx b n r
   · rw [n] at r; cases r
 have hm : ∀ b u, H b = some u -> ¬ Mut (some u) -> b ≠ x := fun b u q nm z => by subst z; rw [q] at mu; exact nm mu
 refine ⟨fun b u q n _ _ => k b u (hb b n) q, fun b u q n _ _ => ⟨u.slots, k b u (hb b n) q⟩, fun b u q n _ => by rw [upd_ne (hx b n)]; exact n, fun b u q _ => ?_,
   fun b xs q => by rw [upd_ne (hm b _ q fun z => z)]; exact q, fun b u xs q => by rw [upd_ne (hm b _ q fun z => z)]; exact q, fun b ps q => ⟨#[], by rw [upd_ne (hm b _ q fun z => z), q]; simp⟩⟩
 by_cases hbe : b = e
 · subst hbe; exact heo
 · exact ⟨u, k b u hbe q⟩
theorem Un.mono (u : Un fs ex H H1 h h1) (hs : ∀ b ∈ fs, b ∈ fs') (hx : ∀ b ∈ ex, b ∈ ex') : Un fs' ex' H H1 h h1 :=
 ⟨fun b ob q n hb he => u.keep b ob q n (fun z => hb (hs b z)) fun z => he (hx b z), fun _ _ q n _ he => u.any q n fun z => he (hx _ z), fun b ob q n he => u.free b ob q n fun z => he (hx b z), fun b ob q he => u.there b ob q fun z => he (hx b z), u.tups, u.frzs, u.tbls⟩
end
def trk (h : Heap) (H : Hp) : List Addr := (List.range h.objs.size).filter fun a => (H a).isSome
def hidT (h : Heap) (H : Hp) : Heap := PySem.W.hideAll h (trk h H)
theorem hidT_size (h : Heap) (H : Hp) : (hidT h H).objs.size = h.objs.size := PySem.W.hideAll_size _ _
theorem hidT_get {h : Heap} {H : Hp} {b : Addr} {o : Obj} (e : h.get? b = some o) (n : H b = none) : (hidT h H).get? b = some o :=
 PySem.W.hideAll_get _ e fun hm => by
   have q : (H b).isSome = true := (List.mem_filter.mp hm).2
   rw [n] at q; simp at q
theorem of_hidT {h : Heap} {H : Hp} {b : Addr} {o : Obj} (e : (hidT h H).get? b = some o) : h.get? b = some o /\ H b = none := by
 have e' : h.get? b = some o := PySem.W.of_hideAll (trk h H) e
 refine ⟨e', ?_⟩
 cases q : H b with
 | none => rfl
 | some x =>
   have hm : b ∈ trk h H := List.mem_filter.mpr ⟨List.mem_range.mpr (Heap.lt_size e'), by simp [q]⟩
   have z : (hidT h H).get? b = none := PySem.W.hideAll_none (trk h H) hm
   rw [z] at e; cases e
def allNews (g h : Heap) (L : Addr) : List (Addr × Obj) := (List.range h.objs.size).filterMap fun a => if a = L ∨ (g.get? a).isSome = true then none else (h.get? a).map fun o => (a, o)
theorem mem_allNews {g h : Heap} {L a : Addr} {o : Obj} (h1 : a ≠ L) (h2 : g.get? a = none) (h3 : h.get? a = some o) : (a, o) ∈ allNews g h L :=
 List.mem_filterMap.mpr ⟨a, List.mem_range.mpr (Heap.lt_size h3), by simp [h1, h2, h3]⟩
theorem of_mem_allNews {g h : Heap} {L : Addr} {p : Addr × Obj} (hp : p ∈ allNews g h L) : p.1 ≠ L /\ g.get? p.1 = none /\ h.get? p.1 = some p.2 := by
 obtain ⟨b, _, e⟩ := List.mem_filterMap.mp hp
 split at e
 · cases e
 · rename_i hn
   cases q : h.get? b with
   | none => rw [q] at e; simp at e
   | some u =>
     rw [q] at e
     simp only [Option.map_some, Option.some.injEq] at e
     subst e
     refine ⟨fun z => hn (.inl z), ?_, q⟩
     show g.get? b = none
     cases r : g.get? b with
     | none => rfl
     | some v => exact (hn (.inr (by simp [r]))).elim
def rest (g h : Heap) (L d : Addr) : List (Addr × Obj) := (allNews g h L).filter fun p => decide (p.1 ≠ d)
theorem rest_ne {g h : Heap} {L d : Addr} : ∀ p ∈ rest g h L d, p.1 ≠ d := fun p hp => of_decide_eq_true (List.mem_filter.mp hp).2
theorem mem_rest {g h : Heap} {L d a : Addr} {o : Obj} (h1 : a ≠ L) (h2 : g.get? a = none) (h3 : h.get? a = some o) (h4 : a ≠ d) : (a, o) ∈ rest g h L d :=
 List.mem_filter.mpr ⟨mem_allNews h1 h2 h3, decide_eq_true h4⟩
theorem news_all {g h : Heap} {L : Addr} : News g L h (allNews g h L) := fun p hp => let ⟨a, b, c⟩ := of_mem_allNews hp; ⟨c, a, b⟩
theorem news_at {g h : Heap} {L d : Addr} {o : Obj} (h1 : d ≠ L) (h2 : g.get? d = none) (h3 : h.get? d = some o) : News g L h ((d, o) :: rest g h L d) := fun p hp => by
 rcases List.mem_cons.mp hp with rfl | hp
 · exact ⟨h3, h1, h2⟩
 · exact news_all p (List.mem_filter.mp hp).1
theorem kept_of_news {g h h' : Heap} {L d : Addr} {m : Str -> Option Value} (k : ∀ b o, g.get? b = some o -> h.get? b = some o) (F : Fr g L h' m) (N : News g L h' (rest g h L d)) :
   ∀ b o, b ≠ L -> b ≠ d -> h.get? b = some o -> h'.get? b = some o := fun b o h1 h2 e => by
 cases q : g.get? b with
 | some u =>
   have := k b u q
   rw [e] at this; cases this
   exact F.keep b _ q
 | none => exact (N (b, o) (mem_rest h1 q e h2)).1
end L2
namespace L2
open PySem PySem.Spec PyProof.Rows
structure Mod (K : PySem.W.Frag) (mg : Str -> Option Value) (base : Heap) : Prop where
 kin : K.In base
 glob : base.Ns mainGlobals mg
 blt : ∃ mb, base.Ns builtinsNs mb /\ ∀ x : Str, x ≠ "__name__" -> mb x = bootBuiltins x
 nolimit : base.NoLimit
structure Cx where
 prog : Program
 w : World
 K : PySem.W.Frag
 mg : Str -> Option Value
 base : Heap
 A : Around
 N : List Str
 s₀ : Shared
 H₀ : Hp
 env : Env
 outer : List Env
 stack : List Env
 ex : List Addr
 fn : Str -> Bool
 calm : Bool
 pn : List (Addr × Obj)
 xe : Value -> Shared -> Prop
def frs (l : List Env) : List Addr := l.filterMap (·.frame)
abbrev Cx.fs (X : Cx) : List Addr := frs X.outer
def Vis (sc : Scope) (x : Str) : Prop := sc.names.lookup x = some .local ∨ sc.names.lookup x = some .cell ∨ sc.names.lookup x = some .free
def Loc (sc : Scope) (x : Str) : Prop := sc.names.lookup x = some .local ∨ sc.names.lookup x = some .cell
def Look (env : Env) (h : Heap) (m : Str -> Option Value) (x : Str) (u : Value) : Prop :=
 (env.kindOf x = some .local /\ m x = some u) ∨ ((env.kindOf x = some .cell ∨ env.kindOf x = some .free) /\ ∃ c, env.cells.lookup x = some c /\ h.IsCell c (some u))
structure Cx.Ok (X : Cx) : Prop where
 mod : Mod X.K X.mg X.base
 kind : X.env.scope.kind = .function
 glob : X.env.globals = mainGlobals
 blt : X.env.builtins = builtinsNs
 above : X.s₀.heap.objs.size <= X.env.locals
 inj : ∀ x y c, X.env.cells.lookup x = some c -> X.env.cells.lookup y = some c -> x = y
 has : ∀ x, (X.env.kindOf x = some .cell ∨ X.env.kindOf x = some .free) -> ∃ c, X.env.cells.lookup x = some c
 cab : ∀ x c, X.fn x = true -> X.env.cells.lookup x = some c -> X.s₀.heap.objs.size <= c
 hd : X.calm = true -> X.A.handled = none
 frames : X.A.frames = some X.stack
 stk : X.stack = X.outer ∨ (X.stack = X.env :: X.outer /\ X.env.frame = some X.env.locals)
 exf : ∀ b ∈ X.ex, b ≠ X.env.locals /\ ∀ x c, X.env.cells.lookup x = some c -> c ≠ b
 bs : ∀ b o, X.base.get? b = some o -> X.s₀.heap.get? b = some o /\ X.H₀ b = none
 bsz : X.base.objs.size <= X.s₀.heap.objs.size
 noex : ∀ b o, X.base.get? b = some o -> b ∉ X.ex
 exfs : ∀ b ∈ X.ex, b ∉ X.fs
 funs : X.s₀.heap.FunFrames X.base X.outer
 frf : ∀ b ∈ X.fs, X.H₀ b = none
structure Inv (X : Cx) (pins : List (Addr × Obj)) (σ : List (Option V)) (H : Hp) (s : Shared) : Prop where
 ok : X.Ok
 os : s.os = X.s₀.os
 bare : AllBare s.gens
 base : Un X.fs X.ex X.H₀ H X.s₀.heap s.heap
 loc : ∃ m, s.heap.Ns X.env.locals m /\ ∀ (i : Nat) (x : Str) (v : V), X.N[i]? = some x -> σ[i]? = some (some v) -> Vis X.env.scope x -> ∃ u, RelV v u /\ Look X.env s.heap m x u
 cell : ∀ x c, X.env.cells.lookup x = some c -> ∃ v, s.heap.IsCell c v
 free : H X.env.locals = none
 freeC : ∀ x c, X.env.cells.lookup x = some c -> H c = none
 pin : ∀ p ∈ X.pn ++ pins, s.heap.get? p.1 = some p.2 /\ H p.1 = none /\ p.1 ≠ X.env.locals /\ p.1 ∉ X.fs /\ ∀ v, p.2.data ≠ .cell v
 hok : HOk X.prog X.w H s.heap
 len : σ.length = X.N.length
section
variable {X : Cx} {pins : List (Addr × Obj)} {σ : List (Option V)} {H H' : Hp} {s : Shared} {h' : Heap}
theorem Cx.Ok.nofr (ok : X.Ok) {b : Addr} {o : Obj} (e : X.base.get? b = some o) : b ∉ X.fs := fun hb => by
 have := (ok.funs.mem hb).1
 rw [e] at this; cases this
theorem Inv.bs (I : Inv X pins σ H s) : ∀ b o, X.base.get? b = some o -> s.heap.get? b = some o /\ H b = none := fun b o e =>
 ⟨I.base.keep b o (I.ok.bs b o e).1 (I.ok.bs b o e).2 (I.ok.nofr e) (I.ok.noex b o e), I.base.free b o (I.ok.bs b o e).1 (I.ok.bs b o e).2 (I.ok.noex b o e)⟩
theorem Inv.bk (I : Inv X pins σ H s) : ∀ b o, X.base.get? b = some o -> s.heap.get? b = some o := fun b o e => (I.bs b o e).1
theorem Inv.mod (I : Inv X pins σ H s) : Mod X.K X.mg X.base := I.ok.mod
theorem Inv.kIn (I : Inv X pins σ H s) : X.K.In s.heap := I.ok.mod.kin.keeps I.bk
theorem Inv.nolimit (I : Inv X pins σ H s) : s.heap.NoLimit := I.ok.mod.nolimit.keeps I.bk
theorem Inv.fr (I : Inv X pins σ H s) : ∃ m, Fr X.base X.env.locals s.heap m :=
 let ⟨m, hn, _⟩ := I.loc
 ⟨m, hn, I.bk, Nat.le_trans I.ok.bsz I.ok.above⟩
theorem Inv.lt (I : Inv X pins σ H s) : X.env.locals < s.heap.objs.size := let ⟨_, hn, _⟩ := I.loc; hn.lt
theorem Inv.sz (I : Inv X pins σ H s) : X.s₀.heap.objs.size <= s.heap.objs.size := Nat.le_trans I.ok.above (Nat.le_of_lt I.lt)
theorem Inv.nofs (I : Inv X pins σ H s) {a : Addr} (h : s.heap.objs.size <= a) : a ∉ X.fs := fun hb => by
 obtain ⟨_, o, ho, _⟩ := I.ok.funs.mem hb
 exact absurd (Nat.lt_of_lt_of_le (Heap.lt_size ho) (Nat.le_trans I.sz h)) (Nat.lt_irrefl _)
theorem Inv.cne (I : Inv X pins σ H s) : ∀ x c, X.env.cells.lookup x = some c -> c ≠ X.env.locals := fun x c e z => by
 obtain ⟨v, o, ho, hd⟩ := I.cell x c e
 obtain ⟨m, ⟨o', es, ep, ho', hd', _⟩, _⟩ := I.loc
 rw [z, ho'] at ho; cases ho; rw [hd'] at hd; cases hd
theorem Inv.funs (I : Inv X pins σ H s) : s.heap.FunFrames X.base X.outer := by
 have all : ∀ (l : List Env), (∀ b ∈ frs l, b ∈ X.fs) -> X.s₀.heap.FunFrames X.base l -> s.heap.FunFrames X.base l := by
   intro l
   induction l with
   | nil => intro _ _; trivial
   | cons env r ih =>
     intro hs hl
     obtain ⟨hk, ⟨L, o, hf, hn, ho, hd⟩, hr⟩ := hl
     have hL : L ∈ X.fs := hs L (by unfold frs; rw [List.filterMap_cons, hf]; exact List.mem_cons_self)
     obtain ⟨sl, e⟩ := I.base.slot L o ho (I.ok.frf L hL) hL fun z => I.ok.exfs L z hL
     exact ⟨hk, ⟨L, _, hf, hn, e, hd⟩, ih (fun b hb => hs b (by unfold frs; rw [List.filterMap_cons, hf]; exact List.mem_cons_of_mem _ hb)) hr⟩
 exact all X.outer (fun _ hb => hb) I.ok.funs
theorem Inv.stack (I : Inv X pins σ H s) : s.heap.FunFrames X.base X.stack := by
 rcases I.ok.stk with e | ⟨e, hf⟩
 · rw [e]; exact I.funs
 · rw [e]
   obtain ⟨m, hn, _⟩ := I.loc
   refine .cons (by rw [I.ok.kind]; decide) hf hn ?_ I.funs
   exact Heap.get?_none_of_le (Nat.le_trans I.ok.bsz I.ok.above)
theorem Inv.stkSub (I : Inv X pins σ H s) : ∀ b ∈ frs X.stack, b ∈ X.env.locals :: X.fs := fun b hb => by
 rcases I.ok.stk with e | ⟨e, hf⟩
 · rw [e] at hb; exact List.mem_cons_of_mem _ hb
 · rw [e] at hb
   unfold frs at hb
   rw [List.filterMap_cons, hf] at hb
   exact hb
theorem Inv.stkFree (I : Inv X pins σ H s) : ∀ b ∈ frs X.stack, H b = none := fun b hb => by
 rcases List.mem_cons.mp (I.stkSub b hb) with e | hb
 · rw [e]; exact I.free
 · obtain ⟨_, o, ho, _⟩ := I.ok.funs.mem hb
   exact I.base.free b o ho (I.ok.frf b hb) fun z => I.ok.exfs b z hb
theorem Inv.step {g' : Array GenState} {t' : Nat} {d' : Drawn} {ch : List Addr} (I : Inv X pins σ H s)
   (hch : ∀ b ∈ ch, (b ∈ X.ex ∨ X.s₀.heap.objs.size <= b) /\ b ≠ X.env.locals /\ (∀ x c, X.env.cells.lookup x = some c -> c ≠ b) /\ ∀ p ∈ X.pn ++ pins, p.1 ≠ b)
   (keep : ∀ b o, b ≠ X.env.locals -> b ∉ X.fs -> b ∉ ch -> s.heap.get? b = some o -> H b = none -> h'.get? b = some o)
   (slot : ∀ b o, b ≠ X.env.locals -> b ∈ X.fs -> b ∉ ch -> s.heap.get? b = some o -> H b = none -> ∃ sl, h'.get? b = some { o with slots := sl }) (free : ∀ b o, b ∉ ch -> s.heap.get? b = some o -> H b = none -> H' b = none)
   (there : ∀ b o, b ∉ ch -> s.heap.get? b = some o -> ∃ o', h'.get? b = some o')
   (tups : ∀ b xs, H b = some (.tup xs) -> H' b = some (.tup xs)) (frzs : ∀ b o u, H b = some (.frz o u) -> H' b = some (.frz o u)) (tbls : ∀ b ps, H b = some (.tbl ps) -> ∃ more, H' b = some (.tbl (ps ++ more)))
   (ns : ∀ m, s.heap.Ns X.env.locals m -> h'.Ns X.env.locals m) (hok : HOk X.prog X.w H' h') (hg : AllBare g') :
   Inv X pins σ H' { s with heap := h', gens := g', drawn := d', toks := t' } := by
 have neL : ∀ b o, X.s₀.heap.get? b = some o -> b ≠ X.env.locals := fun b o e => Nat.ne_of_lt (Nat.lt_of_lt_of_le (Heap.lt_size e) I.ok.above)
 have neC : ∀ b o, X.s₀.heap.get? b = some o -> b ∉ X.ex -> b ∉ ch := fun b o e hx hb => by
   rcases (hch b hb).1 with z | z
   · exact hx z
   · exact absurd (Nat.lt_of_lt_of_le (Heap.lt_size e) z) (Nat.lt_irrefl _)
 have cellK : ∀ x c, X.env.cells.lookup x = some c -> ∀ v, s.heap.IsCell c v -> h'.IsCell c v := fun x c e v ⟨o, ho, hd⟩ => by
   have nch : c ∉ ch := fun z => (hch c z).2.2.1 x c e rfl
   by_cases hc : c ∈ X.fs
   · obtain ⟨sl, q⟩ := slot c o (I.cne x c e) hc nch ho (I.freeC x c e)
     exact ⟨_, q, hd⟩
   · exact ⟨o, keep c o (I.cne x c e) hc nch ho (I.freeC x c e), hd⟩
 refine ⟨I.ok, I.os, hg, ⟨fun b o e n hb hx => ?_, fun b o e n hb hx => ?_, fun b o e n hx => ?_, fun b o e hx => ?_, fun b xs e => tups b xs (I.base.tups b xs e), fun b o xs e => frzs b o xs (I.base.frzs b o xs e), fun b ps e => ?_⟩, ?_, fun x c e => ?_, ?_, fun x c e => ?_, fun p hp => ?_, hok, I.len⟩
 · exact keep b o (neL b o e) hb (neC b o e hx) (I.base.keep b o e n hb hx) (I.base.free b o e n hx)
 · obtain ⟨sl, e1⟩ := I.base.slot b o e n hb hx
   obtain ⟨sl', e2⟩ := slot b _ (neL b o e) hb (neC b o e hx) e1 (I.base.free b o e n hx)
   exact ⟨sl', e2⟩
 · obtain ⟨o', e1⟩ := I.base.there b o e hx
   exact free b o' (neC b o e hx) e1 (I.base.free b o e n hx)
 · obtain ⟨o', e1⟩ := I.base.there b o e hx
   exact there b o' (neC b o e hx) e1
 · obtain ⟨m1, e1⟩ := I.base.tbls b ps e
   obtain ⟨m2, e2⟩ := tbls b _ e1
   exact ⟨m1 ++ m2, by rw [e2, Array.append_assoc]⟩
 · obtain ⟨m, hn, hl⟩ := I.loc
   refine ⟨m, ns m hn, fun i x v e1 e2 e3 => ?_⟩
   obtain ⟨u, r, l⟩ := hl i x v e1 e2 e3
   refine ⟨u, r, ?_⟩
   rcases l with l | ⟨k, c, e, z⟩
   · exact .inl l
   · exact .inr ⟨k, c, e, cellK x c e _ z⟩
 · obtain ⟨v, z⟩ := I.cell x c e
   exact ⟨v, cellK x c e v z⟩
 · obtain ⟨m, ⟨o, _, _, ho, _⟩, _⟩ := I.loc
   exact free _ o (fun z => (hch _ z).2.1 rfl) ho I.free
 · obtain ⟨v, o, ho, hd⟩ := I.cell x c e
   exact free c o (fun z => (hch c z).2.2.1 x c e rfl) ho (I.freeC x c e)
 · obtain ⟨e, n, ne, nf, d⟩ := I.pin p hp
   have nch : p.1 ∉ ch := fun z => (hch p.1 z).2.2.2 p hp rfl
   exact ⟨keep p.1 p.2 ne nf nch e n, free p.1 p.2 nch e n, ne, nf, d⟩
theorem Inv.un {t' : Nat} (I : Inv X pins σ H s) (u : Un X.fs [] H H' s.heap h') (hok : HOk X.prog X.w H' h') : Inv X pins σ H' { s with heap := h', toks := t' } := by
 obtain ⟨m, ⟨o, es, ep, ho, r⟩, _⟩ := id I.loc
 obtain ⟨sl, hL⟩ := u.any ho I.free (by simp)
 exact I.step (g' := s.gens) (d' := s.drawn) (ch := []) (fun _ z => nomatch z) (fun b o _ hb _ e n => u.keep b o e n hb (by simp)) (fun b o _ hb _ e n => u.slot b o e n hb (by simp)) (fun b o _ e n => u.free b o e n (by simp)) (fun b o _ e => u.there b o e (by simp)) u.tups u.frzs u.tbls (fun m' hm => by
   obtain ⟨o', es', ep', ho', r'⟩ := hm
   rw [ho] at ho'; cases ho'
   exact ⟨_, es', ep', hL, r'⟩) hok I.bare
theorem Inv.call {g' : Array GenState} {t' : Nat} {d' : Drawn} {ch : List Addr} (I : Inv X pins σ H s) (u : Un (frs X.stack) ch H H' s.heap h') (hok : HOk X.prog X.w H' h') (hg : AllBare g')
   (hch : ∀ b ∈ ch, (b ∈ X.ex ∨ X.s₀.heap.objs.size <= b) /\ b ≠ X.env.locals /\ (∀ x c, X.env.cells.lookup x = some c -> c ≠ b) /\ ∀ p ∈ X.pn ++ pins, p.1 ≠ b) :
   Inv X pins σ H' { s with heap := h', gens := g', drawn := d', toks := t' } := by
 obtain ⟨m, ⟨o, es, ep, ho, r⟩, _⟩ := id I.loc
 obtain ⟨sl, hL⟩ := u.any ho I.free fun z => (hch _ z).2.1 rfl
 exact I.step (ch := ch) hch (fun b o hL hb hc e n => u.keep b o e n (fun z => (List.mem_cons.mp (I.stkSub b z)).elim hL hb) hc) (fun b o _ _ hc e n => u.any e n hc) (fun b o hc e n => u.free b o e n hc) (fun b o hc e => u.there b o e hc) u.tups u.frzs u.tbls (fun m' hm => by
   obtain ⟨o', es', ep', ho', r'⟩ := hm
   rw [ho] at ho'; cases ho'
   exact ⟨_, es', ep', hL, r'⟩) hok hg
theorem Inv.turned {t' : Nat} {it : Addr} (I : Inv X pins σ H s) (k : ∀ b o, b ≠ it -> s.heap.get? b = some o -> h'.get? b = some o) (hn : H it = none) (hL : it ≠ X.env.locals)
   (h1 : it ∈ X.ex ∨ X.s₀.heap.objs.size <= it) (h2 : ∀ x c, X.env.cells.lookup x = some c -> c ≠ it) (h3 : ∀ p ∈ X.pn ++ pins, p.1 ≠ it) : Inv X pins σ H { s with heap := h', toks := t' } := by
 have nit : ∀ b u, H b = some u -> b ≠ it := fun b u e z => by rw [z, hn] at e; cases e
 refine I.step (g' := s.gens) (d' := s.drawn) (ch := [it]) (fun b hb => ?_) (fun b o _ _ hc e _ => k b o (fun z => hc (by simp [z])) e) (fun b o _ _ hc e _ => ⟨o.slots, k b o (fun z => hc (by simp [z])) e⟩) (fun _ _ _ _ n => n)
   (fun b o hc e => ⟨o, k b o (fun z => hc (by simp [z])) e⟩) (fun _ _ e => e) (fun _ _ _ e => e) (fun b ps e => ⟨#[], by rw [e]; simp⟩) (fun m hm => ?_) (fun b u e => ?_) I.bare
 · have e : b = it := by simpa using hb
   subst e
   exact ⟨h1, hL, h2, h3⟩
 · obtain ⟨o, es, ep, ho, r⟩ := hm
   exact ⟨o, es, ep, k _ o (Ne.symm hL) ho, r⟩
 · refine (I.hok b u e).stay (fun c v hc q => k c v ?_ q) (fun _ q => q) fun _ _ q => q
   rcases hc with z | z
   · rw [z]; exact nit b u e
   · exact nit c _ z
theorem Inv.tok (I : Inv X pins σ H s) (t : Nat) : Inv X pins σ H { s with toks := t } := I.un (h' := s.heap) (t' := t) Un.refl I.hok
theorem Inv.kept {t' : Nat} (I : Inv X pins σ H s) (k : ∀ b u, s.heap.get? b = some u -> h'.get? b = some u) : Inv X pins σ H { s with heap := h', toks := t' } := I.un (Un.kept k) (I.hok.kept k)
theorem Inv.laid {a : Addr} {o : HO} {t' : Nat} (I : Inv X pins σ H s) (k : ∀ b u, s.heap.get? b = some u -> h'.get? b = some u) (hp : s.heap.objs.size <= a) (new : ObjOk X.prog X.w (upd H a o) h' a o) :
   Inv X pins σ (upd H a o) { s with heap := h', toks := t' } := I.un (Un.laid k hp (I.hok.fresh hp)) (I.hok.laid k hp new)
theorem Inv.write {x e : Addr} {o : HO} {t' : Nat} (I : Inv X pins σ H s) (mu : Mut (H x)) (he : e = x ∨ H e = some (.own x)) (k : ∀ b u, b ≠ e -> s.heap.get? b = some u -> h'.get? b = some u) (heo : ∃ u, h'.get? e = some u)
   (new : ObjOk X.prog X.w (upd H x o) h' x o) : Inv X pins σ (upd H x o) { s with heap := h', toks := t' } := I.un (Un.write mu he k heo) (I.hok.write mu he k heo new)
theorem Inv.weak {σ' : List (Option V)} (I : Inv X pins σ H s) (hl : σ'.length = σ.length) (w : ∀ (i : Nat) v, σ'[i]? = some (some v) -> σ[i]? = some (some v)) : Inv X pins σ' H s :=
 ⟨I.ok, I.os, I.bare, I.base, let ⟨m, hn, hl'⟩ := I.loc; ⟨m, hn, fun i x v e1 e2 e3 => hl' i x v e1 (w i v e2) e3⟩, I.cell, I.free, I.freeC, I.pin, I.hok, hl.trans I.len⟩
theorem Inv.pins_of {pins' : List (Addr × Obj)} (I : Inv X pins σ H s) (h : ∀ p ∈ pins', s.heap.get? p.1 = some p.2 /\ H p.1 = none /\ p.1 ≠ X.env.locals /\ p.1 ∉ X.fs /\ ∀ v, p.2.data ≠ .cell v) : Inv X pins' σ H s :=
 ⟨I.ok, I.os, I.bare, I.base, I.loc, I.cell, I.free, I.freeC, fun p hp => (List.mem_append.mp hp).elim (fun z => I.pin p (List.mem_append_left _ z)) (h p), I.hok, I.len⟩
theorem nodup_ix {N : List Str} (hN : N.Nodup) {i j : Nat} {x : Str} (a : N[i]? = some x) (b : N[j]? = some x) : i = j := by
 obtain ⟨h1, e1⟩ := List.getElem?_eq_some_iff.mp a
 obtain ⟨h2, e2⟩ := List.getElem?_eq_some_iff.mp b
 exact (List.getElem_inj hN).mp (e1.trans e2.symm)
theorem store_ok2 {M : Model} {A : Around} {E : Value -> Shared -> Prop} {i : Nat} {x : Str} {v : V} {u : Value} {Q : Unit -> Shared -> Prop} (I : Inv X pins σ H s) (hN : X.N.Nodup) (hi : X.N[i]? = some x) (hx : Loc X.env.scope x) (r : RelV v u)
   (h : ∀ s', Inv X pins (σ.set i (some v)) H s' -> (∃ a, Heap.SameBut a s.heap s'.heap /\ (a = X.env.locals ∨ X.env.cells.lookup x = some a)) -> Q () s') (hf : X.fn x = true ∨ X.env.scope.names.lookup x = some .local := by first | exact .inl rfl | exact .inr rfl | assumption) : wpAny M A (storeName X.env x u) Q E s := by
 obtain ⟨m, hn, hl⟩ := id I.loc
 have hcls : (X.env.scope.kind == .class || (X.env.scope.kind == .module && X.env.locals != X.env.globals)) = false := by rw [I.ok.kind]; rfl
 have hiσ : i < σ.length := by rw [I.len]; exact (List.getElem?_eq_some_iff.mp hi).1
 have cne := I.cne
 have tracked : ∀ {a : Addr} {h' : Heap}, (∃ o, s.heap.get? a = some o /\ H a = none) -> Heap.SameBut a s.heap h' -> HOk X.prog X.w H h' := fun {a h'} ha hs b ob e => by
   obtain ⟨_, _, hfree⟩ := ha
   refine (I.hok b ob e).stay (fun c w' hc q => (hs.2 c ?_).trans q) (fun _ q => q) fun _ _ q => q
   rintro rfl
   rcases hc with rfl | hc
   · rw [hfree] at e; cases e
   · rw [hfree] at hc; cases hc
 rcases hx with hk | hk
 · refine wpAny_storeName_local hk hn (fun h' hn' hs => ?_) hcls
   obtain ⟨oL, _, _, hoL, _⟩ := id hn
   refine h _ ⟨I.ok, I.os, I.bare, ⟨fun b o e n hb hx => ?_, fun b o e n hb hx => ?_, I.base.free, fun b o e hx => ?_, I.base.tups, I.base.frzs, I.base.tbls⟩, ⟨_, hn', fun j y v' e1 e2 e3 => ?_⟩, fun y c e => ?_, I.free, I.freeC, fun p hp => ?_, tracked ⟨oL, hoL, I.free⟩ hs, by simpa using I.len⟩ ⟨_, hs, .inl rfl⟩
   · exact (hs.2 b (Nat.ne_of_lt (Nat.lt_of_lt_of_le (Heap.lt_size e) I.ok.above))).trans (I.base.keep b o e n hb hx)
   · obtain ⟨sl, e1⟩ := I.base.slot b o e n hb hx
     exact ⟨sl, (hs.2 b (Nat.ne_of_lt (Nat.lt_of_lt_of_le (Heap.lt_size e) I.ok.above))).trans e1⟩
   · obtain ⟨o', e1⟩ := I.base.there b o e hx
     exact ⟨o', (hs.2 b (Nat.ne_of_lt (Nat.lt_of_lt_of_le (Heap.lt_size e) I.ok.above))).trans e1⟩
   · by_cases hj : j = i
     · subst hj
       rw [hi] at e1; cases e1
       rw [List.getElem?_set_self hiσ] at e2
       cases e2
       exact ⟨u, r, .inl ⟨hk, by simp⟩⟩
     · rw [List.getElem?_set_ne (Ne.symm hj)] at e2
       obtain ⟨u', r', q⟩ := hl j y v' e1 e2 e3
       refine ⟨u', r', ?_⟩
       rcases q with ⟨k, e⟩ | ⟨k, c, e, z⟩
       · refine .inl ⟨k, ?_⟩
         have : y ≠ x := fun e => hj (nodup_ix hN e1 (e ▸ hi))
         simp [this, e]
       · exact .inr ⟨k, c, e, z.sameBut hs (cne y c e)⟩
   · obtain ⟨w', z⟩ := I.cell y c e
     exact ⟨w', z.sameBut hs (cne y c e)⟩
   · obtain ⟨e, n, ne, nf, d⟩ := I.pin p hp
     exact ⟨(hs.2 p.1 ne).trans e, n, ne, nf, d⟩
 · have hfn : X.fn x = true := by
     rcases hf with z | z
     · exact z
     · rw [z] at hk; cases hk
   obtain ⟨c, hc⟩ := I.ok.has x (.inl hk)
   obtain ⟨w', z⟩ := I.cell x c hc
   refine wpAny_storeName_cell I.ok.kind hk hc z (fun h' hc' hs => ?_)
   obtain ⟨oc, hoc, hocd⟩ := id z
   refine h { s with heap := h' } ⟨I.ok, I.os, I.bare, ⟨fun b o e n hb hx => ?_, fun b o e n hb hx => ?_, I.base.free, fun b o e hx => ?_, I.base.tups, I.base.frzs, I.base.tbls⟩, ⟨m, hn.sameBut hs (Ne.symm (cne x c hc)), fun j y v' e1 e2 e3 => ?_⟩, fun y c' e => ?_, I.free, I.freeC, fun p hp => ?_, tracked ⟨oc, hoc, I.freeC x c hc⟩ hs, by simpa using I.len⟩ ⟨c, hs, .inr hc⟩
   · exact (hs.2 b (Nat.ne_of_lt (Nat.lt_of_lt_of_le (Heap.lt_size e) (I.ok.cab x c hfn hc)))).trans (I.base.keep b o e n hb hx)
   · obtain ⟨sl, e1⟩ := I.base.slot b o e n hb hx
     exact ⟨sl, (hs.2 b (Nat.ne_of_lt (Nat.lt_of_lt_of_le (Heap.lt_size e) (I.ok.cab x c hfn hc)))).trans e1⟩
   · obtain ⟨o', e1⟩ := I.base.there b o e hx
     exact ⟨o', (hs.2 b (Nat.ne_of_lt (Nat.lt_of_lt_of_le (Heap.lt_size e) (I.ok.cab x c hfn hc)))).trans e1⟩
   · by_cases hj : j = i
     · subst hj
       rw [hi] at e1; cases e1
       rw [List.getElem?_set_self hiσ] at e2
       cases e2
       exact ⟨u, r, .inr ⟨.inl hk, c, hc, hc'⟩⟩
     · rw [List.getElem?_set_ne (Ne.symm hj)] at e2
       obtain ⟨u', r', q⟩ := hl j y v' e1 e2 e3
       refine ⟨u', r', ?_⟩
       rcases q with q | ⟨k, c', e, z'⟩
       · exact .inl q
       · refine .inr ⟨k, c', e, z'.sameBut hs ?_⟩
         rintro rfl
         exact hj (nodup_ix hN e1 (I.ok.inj _ _ _ e hc ▸ hi))
   · by_cases hcc : c' = c
     · subst hcc; exact ⟨_, hc'⟩
     · obtain ⟨w2, z2⟩ := I.cell y c' e
       exact ⟨w2, z2.sameBut hs hcc⟩
   · obtain ⟨e, n, ne, nf, d⟩ := I.pin p hp
     refine ⟨(hs.2 p.1 ?_).trans e, n, ne, nf, d⟩
     intro q
     rw [q, hoc] at e
     have q' : oc = p.2 := Option.some.inj e
     exact d w' (by rw [<- q']; exact hocd)
theorem store_ok {M : Model} {A : Around} {E : Value -> Shared -> Prop} {i : Nat} {x : Str} {v : V} {u : Value} {Q : Unit -> Shared -> Prop} (I : Inv X pins σ H s) (hN : X.N.Nodup) (hi : X.N[i]? = some x) (hx : Loc X.env.scope x) (r : RelV v u)
   (h : ∀ s', Inv X pins (σ.set i (some v)) H s' -> Q () s') (hf : X.fn x = true ∨ X.env.scope.names.lookup x = some .local := by first | exact .inl rfl | exact .inr rfl | assumption) : wpAny M A (storeName X.env x u) Q E s :=
 store_ok2 I hN hi hx r (fun s' I' _ => h s' I') hf
theorem Inv.call' {s' : Shared} {ch : List Addr} (I : Inv X pins σ H s) (ho : s'.os = s.os) (u : Un (frs X.stack) ch H H' s.heap s'.heap) (hok : HOk X.prog X.w H' s'.heap) (hg : AllBare s'.gens)
   (hch : ∀ b ∈ ch, (b ∈ X.ex ∨ X.s₀.heap.objs.size <= b) /\ b ≠ X.env.locals /\ (∀ x c, X.env.cells.lookup x = some c -> c ≠ b) /\ ∀ p ∈ X.pn ++ pins, p.1 ≠ b) : Inv X pins σ H' s' := by
 obtain ⟨h', g', d', t', o'⟩ := s'
 have e : o' = s.os := ho
 subst e
 exact I.call (g' := g') (t' := t') (d' := d') u hok hg hch
end
abbrev XK := Value -> Option Addr -> Hp -> Prop
abbrev St := List (Option V)
abbrev VK := V -> Hp -> Prop
abbrev TE := St -> Hp -> VK -> Prop
abbrev TT := St -> Hp -> (Bool -> Hp -> Prop) -> Prop
abbrev TA := St -> Hp -> (List V -> Hp -> Prop) -> Prop
structure Ends where
 nx : St -> Hp -> Prop
 rt : VK
 bk : St -> Hp -> Prop := fun _ _ => False
 ct : St -> Hp -> Prop := fun _ _ => False
abbrev TS := Ends -> St -> Hp -> Prop
def EP (X : Cx) (pins : List (Addr × Obj)) (σ : St) (Q : VK) (u : Value) (s' : Shared) : Prop := ∃ v H', Inv X pins σ H' s' /\ RelV v u /\ Q v H'
def TP (X : Cx) (pins : List (Addr × Obj)) (σ : St) (Q : Bool -> Hp -> Prop) (b : Bool) (s' : Shared) : Prop := ∃ H', Inv X pins σ H' s' /\ Q b H'
def AP (X : Cx) (pins : List (Addr × Obj)) (σ : St) (Q : List V -> Hp -> Prop) (us : List Value) (s' : Shared) : Prop := ∃ vs H', Inv X pins σ H' s' /\ Vals vs us /\ Q vs H'
def SP (X : Cx) (pins : List (Addr × Obj)) (D : Ends) (f : Flow) (s' : Shared) : Prop :=
 match f with
 | .next => ∃ σ' H', Inv X pins σ' H' s' /\ D.nx σ' H'
 | .brk => ∃ σ' H', Inv X pins σ' H' s' /\ D.bk σ' H'
 | .cont => ∃ σ' H', Inv X pins σ' H' s' /\ D.ct σ' H'
 | .ret u => ∃ v σ' H', Inv X pins σ' H' s' /\ RelV v u /\ D.rt v H'
def PE (X : Cx) (e : Expr) (t : TE) : Prop :=
 ∀ (pins : List (Addr × Obj)) (s : Shared) (σ : St) (H : Hp) (Q : VK), Inv X pins σ H s -> t σ H Q -> wpAny (model X.prog X.w) X.A (eval e X.env) (EP X pins σ Q) X.xe s
def PT (X : Cx) (e : Expr) (t : TT) : Prop :=
 ∀ (pins : List (Addr × Obj)) (s : Shared) (σ : St) (H : Hp) (Q : Bool -> Hp -> Prop), Inv X pins σ H s -> t σ H Q -> wpAny (model X.prog X.w) X.A (isTrue e X.env (eval e X.env)) (TP X pins σ Q) X.xe s
def PW (X : Cx) (e : Expr) (t : TT) : Prop :=
 ∀ (whole : Sem Value) (pins : List (Addr × Obj)) (s : Shared) (σ : St) (H : Hp) (Q : Bool -> Hp -> Prop), Inv X pins σ H s -> t σ H Q -> wpAny (model X.prog X.w) X.A (isTrue e X.env whole) (TP X pins σ Q) X.xe s
theorem PW.pt {X : Cx} {e : Expr} {t : TT} (h : PW X e t) : PT X e t := h _
def PA (X : Cx) (es : List Expr) (t : TA) : Prop :=
 ∀ (pos : Pos) (pins : List (Addr × Obj)) (s : Shared) (σ : St) (H : Hp) (Q : List V -> Hp -> Prop), Inv X pins σ H s -> t σ H Q -> wpAny (model X.prog X.w) X.A (spliced (backTo pos (starEach es X.env))) (AP X pins σ Q) X.xe s
def PS (X : Cx) (st : Stmt) (t : TS) : Prop :=
 ∀ (pins : List (Addr × Obj)) (s : Shared) (σ : St) (H : Hp) (D : Ends), Inv X pins σ H s -> t D σ H -> wpAny (model X.prog X.w) X.A (exec st X.env) (SP X pins D) X.xe s
def PSs (X : Cx) (st : List Stmt) (t : TS) : Prop :=
 ∀ (pins : List (Addr × Obj)) (s : Shared) (σ : St) (H : Hp) (D : Ends), Inv X pins σ H s -> t D σ H -> wpAny (model X.prog X.w) X.A (execs st X.env) (SP X pins D) X.xe s
theorem thn {α : Type} {t : Sem α} {Q Q' : α -> Shared -> Prop} {M : Model} {A : Around} {E : Value -> Shared -> Prop} {s : Shared} (h : wpAny M A t Q E s) (hQ : ∀ a s, Q a s -> Q' a s) : wpAny M A t Q' E s := wpAny_mono h hQ fun _ _ x => x
end L2
namespace L2
open PySem PySem.Spec PyProof.Rows
section
variable {X : Cx}
theorem bin {a b : Expr} {ta tb : TE} (ha : PE X a ta) (hb : PE X b tb) {pins : List (Addr × Obj)} {s : Shared} {σ : St} {H : Hp} {R : V -> V -> Hp -> Prop} (I : Inv X pins σ H s) (h : ta σ H fun x H1 => tb σ H1 fun y H2 => R x y H2)
   {α : Type} {Q : α -> Shared -> Prop} {f : Value -> Value -> Sem α}
   (hf : ∀ v u s2 x y H2, Inv X pins σ H2 s2 -> RelV x v -> RelV y u -> R x y H2 -> wpAny (model X.prog X.w) X.A (f v u) Q X.xe s2) :
   wpAny (model X.prog X.w) X.A (eval a X.env) (fun v s₁ => wpAny (model X.prog X.w) X.A (eval b X.env) (fun u s₂ => wpAny (model X.prog X.w) X.A (f v u) Q X.xe s₂) X.xe s₁) X.xe s := by
 refine thn (ha pins s σ H _ I h) fun v s1 ⟨x, H1, I1, r1, q1⟩ => ?_
 refine thn (hb pins s1 σ H1 _ I1 q1) fun u s2 ⟨y, H2, I2, r2, q2⟩ => ?_
 exact hf v u s2 x y H2 I2 r1 r2 q2
def tVar (i : Nat) : TE := fun σ H Q => ∃ v, σ[i]? = some (some v) /\ Q v H
def tC (v : V) : TE := fun _ H Q => Q v H
theorem pe_var {i : Nat} {x : Str} {pos : Pos} (hN : X.N[i]? = some x) (hv : Vis X.env.scope x) (hd : (x == ("__debug__" : Str)) = false := by decide) (hcd : (x == ("__classdict__" : Str)) = false := by decide) : PE X (.Name x pos) (tVar i) := by
 intro pins s σ H Q I h
 obtain ⟨v, e, h⟩ := h
 obtain ⟨m, hn, hl⟩ := I.loc
 obtain ⟨u, r, l⟩ := hl i x v hN e hv
 have fin : EP X pins σ Q u s := ⟨v, H, I, r, h⟩
 rcases l with ⟨hk, hm⟩ | ⟨hk, c, hc, hcell⟩
 · exact wpAny_Name (wpAny_loadName_local I.ok.kind hk hn hm fin) hd
 · rcases hk with hk | hk
   · exact wpAny_Name (wpAny_loadName_cell I.ok.kind hk hc hcell fin) hd
   · exact wpAny_Name (wpAny_loadName_free I.ok.kind hk hc hcell fin hcd) hd
theorem pe_int {i j pos} : PE X (.Constant (.int i) j pos) (tC (.int i)) := fun _ _ _ H _ I h => wpAny_Constant_int ⟨.int i, H, I.tok _, ⟨_, rfl⟩, h⟩
theorem pe_bl {b j pos} : PE X (.Constant (.bool b) j pos) (tC (.bl b)) := fun _ _ _ H _ I h => Constant_bool ⟨.bl b, H, I, rfl, h⟩
theorem pe_non {j pos} : PE X (.Constant .none j pos) (tC .non) := fun _ _ _ H _ I h => Constant_none ⟨.non, H, I, rfl, h⟩
theorem pe_str {x j pos} : PE X (.Constant (.str x) j pos) (tC (.str x)) := fun _ _ _ H _ I h => Calls.Constant_str ⟨.str x, H, I.tok _, ⟨_, rfl⟩, h⟩
def Gl (X : Cx) (x : Str) : Prop := X.env.kindOf x = some .globalImplicit
theorem ld_glob {E : Value -> Shared -> Prop} {pins : List (Addr × Obj)} {s : Shared} {σ : St} {H : Hp} {x : Str} {u : Value} {pos : Pos} {Q : Value -> Shared -> Prop} (I : Inv X pins σ H s) (hg : Gl X x) (hm : X.mg x = some u) (h : Q u s)
   (hd : (x == ("__debug__" : Str)) = false := by decide) : wpAny (model X.prog X.w) X.A (eval (.Name x pos) X.env) Q E s :=
 Calls.Name_function_global I.ok.kind hg (Calls.loadGlobal_global (by rw [I.ok.glob]; exact I.mod.glob.keeps I.bk) hm h) hd
theorem ld_blt {E : Value -> Shared -> Prop} {pins : List (Addr × Obj)} {s : Shared} {σ : St} {H : Hp} {x : Str} {u : Value} {pos : Pos} {Q : Value -> Shared -> Prop} (I : Inv X pins σ H s) (hg : Gl X x) (hm : X.mg x = none) (hv : bootBuiltins x = some u) (h : Q u s)
   (hn : x ≠ "__name__" := by decide) (hd : (x == ("__debug__" : Str)) = false := by decide) : wpAny (model X.prog X.w) X.A (eval (.Name x pos) X.env) Q E s := by
 obtain ⟨mb, h1, h2⟩ := I.mod.blt
 exact Calls.Name_function_global I.ok.kind hg (Calls.loadGlobal_builtin (by rw [I.ok.glob]; exact I.mod.glob.keeps I.bk) hm (by rw [I.ok.blt]; exact h1.keeps I.bk) ((h2 x hn).trans hv) h) hd
theorem pe_glob {x : Str} {v : V} {u : Value} {pos : Pos} (hg : Gl X x) (hm : X.mg x = some u) (r : RelV v u) (hd : (x == ("__debug__" : Str)) = false := by decide) : PE X (.Name x pos) (tC v) :=
 fun _ _ _ H _ I h => ld_glob I hg hm ⟨v, H, I, r, h⟩ hd
theorem pe_bltn {x : Str} {v : V} {u : Value} {pos : Pos} (hg : Gl X x) (hm : X.mg x = none) (hv : bootBuiltins x = some u) (r : RelV v u) (hn : x ≠ "__name__" := by decide) (hd : (x == ("__debug__" : Str)) = false := by decide) : PE X (.Name x pos) (tC v) :=
 fun _ _ _ H _ I h => ld_blt I hg hm hv ⟨v, H, I, r, h⟩ hn hd
def t2I (ta tb : TE) (k : Int -> Int -> Hp -> Prop) : St -> Hp -> Prop := fun σ H => ta σ H fun x H1 => tb σ H1 fun y H2 => ∃ i j, x = .int i /\ y = .int j /\ k i j H2
def tAdd (ta tb : TE) : TE := fun σ H Q => t2I ta tb (fun i j H2 => Q (.int (i + j)) H2) σ H
def tSub (ta tb : TE) : TE := fun σ H Q => t2I ta tb (fun i j H2 => Q (.int (i - j)) H2) σ H
def tMul (ta tb : TE) : TE := fun σ H Q => t2I ta tb (fun i j H2 => (-(2 ^ 64) < i /\ i < 2 ^ 64) /\ Q (.int (i * j)) H2) σ H
variable {a b : Expr} {ta tb : TE} {pos : Pos}
theorem pe_add (ha : PE X a ta) (hb : PE X b tb) : PE X (.BinOp a .Add b pos) (tAdd ta tb) := by
 intro pins s σ H Q I h
 refine wpAny_BinOp (bin ha hb I h fun v u s2 x y H2 I2 rx ry q => ?_)
 obtain ⟨i, j, rfl, rfl, q⟩ := q
 obtain ⟨t, rfl⟩ := rx
 obtain ⟨t', rfl⟩ := ry
 exact add_int ⟨.int _, H2, I2.tok _, ⟨_, rfl⟩, q⟩
theorem pe_sub (ha : PE X a ta) (hb : PE X b tb) : PE X (.BinOp a .Sub b pos) (tSub ta tb) := by
 intro pins s σ H Q I h
 refine wpAny_BinOp (bin ha hb I h fun v u s2 x y H2 I2 rx ry q => ?_)
 obtain ⟨i, j, rfl, rfl, q⟩ := q
 obtain ⟨t, rfl⟩ := rx
 obtain ⟨t', rfl⟩ := ry
 exact sub_int ⟨.int _, H2, I2.tok _, ⟨_, rfl⟩, q⟩
theorem pe_mul (ha : PE X a ta) (hb : PE X b tb) : PE X (.BinOp a .Mult b pos) (tMul ta tb) := by
 intro pins s σ H Q I h
 refine wpAny_BinOp (bin ha hb I h fun v u s2 x y H2 I2 rx ry q => ?_)
 obtain ⟨i, j, rfl, rfl, ⟨q1, q2⟩, q⟩ := q
 obtain ⟨t, rfl⟩ := rx
 obtain ⟨t', rfl⟩ := ry
 exact mul_int ⟨.int _, H2, I2.tok _, ⟨_, rfl⟩, q⟩ (.of_left (intBits_le_64 q1 q2))
def PC (X : Cx) (op : CmpOp) (a b : Expr) (t : TE) : Prop :=
 ∀ (pins : List (Addr × Obj)) (s : Shared) (σ : St) (H : Hp) (Q : VK), Inv X pins σ H s -> t σ H Q ->
   wpAny (model X.prog X.w) X.A (eval a X.env) (fun v s₁ => wpAny (model X.prog X.w) X.A (eval b X.env) (fun u s₂ => wpAny (model X.prog X.w) X.A (compareOp op v u) (EP X pins σ Q) X.xe s₂) X.xe s₁) X.xe s
theorem nobehind (b : Expr) {op : CmpOp} (h : op ≠ .In) (h2 : op ≠ .NotIn) : behindInMarks op b = false := by
 have e1 : (op == CmpOp.In) = false := by cases op <;> first | rfl | exact absurd rfl h
 have e2 : (op == CmpOp.NotIn) = false := by cases op <;> first | rfl | exact absurd rfl h2
 cases b <;> simp [behindInMarks, e1, e2]
def tCmp (p : Int -> Int -> Bool) (ta tb : TE) : TE := fun σ H Q => t2I ta tb (fun i j H2 => Q (.bl (p i j)) H2) σ H
abbrev tLt : TE -> TE -> TE := tCmp fun i j => decide (i < j)
abbrev tLe : TE -> TE -> TE := tCmp fun i j => decide (i <= j)
abbrev tGt : TE -> TE -> TE := tCmp fun i j => decide (j < i)
abbrev tGe : TE -> TE -> TE := tCmp fun i j => decide (j <= i)
abbrev tEqI : TE -> TE -> TE := tCmp fun i j => decide (i = j)
abbrev tNeI : TE -> TE -> TE := tCmp fun i j => !decide (i = j)
theorem pc_int {op : CmpOp} {p : Int -> Int -> Bool} (ha : PE X a ta) (hb : PE X b tb)
   (rule : ∀ (i j : Int) (t u : Tok) (Q : Value -> Shared -> Prop) (s : Shared), Q (.bool (p i j)) s -> wpAny (model X.prog X.w) X.A (compareOp op (.int i t) (.int j u)) Q X.xe s) : PC X op a b (tCmp p ta tb) := by
 intro pins s σ H Q I h
 refine bin ha hb I h fun v u s2 x y H2 I2 rx ry q => ?_
 obtain ⟨i, j, rfl, rfl, q⟩ := q
 obtain ⟨t, rfl⟩ := rx
 obtain ⟨t', rfl⟩ := ry
 exact rule i j t t' _ s2 ⟨.bl _, H2, I2, rfl, q⟩
theorem pc_lt (ha : PE X a ta) (hb : PE X b tb) : PC X .Lt a b (tLt ta tb) := pc_int ha hb fun _ _ _ _ _ _ h => lt_int h
theorem pc_le (ha : PE X a ta) (hb : PE X b tb) : PC X .LtE a b (tLe ta tb) := pc_int ha hb fun _ _ _ _ _ _ h => le_int h
theorem pc_gt (ha : PE X a ta) (hb : PE X b tb) : PC X .Gt a b (tGt ta tb) := pc_int ha hb fun _ _ _ _ _ _ h => gt_int h
theorem pc_ge (ha : PE X a ta) (hb : PE X b tb) : PC X .GtE a b (tGe ta tb) := pc_int ha hb fun _ _ _ _ _ _ h => ge_int h
theorem pc_eqI (ha : PE X a ta) (hb : PE X b tb) : PC X .Eq a b (tEqI ta tb) := pc_int ha hb fun _ _ _ _ _ _ h => eq_int (by rw [Bool.beq_eq_decide_eq]; exact h)
theorem pc_neI (ha : PE X a ta) (hb : PE X b tb) : PC X .NotEq a b (tNeI ta tb) := pc_int ha hb fun _ _ _ _ _ _ h => ne_int (by rw [bne, Bool.beq_eq_decide_eq]; exact h)
def tIsN (ta : TE) : TE := fun σ H Q => ta σ H fun x H1 => Q (.bl (decide (x = .non))) H1
def tNotN (ta : TE) : TE := fun σ H Q => ta σ H fun x H1 => Q (.bl (!decide (x = .non))) H1
theorem RelV.none_iff {x : V} {v : Value} (r : RelV x v) : (v == Value.none) = decide (x = .non) := by
 cases x with
 | non => cases r; rfl
 | bl _ => cases r; rfl
 | int _ => obtain ⟨t, rfl⟩ := r; rfl
 | str _ => obtain ⟨t, rfl⟩ := r; rfl
 | byt _ => obtain ⟨t, rfl⟩ := r; rfl
 | flt _ => obtain ⟨t, rfl⟩ := r; rfl
 | ref _ => cases r; rfl
 | ty _ => cases r; rfl
theorem pc_isN {j pos'} (ha : PE X a ta) : PC X .Is a (.Constant .none j pos') (tIsN ta) := by
 intro pins s σ H Q I h
 refine thn (ha pins s σ H _ I h) fun v s1 ⟨x, H1, I1, r1, q1⟩ => ?_
 exact Constant_none (is_none_gen ⟨.bl _, H1, I1, by rw [r1.none_iff]; rfl, q1⟩)
theorem pc_notN {j pos'} (ha : PE X a ta) : PC X .IsNot a (.Constant .none j pos') (tNotN ta) := by
 intro pins s σ H Q I h
 refine thn (ha pins s σ H _ I h) fun v s1 ⟨x, H1, I1, r1, q1⟩ => ?_
 exact Constant_none (isnot_none_gen ⟨.bl _, H1, I1, by rw [r1.none_iff]; rfl, q1⟩)
def tB (t : TE) : TT := fun σ H Q => t σ H fun x H1 => ∃ c, x = .bl c /\ Q c H1
theorem pe_cmp {op : CmpOp} {t : TE} (h : PC X op a b t) (h1 : behindInMarks op b = false := by first | exact nobehind _ (by decide) (by decide) | rfl) : PE X (.Compare a [op] [b] pos) t := fun pins s σ H Q I hw => wpAny_Compare1 (h pins s σ H Q I hw) h1
theorem pt_cmp {op : CmpOp} {t : TE} (h : PC X op a b t) (h1 : behindInMarks op b = false := by first | exact nobehind _ (by decide) (by decide) | rfl) : PT X (.Compare a [op] [b] pos) (tB t) := by
 intro pins s σ H Q I hw
 refine wpAny_isTrue_Compare1 (thn (h pins s σ H _ I hw) fun v s1 h1 => thn h1 fun u s2 h2 => thn h2 fun c s3 ⟨x, H1, I1, r1, q1⟩ => ?_) h1
 obtain ⟨d, rfl, q⟩ := q1
 cases r1
 exact wpAny_truthy_bool ⟨H1, I1, q⟩
theorem pt_val {e : Expr} {t : TE} (h : PE X e t) (he : ∀ whole, isTrue e X.env whole = (do let v <- whole; standAt e.pos; holding [v] (truthy v)) := by intro _; rfl) : PT X e (tB t) := by
 intro pins s σ H Q I hw
 refine isTrue_plain (thn (h pins s σ H _ I hw) fun v s1 ⟨x, H1, I1, r1, q1⟩ => ?_) (he _)
 obtain ⟨d, rfl, q⟩ := q1
 cases r1
 exact wpAny_truthy_bool ⟨H1, I1, q⟩
variable {tA tB' : TT} {rest : List Expr}
def tAnd (t u : TT) : TT := fun σ H Q => t σ H fun c H1 => if c = true then u σ H1 Q else Q false H1
def tOr (t u : TT) : TT := fun σ H Q => t σ H fun c H1 => if c = true then Q true H1 else u σ H1 Q
def tNot (t : TT) : TT := fun σ H Q => t σ H fun c H1 => Q (!c) H1
theorem pw_and1 (ha : PT X a tA) : PW X (.BoolOp .And [a] pos) tA := by
 intro wh pins s σ H Q I h
 refine isTrue_and (thn (ha pins s σ H Q I h) fun c s1 e => ?_)
 cases c with
 | true => exact isTrue_and_nil e
 | false => exact e
theorem pw_or1 (ha : PT X a tA) : PW X (.BoolOp .Or [a] pos) tA := by
 intro wh pins s σ H Q I h
 refine isTrue_or (thn (ha pins s σ H Q I h) fun c s1 e => ?_)
 cases c with
 | false => exact isTrue_or_nil e
 | true => exact e
theorem pw_and (ha : PT X a tA) (hb : PW X (.BoolOp .And (b :: rest) pos) tB') : PW X (.BoolOp .And (a :: b :: rest) pos) (tAnd tA tB') := by
 intro wh pins s σ H Q I h
 refine isTrue_and (thn (ha pins s σ H _ I h) fun c s1 ⟨H1, I1, q1⟩ => ?_)
 cases c with
 | true => exact hb wh pins s1 σ H1 Q I1 q1
 | false => exact ⟨H1, I1, q1⟩
theorem pw_or (ha : PT X a tA) (hb : PW X (.BoolOp .Or (b :: rest) pos) tB') : PW X (.BoolOp .Or (a :: b :: rest) pos) (tOr tA tB') := by
 intro wh pins s σ H Q I h
 refine isTrue_or (thn (ha pins s σ H _ I h) fun c s1 ⟨H1, I1, q1⟩ => ?_)
 cases c with
 | true => exact ⟨H1, I1, q1⟩
 | false => exact hb wh pins s1 σ H1 Q I1 q1
theorem pt_not (ha : PT X a tA) : PT X (.UnaryOp .Not a pos) (tNot tA) := by
 intro pins s σ H Q I h
 exact isTrue_not (ha pins s σ H (fun c H1 => Q (!c) H1) I h)
def tAndV (ta tb : TE) : TE := fun σ H Q => ta σ H fun x H1 => ∃ c, x = .bl c /\ if c = true then tb σ H1 Q else Q (.bl false) H1
def tOrV (ta tb : TE) : TE := fun σ H Q => ta σ H fun x H1 => ∃ c, x = .bl c /\ if c = true then Q (.bl true) H1 else tb σ H1 Q
def tNotV (ta : TE) : TE := fun σ H Q => ta σ H fun x H1 => ∃ c, x = .bl c /\ Q (.bl (!c)) H1
theorem pe_one {op} {t : TE} (h : PE X a t) : PE X (.BoolOp op [a] pos) t := fun pins s σ H Q I hw => BoolOp_one (h pins s σ H Q I hw)
theorem pe_and (ha : PE X a ta) (hb : PE X (.BoolOp .And (b :: rest) pos) tb) : PE X (.BoolOp .And (a :: b :: rest) pos) (tAndV ta tb) := by
 intro pins s σ H Q I h
 refine BoolOp_and (thn (ha pins s σ H _ I h) fun v s1 ⟨x, H1, I1, r1, q1⟩ => ?_)
 obtain ⟨c, rfl, q1⟩ := q1
 cases r1
 refine wpAny_truthy_bool ?_
 cases c with
 | true => exact hb pins s1 σ H1 Q I1 q1
 | false => exact ⟨.bl false, H1, I1, rfl, q1⟩
theorem pe_or (ha : PE X a ta) (hb : PE X (.BoolOp .Or (b :: rest) pos) tb) : PE X (.BoolOp .Or (a :: b :: rest) pos) (tOrV ta tb) := by
 intro pins s σ H Q I h
 refine BoolOp_or (thn (ha pins s σ H _ I h) fun v s1 ⟨x, H1, I1, r1, q1⟩ => ?_)
 obtain ⟨c, rfl, q1⟩ := q1
 cases r1
 refine wpAny_truthy_bool ?_
 cases c with
 | false => exact hb pins s1 σ H1 Q I1 q1
 | true => exact ⟨.bl true, H1, I1, rfl, q1⟩
theorem pe_not (ha : PE X a ta) : PE X (.UnaryOp .Not a pos) (tNotV ta) := by
 intro pins s σ H Q I h
 refine UnaryOp_ (thn (ha pins s σ H _ I h) fun v s1 ⟨x, H1, I1, r1, q1⟩ => ?_)
 obtain ⟨c, rfl, q1⟩ := q1
 cases r1
 exact not_of (wpAny_truthy_bool ⟨.bl (!c), H1, I1, rfl, q1⟩)
def tIf (t : TT) (ta tb : TE) : TE := fun σ H Q => t σ H fun c H1 => if c = true then ta σ H1 Q else tb σ H1 Q
theorem pe_ifExp {c : Expr} (hc : PT X c tA) (ha : PE X a ta) (hb : PE X b tb) : PE X (.IfExp c a b pos) (tIf tA ta tb) := by
 intro pins s σ H Q I h
 refine wpAny_IfExp (thn (hc pins s σ H _ I h) fun d s1 ⟨H1, I1, q1⟩ => ?_)
 cases d with
 | true => exact ha pins s1 σ H1 Q I1 q1
 | false => exact hb pins s1 σ H1 Q I1 q1
end
end L2
namespace L2
open PySem PySem.Spec PyProof.Rows
def SqL (K : PySem.W.Frag) (H : Hp) (a : Addr) (xs : List V) : Prop :=
 Rd H a (.lst xs) ∨
   ∃ (o : Obj) (its : Array Value) (n : Nat), K.lookup a = some o /\ o.cls = .type "list" /\ o.dict = none /\ o.data = .seq its n /\ its.size <= sizeLine /\ Vals xs its.toList
def SqT (K : PySem.W.Frag) (H : Hp) (a : Addr) (xs : List V) : Prop :=
 Rd H a (.tup xs) ∨
   ∃ (o : Obj) (its : Array Value) (n : Nat), K.lookup a = some o /\ o.cls = .type "tuple" /\ o.data = .seq its n /\ its.size <= sizeLine /\ Vals xs its.toList
def absV : Value -> Option V
 | .none => some .non
 | .bool b => some (.bl b)
 | .int i _ => some (.int i)
 | .str x _ => some (.str x)
 | .bytes b _ => some (.byt b)
 | .float b _ => some (.flt b)
 | .ref a => some (.ref a)
 | .type n => some (.ty n)
 | _ => none
theorem RelV.abs {x : V} {u : Value} (r : RelV x u) : absV u = some x := by
 cases x with
 | non => cases r; rfl
 | bl _ => cases r; rfl
 | int _ => obtain ⟨t, rfl⟩ := r; rfl
 | str _ => obtain ⟨t, rfl⟩ := r; rfl
 | byt _ => obtain ⟨t, rfl⟩ := r; rfl
 | flt _ => obtain ⟨t, rfl⟩ := r; rfl
 | ref _ => cases r; rfl
 | ty _ => cases r; rfl
theorem RelV.inj {x y : V} {u : Value} (r : RelV x u) (q : RelV y u) : x = y := Option.some.inj (r.abs.symm.trans q.abs)
theorem Vals.inj : ∀ {xs ys : List V} {us : List Value}, Vals xs us -> Vals ys us -> xs = ys
 | _, _, _, .nil, .nil => rfl
 | _, _, _, .cons r t, .cons r' t' => by rw [r.inj r', Vals.inj t t']
section
variable {X : Cx} {pins : List (Addr × Obj)} {σ : St} {H : Hp} {s : Shared} {a : Addr} {xs ys : List V}
theorem SqL.of {K : PySem.W.Frag} (h : H a = some (.lst xs)) : SqL K H a xs := .inl (.inl h)
theorem SqT.of {K : PySem.W.Frag} (h : H a = some (.tup xs)) : SqT K H a xs := .inl (.inl h)
theorem Inv.list (I : Inv X pins σ H s) (h : SqL X.K H a xs) : ∃ its : List Value, Vals xs its /\ PlainL s.heap a its.toArray /\ xs.length <= sizeLine := by
 rcases h with h | ⟨o, its, n, hk, hc, hd, hs, hz, r⟩
 · obtain ⟨z, its, n, r, e⟩ := h.ok I.hok
   exact ⟨its, r, ⟨_, n, e, rfl, rfl, rfl⟩, z⟩
 · refine ⟨its.toList, r, ⟨o, n, I.kIn a o hk, hc, hd, by simpa using hs⟩, ?_⟩
   have e := r.length
   simp only [Array.length_toList] at e
   omega
theorem Inv.tuple (I : Inv X pins σ H s) (h : SqT X.K H a xs) : ∃ its : List Value, Vals xs its /\ IsTup s.heap a its.toArray /\ xs.length <= sizeLine := by
 rcases h with h | ⟨o, its, n, hk, hc, hs, hz, r⟩
 · obtain ⟨z, its, r, p⟩ := h.ok I.hok
   exact ⟨its, r, p, z⟩
 · refine ⟨its.toList, r, ⟨o, I.kIn a o hk, hc, n, by simpa using hs⟩, ?_⟩
   have e := r.length
   simp only [Array.length_toList] at e
   omega
theorem Inv.list_inj (I : Inv X pins σ H s) (h : SqL X.K H a xs) (h' : SqL X.K H a ys) : xs = ys := by
 obtain ⟨its, r, ⟨o, n, e, _, _, d⟩, _⟩ := I.list h
 obtain ⟨its', r', ⟨o', n', e', _, _, d'⟩, _⟩ := I.list h'
 rw [e] at e'; cases e'
 rw [d] at d'
 injection d' with d1 _
 have : its = its' := by simpa using congrArg Array.toList d1
 subst this
 exact r.inj r'
theorem Inv.tuple_inj (I : Inv X pins σ H s) (h : SqT X.K H a xs) (h' : SqT X.K H a ys) : xs = ys := by
 obtain ⟨its, r, ⟨o, e, _, n, d⟩, _⟩ := I.tuple h
 obtain ⟨its', r', ⟨o', e', _, n', d'⟩, _⟩ := I.tuple h'
 rw [e] at e'; cases e'
 rw [d] at d'
 injection d' with d1 _
 have : its = its' := by simpa using congrArg Array.toList d1
 subst this
 exact r.inj r'
end
abbrev Cx.wish (X : Cx) (E : Value -> Shared -> Prop) : Cx := { X with xe := E }
abbrev Cx.nox (X : Cx) : Cx := X.wish fun _ _ => False
theorem Cx.Ok.wish {X : Cx} (ok : X.Ok) (E : Value -> Shared -> Prop) : (X.wish E).Ok :=
 ⟨ok.mod, ok.kind, ok.glob, ok.blt, ok.above, ok.inj, ok.has, ok.cab, ok.hd, ok.frames, ok.stk, ok.exf, ok.bs, ok.bsz, ok.noex, ok.exfs, ok.funs, ok.frf⟩
theorem Cx.Ok.unwish {X : Cx} {E : Value -> Shared -> Prop} (ok : (X.wish E).Ok) : X.Ok :=
 ⟨ok.mod, ok.kind, ok.glob, ok.blt, ok.above, ok.inj, ok.has, ok.cab, ok.hd, ok.frames, ok.stk, ok.exf, ok.bs, ok.bsz, ok.noex, ok.exfs, ok.funs, ok.frf⟩
section
variable {X : Cx} {pins : List (Addr × Obj)} {σ : St} {H : Hp} {s : Shared} {E : Value -> Shared -> Prop}
theorem Inv.wish (I : Inv X pins σ H s) (E : Value -> Shared -> Prop) : Inv (X.wish E) pins σ H s := ⟨I.ok.wish E, I.os, I.bare, I.base, I.loc, I.cell, I.free, I.freeC, I.pin, I.hok, I.len⟩
theorem Inv.unwish (I : Inv (X.wish E) pins σ H s) : Inv X pins σ H s := ⟨I.ok.unwish, I.os, I.bare, I.base, I.loc, I.cell, I.free, I.freeC, I.pin, I.hok, I.len⟩
theorem SP.unwish {D : Ends} {f : Flow} {s' : Shared} (h : SP (X.wish E) pins D f s') : SP X pins D f s' := by
 cases f with
 | next => obtain ⟨σ', H', I, q⟩ := h; exact ⟨σ', H', I.unwish, q⟩
 | brk => obtain ⟨σ', H', I, q⟩ := h; exact ⟨σ', H', I.unwish, q⟩
 | cont => obtain ⟨σ', H', I, q⟩ := h; exact ⟨σ', H', I.unwish, q⟩
 | ret u => obtain ⟨v, σ', H', I, r, q⟩ := h; exact ⟨v, σ', H', I.unwish, r, q⟩
theorem PE.nox {e : Expr} {t : TE} (h : PE X.nox e t) : PE X e t := fun pins s σ H Q I hw =>
 wpAny_mono (h pins s σ H Q (I.wish _) hw) (fun _ _ ⟨v, H', I', r, q⟩ => ⟨v, H', I'.unwish, r, q⟩) fun _ _ z => False.elim z
theorem PT.nox {e : Expr} {t : TT} (h : PT X.nox e t) : PT X e t := fun pins s σ H Q I hw =>
 wpAny_mono (h pins s σ H Q (I.wish _) hw) (fun _ _ ⟨H', I', q⟩ => ⟨H', I'.unwish, q⟩) fun _ _ z => False.elim z
theorem PSs.nox {st : List Stmt} {t : TS} (h : PSs X.nox st t) : PSs X st t := fun pins s σ H D I hw =>
 wpAny_mono (h pins s σ H D (I.wish _) hw) (fun _ _ q => q.unwish) fun _ _ z => False.elim z
end
section
variable {X : Cx} {st : Stmt} {rest : List Stmt} {t u : TS} {e : Expr} {te : TE} {pos : Pos}
def tNext : TS := fun D σ H => D.nx σ H
def tSeq (t u : TS) : TS := fun D σ H => t { D with nx := u D } σ H
theorem pss_nil : PSs X [] tNext := fun _ _ σ H _ I h => wpAny_execs_nil ⟨σ, H, I, h⟩
theorem pss_cons (h1 : PS X st t) (h2 : PSs X rest u) : PSs X (st :: rest) (tSeq t u) := by
 intro pins s σ H D I h
 refine wpAny_execs_cons (thn (h1 pins s σ H { D with nx := u D } I h) fun f s1 q => ?_)
 cases f with
 | next =>
   obtain ⟨σ', H', I', q⟩ := q
   exact h2 pins s1 σ' H' D I' q
 | ret v => exact q
 | brk => exact q
 | cont => exact q
theorem pss_one (h1 : PS X st t) : PSs X [st] t := by
 intro pins s σ H D I h
 refine wpAny_execs_cons (thn (h1 pins s σ H D I h) fun f s1 q => ?_)
 cases f with
 | next => exact wpAny_execs_nil q
 | ret v => exact q
 | brk => exact q
 | cont => exact q
def tBreak : TS := fun D σ H => D.bk σ H
def tCont : TS := fun D σ H => D.ct σ H
theorem ps_pass : PS X (.Pass pos) tNext := fun _ _ σ H _ I h => wpAny_Pass ⟨σ, H, I, h⟩
theorem ps_break : PS X (.Break pos) tBreak := fun _ _ σ H _ I h => wpAny_Break ⟨σ, H, I, h⟩
theorem ps_continue : PS X (.Continue pos) tCont := fun _ _ σ H _ I h => wpAny_Continue ⟨σ, H, I, h⟩
theorem Inv.quiet {pins : List (Addr × Obj)} {σ : St} {H : Hp} {s : Shared} (I : Inv X pins σ H s) : interactive X.env = false := by simp [interactive, I.ok.kind]
theorem ps_doc {x j pos pos'} : PS X (.Expr (.Constant (.str x) j pos) pos') tNext := fun _ s σ H _ I h => wpAny_Expr (Calls.Constant_str (show SP X _ _ .next { s with toks := s.toks + 1 } from ⟨σ, H, I.tok _, h⟩)) I.quiet
def tDrop (te : TE) : TS := fun D σ H => te σ H fun _ H1 => D.nx σ H1
theorem ps_expr (he : PE X e te) (hs : swapsWith e none pos.line X.env = pure false := by rfl) : PS X (.Expr e pos) (tDrop te) := by
 intro pins s σ H D I h
 exact wpAny_Expr_any (thn (he pins s σ H _ I h) fun v s1 ⟨x, H1, I1, r1, q1⟩ => ⟨σ, H1, I1, q1⟩) I.quiet hs
def tRet (te : TE) : TS := fun D σ H => te σ H D.rt
theorem ps_ret (he : PE X e te) : PS X (.Return (some e) pos) (tRet te) := by
 intro pins s σ H D I h
 exact wpAny_Return_some (thn (he pins s σ H _ I h) fun v s1 ⟨x, H1, I1, r1, q1⟩ => ⟨x, σ, H1, I1, r1, q1⟩)
def tRetN : TS := fun D _ H => D.rt .non H
theorem ps_retN : PS X (.Return none pos) tRetN := fun _ _ σ H _ I h => wpAny_Return_none ⟨.non, σ, H, I, rfl, h⟩
def tIfS (c : TT) (t u : TS) : TS := fun D σ H => c σ H fun b H1 => if b = true then t D σ H1 else u D σ H1
theorem ps_if {c : Expr} {a b : List Stmt} {tc : TT} (hc : PT X c tc) (ha : PSs X a t) (hb : PSs X b u) : PS X (.If c a b pos) (tIfS tc t u) := by
 intro pins s σ H D I h
 refine wpAny_If (thn (hc pins s σ H _ I h) fun d s1 ⟨H1, I1, q1⟩ => ?_)
 cases d with
 | true => exact ha pins s1 σ H1 D I1 q1
 | false => exact hb pins s1 σ H1 D I1 q1
def tNever : TS := fun _ _ _ => False
theorem ps_never : PS X st tNever := fun _ _ _ _ _ _ h => h.elim
theorem pss_never {sts : List Stmt} : PSs X sts tNever := fun _ _ _ _ _ _ h => h.elim
end
abbrev TG := V -> St -> Hp -> (St -> Hp -> Prop) -> Prop
abbrev TGs := List V -> St -> Hp -> (St -> Hp -> Prop) -> Prop
def PG (X : Cx) (target : Expr) (t : TG) : Prop :=
 ∀ (pins : List (Addr × Obj)) (s : Shared) (σ : St) (H : Hp) (v : V) (u : Value) (Q : St -> Hp -> Prop), Inv X pins σ H s -> RelV v u -> t v σ H Q ->
   wpAny (model X.prog X.w) X.A (assign target X.env u) (fun _ s' => ∃ σ' H', Inv X pins σ' H' s' /\ Q σ' H') X.xe s
def PGs (X : Cx) (ts : List Expr) (t : TGs) : Prop :=
 ∀ (pins : List (Addr × Obj)) (s : Shared) (σ : St) (H : Hp) (vs : List V) (us : List Value) (Q : St -> Hp -> Prop), Inv X pins σ H s -> Vals vs us -> t vs σ H Q ->
   wpAny (model X.prog X.w) X.A (assignInOrder ((assignEach ts X.env).map (·.2)) us) (fun _ s' => ∃ σ' H', Inv X pins σ' H' s' /\ Q σ' H') X.xe s
abbrev TSet := V -> V -> V -> Hp -> (Hp -> Prop) -> Prop
def PSet (X : Cx) (t : TSet) : Prop :=
 ∀ (pins : List (Addr × Obj)) (s : Shared) (σ : St) (H : Hp) (o i v : V) (ov iv u : Value) (Q : Hp -> Prop), Inv X pins σ H s -> RelV o ov -> RelV i iv -> RelV v u -> t o i v H Q ->
   wpAny (model X.prog X.w) X.A (setItem ov iv u) (fun _ s' => ∃ H', Inv X pins σ H' s' /\ Q H') X.xe s
abbrev TIp := V -> V -> Hp -> VK -> Prop
def PIp (X : Cx) (op : Operator) (t : TIp) : Prop :=
 ∀ (pins : List (Addr × Obj)) (s : Shared) (σ : St) (H : Hp) (x y : V) (v u : Value) (Q : VK), Inv X pins σ H s -> RelV x v -> RelV y u -> t x y H Q ->
   wpAny (model X.prog X.w) X.A (inplaceOp op v u) (EP X pins σ Q) X.xe s
section
variable {X : Cx} {pos : Pos}
def gName (i : Nat) : TG := fun v σ H Q => Q (σ.set i (some v)) H
theorem pg_name {i : Nat} {x : Str} (hN : X.N.Nodup) (hi : X.N[i]? = some x) (hx : Loc X.env.scope x) (hf : X.fn x = true ∨ X.env.scope.names.lookup x = some .local := by first | exact .inl rfl | exact .inr rfl | assumption) : PG X (.Name x pos) (gName i) := by
 intro pins s σ H v u Q I r h
 exact wpAny_assign_Name (store_ok I hN hi hx r (fun s' I' => ⟨_, H, I', h⟩) hf)
def gNil : TGs := fun vs σ H Q => vs = [] /\ Q σ H
def gCons (t : TG) (u : TGs) : TGs := fun vs σ H Q => ∃ v r, vs = v :: r /\ t v σ H fun σ' H' => u r σ' H' Q
theorem pgs_nil : PGs X [] gNil := by
 intro pins s σ H vs us Q I r h
 obtain ⟨e, h⟩ := h
 subst e
 cases r
 exact assignInOrder_nil ⟨σ, H, I, h⟩
theorem pgs_cons {e : Expr} {es : List Expr} {t : TG} {u : TGs} (h1 : PG X e t) (h2 : PGs X es u)
   (hs : (assignEach (e :: es) X.env).map (·.2) = assign e X.env :: (assignEach es X.env).map (·.2) := by rfl) : PGs X (e :: es) (gCons t u) := by
 intro pins s σ H vs us Q I r h
 obtain ⟨v, vr, e1, h⟩ := h
 subst e1
 cases r with
 | cons r rr =>
   rw [hs]
   refine assignInOrder_cons (thn (h1 pins s σ H _ _ _ I r h) fun _ s1 ⟨σ1, H1, I1, q1⟩ => ?_)
   exact h2 pins s1 σ1 H1 _ _ Q I1 rr q1
def gTup (K : PySem.W.Frag) (n : Nat) (t : TGs) : TG := fun v σ H Q => ∃ a xs, v = .ref a /\ SqT K H a xs /\ xs.length = n /\ t xs σ H Q
theorem pg_tup {es : List Expr} {k : Nat} {t : TGs} {n : Nat} (hc : X.calm = true) (h : PGs X es t)
   (hn : (assignEach es X.env).length = n := by rfl) (hst : (assignEach es X.env).findIdx? (·.1) = none := by rfl) : PG X (.Tuple es k pos) (gTup X.K n t) := by
 intro pins s σ H v u Q I r hw
 obtain ⟨a, xs, e1, hq, hl, hw⟩ := hw
 subst e1
 cases r
 obtain ⟨its, rv, ht, hz⟩ := I.tuple hq
 refine assign_Tuple_tuple (I.ok.hd hc) ht (by simp [hn, <- hl, rv.length]) hst fun h' hx => ?_
 have I1 : Inv X pins σ H { s with heap := h' } := I.kept (t' := s.toks) fun b o e => hx b o (Nat.ne_of_lt (Heap.lt_size e)) e
 exact h pins _ σ H xs _ Q I1 (by simpa using rv) hw
def gSub (to ti : TE) (t : TSet) : TG := fun v σ H Q => to σ H fun o H1 => ti σ H1 fun i H2 => t o i v H2 fun H3 => Q σ H3
theorem pg_sub {o i : Expr} {to ti : TE} {t : TSet} (ho : PE X o to) (hi : PE X i ti) (hs : PSet X t)
   (ha : ∀ v, assign (.Subscript o i pos) X.env v = (do
     let ov <- holding [v] (eval o X.env)
     let iv <- holding [v, ov] (eval i X.env)
     standAt pos
     holding [v, ov, iv] (setItem ov iv v)
     release [v, ov, iv] []) := by intro _; rfl) : PG X (.Subscript o i pos) (gSub to ti t) := by
 intro pins s σ H v u Q I r h
 rw [ha]
 refine wpAny_bind (wpAny_holding (thn (ho pins s σ H _ I h) fun ov s1 ⟨x, H1, I1, r1, q1⟩ => ?_))
 refine wpAny_bind (wpAny_holding (thn (hi pins s1 σ H1 _ I1 q1) fun iv s2 ⟨y, H2, I2, r2, q2⟩ => ?_))
 refine wpAny_bind (wpAny_standAt (wpAny_bind (wpAny_holding (thn (hs pins s2 σ H2 x y v ov iv u _ I2 r1 r2 r q2) fun _ s3 ⟨H3, I3, q3⟩ => ?_))))
 exact wpAny_release ⟨σ, H3, I3, q3⟩
def tAsg (te : TE) (g : TG) : TS := fun D σ H => te σ H fun x H1 => g x σ H1 D.nx
theorem ps_asg {tg e : Expr} {te : TE} {g : TG} (he : PE X e te) (hg : PG X tg g) (hs : swapsWithSole [tg] e pos.line X.env = pure false := by rfl) (hw : swappedStores [tg] e X.env = pure none := by rfl)
   (h1 : (assignEach [tg] X.env).map (·.2) = [assign tg X.env] := by rfl) : PS X (.Assign [tg] e pos) (tAsg te g) := by
 intro pins s σ H D I h
 refine wpAny_Assign_stores (thn (he pins s σ H _ I h) fun v s1 ⟨x, H1, I1, r1, q1⟩ => ?_) hs hw
 rw [h1]
 exact thn (hg pins s1 σ H1 x v _ I1 r1 q1) fun _ s2 q => q
theorem ps_set {i : Nat} {x : Str} {e : Expr} {te : TE} {pos' : Pos} (hN : X.N.Nodup) (hi : X.N[i]? = some x) (hx : Loc X.env.scope x) (he : PE X e te) (hs : swapsWith e (some (.Name x pos')) pos.line X.env = pure false := by rfl) (hf : X.fn x = true ∨ X.env.scope.names.lookup x = some .local := by first | exact .inl rfl | exact .inr rfl | assumption) :
   PS X (.Assign [.Name x pos'] e pos) (tAsg te (gName i)) := by
 intro pins s σ H D I h
 refine wpAny_Assign_Name (thn (he pins s σ H _ I h) fun v s1 ⟨y, H1, I1, r1, q1⟩ => ?_) hs
 exact store_ok I1 hN hi hx r1 (fun s2 I2 => ⟨_, H1, I2, q1⟩) hf
def tPar (i j : Nat) (ta : TA) : TS := fun D σ H => ta σ H fun vs H1 => ∃ v w, vs = [v, w] /\ D.nx ((σ.set i (some v)).set j (some w)) H1
theorem ps_par {i j : Nat} {x y : Str} {a b : Expr} {ta : TA} {px py pt : Pos} {kt k2 pt2} (hc : X.calm = true) (hN : X.N.Nodup) (hi : X.N[i]? = some x) (hj : X.N[j]? = some y) (hij : i ≠ j)
   (hx : X.env.scope.names.lookup x = some .local) (hy : X.env.scope.names.lookup y = some .local) (ha : PA X [a, b] ta)
   (hw : swappedStores [.Tuple [.Name x px, .Name y py] kt pt] (.Tuple [a, b] k2 pt2) X.env = pure (some [x, y]))
   (hs : swapsWithSole [.Tuple [.Name x px, .Name y py] kt pt] (.Tuple [a, b] k2 pt2) pos.line X.env = pure false := by rfl) :
   PS X (.Assign [.Tuple [.Name x px, .Name y py] kt pt] (.Tuple [a, b] k2 pt2) pos) (tPar i j ta) := by
 intro pins s σ H D I h
 rw [exec_Assign_arm]
 refine wpAny_bind (wpAny_standAt ?_)
 rw [hs]
 refine wpAny_bind (wpAny_pure ?_)
 rw [if_neg (by decide)]
 refine wpAny_bind (Tuple_ (thn (ha _ pins s σ H _ I h) fun us s1 ⟨vs, H1, I1, r1, q1⟩ => ?_))
 obtain ⟨v, w, e1, q1⟩ := q1
 subst e1
 obtain ⟨u1, u2, rfl, rv, rw'⟩ : ∃ u1 u2, us = [u1, u2] /\ RelV v u1 /\ RelV w u2 := by
   cases r1 with
   | cons p q =>
     cases q with
     | cons p' q' =>
       cases q'
       exact ⟨_, _, rfl, p, p'⟩
 refine wpAny_newObj_type ?_ (by show 2 <= sizeLine; decide)
 have I2 : Inv X pins σ H1 { s1 with heap := s1.heap.push { cls := .type "tuple", data := .seq [u1, u2].toArray } } := I1.kept (t' := s1.toks) fun b o e => Heap.get?_push_of_some _ e
 rw [hw]
 refine wpAny_bind (wpAny_pure ?_)
 show wpAny (model X.prog X.w) X.A (do rule "assign.swapped-stores"; let items <- unpackItems (.ref s1.heap.objs.size) 2 none; assignInOrder [fun v => bindName X.env y v, fun v => bindName X.env x v] items.reverse; pure Flow.next) _ _ _
 refine wpAny_bind (wpAny_rule (wpAny_bind (unpackItems_tuple (items := #[u1, u2]) (I.ok.hd hc) (IsTup.new s1.heap _) fun h' hx' => ?_)))
 have I3 := I2.kept (h' := h') (t' := s1.toks) fun b o e => hx' b o (Nat.ne_of_lt (Heap.lt_size e)) e
 show wpAny _ _ (assignInOrder [fun v => bindName X.env y v, fun v => bindName X.env x v] [u2, u1] >>= fun _ => pure Flow.next) _ _ _
 refine wpAny_bind (assignInOrder_cons (wpAny_bindName (store_ok I3 hN hj (.inl hy) rw' (fun s2 I4 => ?_) (.inr hy))))
 refine assignInOrder_cons (wpAny_bindName (store_ok I4 hN hi (.inl hx) rv (fun s3 I5 => assignInOrder_nil (wpAny_pure ?_)) (.inr hx)))
 rw [List.set_comm _ _ (Ne.symm hij)] at I5
 exact ⟨_, H1, I5, q1⟩
def tAug (i : Nat) (te : TE) (ti : TIp) : TS := fun D σ H => ∃ x, σ[i]? = some (some x) /\ te σ H fun y H1 => ti x y H1 fun z H2 => D.nx (σ.set i (some z)) H2
theorem ps_aug {i : Nat} {x : Str} {e : Expr} {te : TE} {op : Operator} {ti : TIp} {pos' : Pos} (hN : X.N.Nodup) (hi : X.N[i]? = some x) (hx : Loc X.env.scope x) (he : PE X e te) (ho : PIp X op ti) (hf : X.fn x = true ∨ X.env.scope.names.lookup x = some .local := by first | exact .inl rfl | exact .inr rfl | assumption) :
   PS X (.AugAssign (.Name x pos') op e pos) (tAug i te ti) := by
 intro pins s σ H D I h
 obtain ⟨v, e1, h⟩ := h
 obtain ⟨m, hn, hl⟩ := I.loc
 have vis : Vis X.env.scope x := by rcases hx with k | k; exact .inl k; exact .inr (.inl k)
 obtain ⟨u, r, l⟩ := hl i x v hi e1 vis
 refine wpAny_AugAssign_Name ?_
 have go : wpAny (model X.prog X.w) X.A (eval e X.env) (fun w s₂ => wpAny (model X.prog X.w) X.A (inplaceOp op u w) (fun r s₃ => wpAny (model X.prog X.w) X.A (storeName X.env x r) (fun _ => SP X pins D .next) X.xe s₃) X.xe s₂) X.xe s := by
   refine thn (he pins s σ H _ I h) fun w s1 ⟨y, H1, I1, r1, q1⟩ => ?_
   refine thn (ho pins s1 σ H1 v y u w _ I1 r r1 q1) fun z s2 ⟨zv, H2, I2, r2, q2⟩ => ?_
   exact store_ok I2 hN hi hx r2 (fun s3 I3 => ⟨_, H2, I3, q2⟩) hf
 rcases l with ⟨hk, hm⟩ | ⟨hk, c, hc, hcell⟩
 · exact wpAny_loadName_local I.ok.kind hk hn hm go
 · rcases hk with hk | hk
   · exact wpAny_loadName_cell I.ok.kind hk hc hcell go
   · rcases hx with k | k
     · have : X.env.scope.names.lookup x = some .free := hk
       rw [k] at this; cases this
     · have : X.env.scope.names.lookup x = some .free := hk
       rw [k] at this; cases this
def tAugS (to ti te : TE) (tget : V -> V -> Hp -> VK -> Prop) (tip : TIp) (tset : TSet) : TS := fun D σ H => to σ H fun o H1 => ti σ H1 fun i H2 => tget o i H2 fun x H3 => te σ H3 fun y H4 => tip x y H4 fun z H5 => tset o i z H5 fun H6 => D.nx σ H6
def PGet (X : Cx) (t : V -> V -> Hp -> VK -> Prop) : Prop :=
 ∀ (pins : List (Addr × Obj)) (s : Shared) (σ : St) (H : Hp) (o i : V) (ov iv : Value) (Q : VK), Inv X pins σ H s -> RelV o ov -> RelV i iv -> t o i H Q ->
   wpAny (model X.prog X.w) X.A (getItem ov iv) (EP X pins σ Q) X.xe s
theorem ps_augS {o i e : Expr} {to ti te : TE} {tget : V -> V -> Hp -> VK -> Prop} {tip : TIp} {tset : TSet} {op : Operator} {tpos : Pos} (ho : PE X o to) (hi : PE X i ti) (hg : PGet X tget) (he : PE X e te) (hp : PIp X op tip) (hs : PSet X tset)
   (ha : ∀ ov iv new, augStore i ov iv new = (do holding [new, ov, iv] (setItem ov iv new); release [new, ov, iv] []; pure .next) := by intros; rfl) : PS X (.AugAssign (.Subscript o i tpos) op e pos) (tAugS to ti te tget tip tset) := by
 intro pins s σ H D I h
 refine wpAny_AugAssign_SubscriptAny (thn (ho pins s σ H _ I h) fun ov s1 ⟨x1, H1, I1, r1, q1⟩ => ?_) ha
 refine thn (hi pins s1 σ H1 _ I1 q1) fun iv s2 ⟨x2, H2, I2, r2, q2⟩ => ?_
 refine thn (hg pins s2 σ H2 x1 x2 ov iv _ I2 r1 r2 q2) fun old s3 ⟨x3, H3, I3, r3, q3⟩ => ?_
 refine thn (he pins s3 σ H3 _ I3 q3) fun v s4 ⟨x4, H4, I4, r4, q4⟩ => ?_
 refine thn (hp pins s4 σ H4 x3 x4 old v _ I4 r3 r4 q4) fun new s5 ⟨x5, H5, I5, r5, q5⟩ => ?_
 exact thn (hs pins s5 σ H5 x1 x2 x5 ov iv new _ I5 r1 r2 r5 q5) fun _ s6 ⟨H6, I6, q6⟩ => ⟨σ, H6, I6, q6⟩
def ipI (f : Int -> Int -> Int) : TIp := fun x y H Q => ∃ i j, x = .int i /\ y = .int j /\ Q (.int (f i j)) H
theorem ip_add : PIp X .Add (ipI fun i j => i + j) := by
 intro pins s σ H x y v u Q I r1 r2 h
 obtain ⟨i, j, e1, e2, q⟩ := h
 subst e1; subst e2
 obtain ⟨t, rfl⟩ := r1
 obtain ⟨t', rfl⟩ := r2
 exact iadd_int ⟨.int _, H, I.tok _, ⟨_, rfl⟩, q⟩
theorem ip_sub : PIp X .Sub (ipI fun i j => i - j) := by
 intro pins s σ H x y v u Q I r1 r2 h
 obtain ⟨i, j, e1, e2, q⟩ := h
 subst e1; subst e2
 obtain ⟨t, rfl⟩ := r1
 obtain ⟨t', rfl⟩ := r2
 exact isub_int ⟨.int _, H, I.tok _, ⟨_, rfl⟩, q⟩
end
section
variable {X : Cx} {pos : Pos}
def tWhile (c : TT) (tb : TS) : TS := fun D σ H => ∃ W : Nat -> St -> Hp -> Prop, (∃ m, W m σ H) /\ ∀ m σ H, W m σ H ->
 c σ H fun b H1 => if b = true then ∃ N : St -> Hp -> Prop, (∀ σ' H', N σ' H' -> ∃ m', m' < m /\ W m' σ' H') /\ tb { D with nx := N, ct := N, bk := D.nx } σ H1 else D.nx σ H1
theorem ps_while {c : Expr} {body : List Stmt} {tc : TT} {tb : TS} (hp : PassesOwn (model X.prog X.w) X.A X.env X.xe) (hc : PT X c tc) (hb : PSs X body tb) : PS X (.While c body [] pos) (tWhile tc tb) := by
 intro pins s σ H D I h
 obtain ⟨W, ⟨m0, w0⟩, turn⟩ := h
 refine wpAny_While (codeAny_whileLoop (fun n s' => ∃ σ' H', Inv X pins σ' H' s' /\ W n σ' H') ?_ m0 ⟨σ, H, I, w0⟩)
 rintro n s1 ⟨σ1, H1, I1, w1⟩
 refine wpAny_passesOwn hp (thn (hc pins s1 σ1 H1 _ I1 (turn n σ1 H1 w1)) fun b s2 ⟨H2, I2, q2⟩ => ?_)
 cases b with
 | true =>
   obtain ⟨N, hN, q2⟩ := q2
   rw [if_pos rfl]
   refine wpAny_passesOwn hp (thn (hb pins s2 σ1 H2 _ I2 q2) fun f s3 q3 => ?_)
   cases f with
   | next =>
     obtain ⟨σ3, H3, I3, n3⟩ := q3
     obtain ⟨m', hm, w3⟩ := hN σ3 H3 n3
     exact ⟨m', hm, σ3, H3, I3, w3⟩
   | cont =>
     obtain ⟨σ3, H3, I3, n3⟩ := q3
     obtain ⟨m', hm, w3⟩ := hN σ3 H3 n3
     exact ⟨m', hm, σ3, H3, I3, w3⟩
   | brk => exact q3
   | ret v => exact q3
 | false =>
   rw [if_neg Bool.false_ne_true]
   exact wpAny_execs_nil ⟨σ1, H2, I2, q2⟩
end
structure It where
 go : Nat -> Hp -> Prop
 yld : Nat -> Hp -> V -> Hp -> Prop
 stop : Nat -> Hp -> Prop
def FpOk (X : Cx) (pins : List (Addr × Obj)) (H : Hp) (b : Addr) : Prop :=
 H b = none /\ b ≠ X.env.locals /\ b ∉ X.fs /\ (b ∈ X.ex ∨ X.s₀.heap.objs.size <= b) /\ (∀ x c, X.env.cells.lookup x = some c -> c ≠ b) /\ ∀ p ∈ X.pn ++ pins, p.1 ≠ b
theorem Inv.fpOk {X : Cx} {pins : List (Addr × Obj)} {σ : St} {H H' : Hp} {s : Shared} {b : Addr} (I : Inv X pins σ H s) (hb : s.heap.objs.size <= b) (hn : H' b = none) : FpOk X pins H' b := by
 refine ⟨hn, Nat.ne_of_gt (Nat.lt_of_lt_of_le I.lt hb), I.nofs hb, .inr (Nat.le_trans I.sz hb), fun x c e z => ?_, fun p hp z => ?_⟩
 · obtain ⟨v, q⟩ := I.cell x c e
   exact absurd (Nat.lt_of_lt_of_le q.lt (by rw [z]; exact hb)) (Nat.lt_irrefl _)
 · exact absurd (Nat.lt_of_lt_of_le (Heap.lt_size (I.pin p hp).1) (by rw [z]; exact hb)) (Nat.lt_irrefl _)
structure Turn (P : Program) (w : World) (K : PySem.W.Frag) (tg : Expr) (J : It) (fp : List Addr) (it : Addr) (tn : Nat -> Heap -> Prop) : Prop where
 mem : it ∈ fp
 obj : ∀ i h, tn i h -> ∀ b ∈ fp, ∃ o, h.get? b = some o /\ ∀ v, o.data ≠ .cell v
 keep : ∀ i h h', tn i h -> (∀ b ∈ fp, ∀ o, h.get? b = some o -> h'.get? b = some o) -> tn i h'
 item : ∀ (X : Cx), X.prog = P -> X.w = w -> X.K = K -> X.calm = true -> ∀ (i : Nat) (pins : List (Addr × Obj)) (s : Shared) (σ : St) (H : Hp) (E : Value -> Shared -> Prop), Inv X pins σ H s -> (∀ b ∈ fp, FpOk X pins H b) -> tn i s.heap -> J.go i H ->
   wpAny (model P w) X.A (pyNext (.ref it)) (fun r s1 => ∃ u, r = some u /\
     wpAny (model P w) X.A (letOwnedTupleGo tg (.ref it) u) (fun _ s2 => ∃ x H', Inv X pins σ H' s2 /\ RelV x u /\ J.yld i H x H' /\ tn (i + 1) s2.heap /\ ∀ b ∈ fp, H' b = none) E s1) E s
 done : ∀ (X : Cx), X.prog = P -> X.w = w -> X.K = K -> X.calm = true -> ∀ (i : Nat) (pins : List (Addr × Obj)) (s : Shared) (σ : St) (H : Hp) (E : Value -> Shared -> Prop), Inv X pins σ H s -> (∀ b ∈ fp, FpOk X pins H b) -> tn i s.heap -> J.stop i H ->
   wpAny (model P w) X.A (pyNext (.ref it)) (fun r s1 => r = none /\ Inv X pins σ H s1) E s
 self : ∀ (A : Around) (i : Nat) (s : Shared) (Q : Value -> Shared -> Prop) (E : Value -> Shared -> Prop), tn i s.heap -> Q (.ref it) s -> wpAny (model P w) A (pyIter (.ref it)) Q E s
abbrev TI := St -> Hp -> (It -> Hp -> Prop) -> Prop
def PIE (X : Cx) (pins : List (Addr × Obj)) (σ : St) (tg : Expr) (R : It -> Hp -> Prop) (itv : Value) (s2 : Shared) : Prop :=
 ∃ (it : Addr) (fp : List Addr) (tn : Nat -> Heap -> Prop) (J : It) (H' : Hp), itv = .ref it /\ Inv X pins σ H' s2 /\ Turn X.prog X.w X.K tg J fp it tn /\ tn 0 s2.heap /\ (∀ b ∈ fp, FpOk X pins H' b) /\ R J H'
def PI (X : Cx) (tg iter : Expr) (wi : TI) : Prop :=
 ∀ (pins : List (Addr × Obj)) (s : Shared) (σ : St) (H : Hp) (R : It -> Hp -> Prop), Inv X pins σ H s -> wi σ H R ->
   wpAny (model X.prog X.w) X.A (eval iter X.env) (fun v s1 => wpAny (model X.prog X.w) X.A (pyIter v) (PIE X pins σ tg R) X.xe s1) X.xe s
theorem go_of {M : Model} {A : Around} {E : Value -> Shared -> Prop} {s : Shared} {tg : Expr} {it : Addr} {u : Value} {o : Obj} {n : String} {vs : Array Value} {Q : Unit -> Shared -> Prop} (ho : s.heap.get? it = some o) (hc : o.cls = .type n) (hd : o.data = .fields vs)
   (hn : ["enumerate", "zip", "dict_itemiterator", "dict_reverseitemiterator", "odict_iterator", "itertools.zip_longest", "itertools.pairwise"].contains n = false) (hQ : Q () s) : wpAny M A (letOwnedTupleGo tg (.ref it) u) Q E s := by
 unfold letOwnedTupleGo
 cases tg <;> first
   | exact wpAny_pure hQ
   | (cases u <;> first
       | exact wpAny_pure hQ
       | (refine wpAny_bind (wpAny_load ho ?_)
          rw [hc, hd]
          show wpAny M A (if (["enumerate", "zip", "dict_itemiterator", "dict_reverseitemiterator", "odict_iterator", "itertools.zip_longest", "itertools.pairwise"].contains n && vs[0]? == some (rawInt _)) = true then _ else _) Q E s
          rw [if_neg (by intro h; rw [hn, Bool.false_and] at h; cases h)]
          exact wpAny_pure hQ))
def Itl (K : PySem.W.Frag) (a : Addr) : It :=
 ⟨fun i H => ∃ xs x, SqL K H a xs /\ xs[i]? = some x, fun i H x H' => H' = H /\ ∀ xs, SqL K H a xs -> xs[i]? = some x, fun i H => ∃ xs, SqL K H a xs /\ xs.length <= i⟩
def Itt (K : PySem.W.Frag) (a : Addr) : It :=
 ⟨fun i H => ∃ xs x, SqT K H a xs /\ xs[i]? = some x, fun i H x H' => H' = H /\ ∀ xs, SqT K H a xs -> xs[i]? = some x, fun i H => ∃ xs, SqT K H a xs /\ xs.length <= i⟩
def Itr (lo : Int) (n : Nat) : It := ⟨fun i _ => i < n, fun i H x H' => H' = H /\ x = .int (lo + i), fun i _ => n <= i⟩
theorem turn_list {P : Program} {w : World} {K : PySem.W.Frag} {tg : Expr} (a it : Addr) : Turn P w K tg (Itl K a) [it] it (fun i h => h.IsListIter it a i) where
 mem := by simp
 obj := fun i h st b hb => by
   have e : b = it := by simpa using hb
   subst e
   obtain ⟨o, e, c, d⟩ := st
   exact ⟨o, e, fun v z => by rw [d] at z; cases z⟩
 keep := fun i h h' st k => st.at fun o e => k it (by simp) o e
 item := by
   intro X hP hw hK hc i pins s σ H E I hf st hg
   subst hP hw hK
   obtain ⟨xs, x, hq, hx⟩ := hg
   obtain ⟨its, rv, p, hz⟩ := I.list hq
   obtain ⟨u, hu, ru⟩ := rv.get hx
   obtain ⟨f0, f1, f2, f3, f4, f5⟩ := hf it (by simp)
   refine wpAny_pyNext_list_item st p.isList (x := u) (by simpa using hu) fun h' st' sb => ?_
   have I1 : Inv X pins σ H { s with heap := h' } := I.turned (t' := s.toks) (fun b o hb e => (sb.2 b hb).trans e) f0 f1 f3 f4 f5
   obtain ⟨o, e, c, d⟩ := id st'
   exact ⟨u, rfl, go_of (s := { s with heap := h' }) e c d (by decide) ⟨x, H, I1, ru, ⟨rfl, fun ys hy => by rw [I.list_inj hy hq]; exact hx⟩, st', fun b hb => (hf b hb).1⟩⟩
 done := by
   intro X hP hw hK hc i pins s σ H E I hf st hg
   subst hP hw hK
   obtain ⟨xs, hq, hx⟩ := hg
   obtain ⟨its, rv, p, hz⟩ := I.list hq
   obtain ⟨f0, f1, f2, f3, f4, f5⟩ := hf it (by simp)
   have hl := rv.length
   exact wpAny_pyNext_list_end (I.ok.hd hc) st p.isList (by simp; omega) fun h' eb => ⟨rfl, I.turned (t' := s.toks) (fun b o hb e => eb b o hb e) f0 f1 f3 f4 f5⟩
 self := fun _ _ _ _ _ st h => wpAny_pyIter_listiter st h
theorem turn_tuple {P : Program} {w : World} {K : PySem.W.Frag} {tg : Expr} (a it : Addr) : Turn P w K tg (Itt K a) [it] it (fun i h => h.IsTupleIter it a i) where
 mem := by simp
 obj := fun i h st b hb => by
   have e : b = it := by simpa using hb
   subst e
   obtain ⟨o, e, c, d⟩ := st
   exact ⟨o, e, fun v z => by rw [d] at z; cases z⟩
 keep := fun i h h' st k => st.at fun o e => k it (by simp) o e
 item := by
   intro X hP hw hK hc i pins s σ H E I hf st hg
   subst hP hw hK
   obtain ⟨xs, x, hq, hx⟩ := hg
   obtain ⟨its, rv, p, hz⟩ := I.tuple hq
   obtain ⟨u, hu, ru⟩ := rv.get hx
   obtain ⟨f0, f1, f2, f3, f4, f5⟩ := hf it (by simp)
   refine wpAny_pyNext_tuple_item st (show s.heap.IsTuple a its.toArray from p) (x := u) (by simpa using hu) fun h' st' sb => ?_
   have I1 : Inv X pins σ H { s with heap := h' } := I.turned (t' := s.toks) (fun b o hb e => (sb.2 b hb).trans e) f0 f1 f3 f4 f5
   obtain ⟨o, e, c, d⟩ := id st'
   exact ⟨u, rfl, go_of (s := { s with heap := h' }) e c d (by decide) ⟨x, H, I1, ru, ⟨rfl, fun ys hy => by rw [I.tuple_inj hy hq]; exact hx⟩, st', fun b hb => (hf b hb).1⟩⟩
 done := by
   intro X hP hw hK hc i pins s σ H E I hf st hg
   subst hP hw hK
   obtain ⟨xs, hq, hx⟩ := hg
   obtain ⟨its, rv, p, hz⟩ := I.tuple hq
   obtain ⟨f0, f1, f2, f3, f4, f5⟩ := hf it (by simp)
   have hl := rv.length
   exact wpAny_pyNext_tuple_end (I.ok.hd hc) st (show s.heap.IsTuple a its.toArray from p) (by simp; omega) fun h' eb => ⟨rfl, I.turned (t' := s.toks) (fun b o hb e => eb b o hb e) f0 f1 f3 f4 f5⟩
 self := fun _ _ _ _ _ st h => wpAny_pyIter_tupleiter st h
theorem turn_range {P : Program} {w : World} {K : PySem.W.Frag} {tg : Expr} (it : Addr) (lo : Int) (n : Nat) : Turn P w K tg (Itr lo n) [it] it (fun i h => IsRangeIter h it (lo + (i : Nat) * 1) ((n : Int) - (i : Nat)) 1) where
 mem := by simp
 obj := fun i h st b hb => by
   have e : b = it := by simpa using hb
   subst e
   exact ⟨_, st, fun v z => by
     have z' : Data.fields _ = Data.cell v := z
     cases z'⟩
 keep := fun i h h' st k => k it (by simp) _ st
 item := by
   intro X hP hw hK hc i pins s σ H E I hf st hg
   subst hP hw hK
   obtain ⟨f0, f1, f2, f3, f4, f5⟩ := hf it (by simp)
   have W := Walks.range (prog := X.prog) (w := X.w) (I.ok.hd hc) it lo 1 n
   refine W.item i s _ _ hg st fun v h' tk hv st' kk => ?_
   obtain ⟨t, rfl⟩ := hv
   have I1 : Inv X pins σ H { s with heap := h', toks := tk } := I.turned (fun b o hb e => kk b o (by simpa using hb) e) f0 f1 f3 f4 f5
   refine ⟨_, rfl, go_of (s := { s with heap := h', toks := tk }) (n := "range_iterator") st' rfl rfl (by decide) ⟨.int (lo + i), H, I1, ⟨t, ?_⟩, ⟨rfl, rfl⟩, st', fun b hb => (hf b hb).1⟩⟩
   rw [Int.mul_one]
 done := by
   intro X hP hw hK hc i pins s σ H E I hf st hg
   subst hP hw hK
   obtain ⟨f0, f1, f2, f3, f4, f5⟩ := hf it (by simp)
   exact wpAny_pyNext_range_end (I.ok.hd hc) st (by have : n <= i := hg; omega) fun h' eb => ⟨rfl, I.turned (t' := s.toks) (fun b o hb e => eb b o hb e) f0 f1 f3 f4 f5⟩
 self := fun _ _ _ _ _ st h => wpAny_pyIter_rangeiter st h
end L2
namespace L2
open PySem PySem.Spec PyProof.Rows
section
variable {X : Cx} {tg : Expr}
def iList (K : PySem.W.Frag) (tl : TE) : TI := fun σ H R => tl σ H fun x H1 => ∃ a, x = .ref a /\ (∃ xs, SqL K H1 a xs) /\ R (Itl K a) H1
def iTup (K : PySem.W.Frag) (tl : TE) : TI := fun σ H R => tl σ H fun x H1 => ∃ a, x = .ref a /\ (∃ xs, SqT K H1 a xs) /\ R (Itt K a) H1
theorem pi_list {l : Expr} {tl : TE} (hl : PE X l tl) : PI X tg l (iList X.K tl) := by
 intro pins s σ H R I h
 refine thn (hl pins s σ H _ I h) fun v s1 ⟨x, H1, I1, r1, q1⟩ => ?_
 obtain ⟨a, e, ⟨xs, hq⟩, q⟩ := q1
 subst e
 cases r1
 obtain ⟨its, rv, p, hz⟩ := I1.list hq
 refine wpAny_pyIter_list p.isList ?_
 refine ⟨s1.heap.objs.size, [s1.heap.objs.size], _, _, H1, rfl, I1.kept (t' := s1.toks) fun b o e => Heap.get?_push_of_some _ e, turn_list a _, ⟨_, Heap.get?_push_size _ rfl, rfl, rfl⟩, fun b hb => ?_, q⟩
 have e : b = s1.heap.objs.size := by simpa using hb
 subst e
 exact I1.fpOk (Nat.le_refl _) (I1.hok.fresh (Nat.le_refl _))
theorem pi_tup {l : Expr} {tl : TE} (hl : PE X l tl) : PI X tg l (iTup X.K tl) := by
 intro pins s σ H R I h
 refine thn (hl pins s σ H _ I h) fun v s1 ⟨x, H1, I1, r1, q1⟩ => ?_
 obtain ⟨a, e, ⟨xs, hq⟩, q⟩ := q1
 subst e
 cases r1
 obtain ⟨its, rv, p, hz⟩ := I1.tuple hq
 refine wpAny_pyIter_tuple (show s1.heap.IsTuple a its.toArray from p) ?_
 refine ⟨s1.heap.objs.size, [s1.heap.objs.size], _, _, H1, rfl, I1.kept (t' := s1.toks) fun b o e => Heap.get?_push_of_some _ e, turn_tuple a _, ⟨_, Heap.get?_push_size _ rfl, rfl, rfl⟩, fun b hb => ?_, q⟩
 have e : b = s1.heap.objs.size := by simpa using hb
 subst e
 exact I1.fpOk (Nat.le_refl _) (I1.hok.fresh (Nat.le_refl _))
theorem range_it {pins : List (Addr × Obj)} {σ : St} {H : Hp} {s : Shared} {R : It -> Hp -> Prop} {E : Value -> Shared -> Prop} {lo hi : Int} {t u v : Tok} {tk : Nat} (I : Inv X pins σ H s) (h1 : -(2 ^ 62) <= lo) (h2 : lo < 2 ^ 62) (h3 : -(2 ^ 62) <= hi) (h4 : hi < 2 ^ 62)
   (q : R (Itr lo (hi - lo).toNat) H) : wpAny (model X.prog X.w) X.A (pyIter (.ref s.heap.objs.size)) (PIE X pins σ tg R) E { s with heap := s.heap.push { cls := .type "range", data := .fields #[.int lo t, .int hi u, .int 1 v] }, toks := tk } := by
 refine wpAny_pyIter_range (IsRange.new ..) (small_one h1 h2 h3 h4) ?_
 have I1 : Inv X pins σ H { s with heap := s.heap.push { cls := .type "range", data := .fields #[.int lo t, .int hi u, .int 1 v] }, toks := tk } := I.kept fun b o e => Heap.get?_push_of_some _ e
 refine ⟨(s.heap.push { cls := .type "range", data := .fields #[.int lo t, .int hi u, .int 1 v] }).objs.size, [(s.heap.push { cls := .type "range", data := .fields #[.int lo t, .int hi u, .int 1 v] }).objs.size], _, _, H, rfl,
   I1.kept (t' := tk) fun b o e => Heap.get?_push_of_some _ e, turn_range _ lo (hi - lo).toNat, ?_, fun b hb => ?_, q⟩
 · have e1 : lo + ((0 : Nat) : Int) * 1 = lo := by simp
   have e2 : (((hi - lo).toNat : Nat) : Int) - ((0 : Nat) : Int) = Builtin.Range.rangeSize lo hi 1 := by rw [rangeSize_one]; split <;> omega
   show IsRangeIter _ _ (lo + ((0 : Nat) : Int) * 1) ((((hi - lo).toNat : Nat) : Int) - ((0 : Nat) : Int)) 1
   rw [e1, e2]
   exact Heap.get?_push_size _ rfl
 · have e : b = (s.heap.push { cls := .type "range", data := .fields #[.int lo t, .int hi u, .int 1 v] }).objs.size := by simpa using hb
   subst e
   exact I1.fpOk (Nat.le_refl _) (I1.hok.fresh (Nat.le_refl _))
def iRng1 (ta : TA) : TI := fun σ H R => ta σ H fun vs H1 => ∃ j : Int, vs = [.int j] /\ -(2 ^ 62) <= j /\ j < 2 ^ 62 /\ R (Itr 0 j.toNat) H1
def iRng2 (ta : TA) : TI := fun σ H R => ta σ H fun vs H1 => ∃ i j : Int, vs = [.int i, .int j] /\ (-(2 ^ 62) <= i /\ i < 2 ^ 62 /\ -(2 ^ 62) <= j /\ j < 2 ^ 62) /\ R (Itr i (j - i).toNat) H1
theorem pi_range1 {a : Expr} {ta : TA} {p pos : Pos} (hg : Gl X "range") (hm : X.mg "range" = none) (ha : PA X [a] ta) (hs : starEach [a] X.env = [(false, eval a X.env)] := by rfl) : PI X tg (.Call (.Name "range" p) [a] [] pos) (iRng1 ta) := by
 intro pins s σ H R I h
 refine Call_ (ld_blt I hg hm boot_range (PyProof.Rows.callWith_type1 (thn (ha pos pins s σ H _ I h) fun us s1 ⟨vs, H1, I1, r1, q1⟩ => ?_) hs rfl))
 obtain ⟨j, e, q1, q2, q⟩ := q1
 subst e
 cases r1 with
 | cons r rr =>
   cases rr
   obtain ⟨t, rfl⟩ := r
   exact call_range_1 (range_it I1 (by omega) (by omega) q1 q2 (by simpa using q))
theorem pi_range2 {a b : Expr} {ta : TA} {p pos : Pos} (hg : Gl X "range") (hm : X.mg "range" = none) (ha : PA X [a, b] ta) (hs : starEach [a, b] X.env = [(false, eval a X.env), (false, eval b X.env)] := by rfl) (hs2 : starEach [b] X.env = [(false, eval b X.env)] := by rfl) :
   PI X tg (.Call (.Name "range" p) [a, b] [] pos) (iRng2 ta) := by
 intro pins s σ H R I h
 refine Call_ (ld_blt I hg hm boot_range (PyProof.Rows.callWith_type1 (thn (ha pos pins s σ H _ I h) fun us s1 ⟨vs, H1, I1, r1, q1⟩ => ?_) (by rw [hs, hs2]) (by rw [hs2]; rfl)))
 obtain ⟨i, j, e, ⟨q1, q2, q3, q4⟩, q⟩ := q1
 subst e
 cases r1 with
 | cons r rr =>
   cases rr with
   | cons r' rr =>
     cases rr
     obtain ⟨t, rfl⟩ := r
     obtain ⟨t', rfl⟩ := r'
     exact call_range_2 (range_it I1 q1 q2 q3 q4 q)
def tFor (wi : TI) (g : TG) (tb : TS) : TS := fun D σ H => wi σ H fun J H1 => ∃ W : Nat -> Nat -> St -> Hp -> Prop, (∃ m, W 0 m σ H1) /\ ∀ i m σ H, W i m σ H ->
 (J.stop i H /\ D.nx σ H) ∨ (J.go i H /\ ∃ N : St -> Hp -> Prop, (∀ σ' H', N σ' H' -> ∃ m', m' < m /\ W (i + 1) m' σ' H') /\ ∀ x H', J.yld i H x H' -> g x σ H' fun σ2 H2 => tb { D with nx := N, ct := N, bk := D.nx } σ2 H2)
def pinsAt (fp : List Addr) (h : Heap) : List (Addr × Obj) := fp.filterMap fun b => (h.get? b).map fun o => (b, o)
theorem mem_pinsAt {fp : List Addr} {h : Heap} {b : Addr} {o : Obj} (hb : b ∈ fp) (e : h.get? b = some o) : (b, o) ∈ pinsAt fp h := List.mem_filterMap.mpr ⟨b, hb, by rw [e]; rfl⟩
theorem of_pinsAt {fp : List Addr} {h : Heap} {p : Addr × Obj} (hp : p ∈ pinsAt fp h) : p.1 ∈ fp /\ h.get? p.1 = some p.2 := by
 obtain ⟨b, hb, e⟩ := List.mem_filterMap.mp hp
 cases q : h.get? b with
 | none => rw [q] at e; cases e
 | some o =>
   rw [q] at e
   have e' : (b, o) = p := Option.some.inj e
   subst e'
   exact ⟨hb, q⟩
theorem Inv.pinned {pins : List (Addr × Obj)} {σ : St} {H : Hp} {s : Shared} {fp : List Addr} (I : Inv X pins σ H s) (hf : ∀ b ∈ fp, FpOk X pins H b) (ho : ∀ b ∈ fp, ∃ o, s.heap.get? b = some o /\ ∀ v, o.data ≠ .cell v) : Inv X (pins ++ pinsAt fp s.heap) σ H s :=
 I.pins_of fun p hp => (List.mem_append.mp hp).elim (fun z => I.pin p (List.mem_append_right _ z)) fun z => by
   obtain ⟨hb, e⟩ := of_pinsAt z
   obtain ⟨f0, f1, f2, _⟩ := hf p.1 hb
   obtain ⟨o, e', d⟩ := ho p.1 hb
   rw [e] at e'; cases e'
   exact ⟨e, f0, f1, f2, d⟩
theorem Inv.unpinned {pins pl : List (Addr × Obj)} {σ : St} {H : Hp} {s : Shared} (I : Inv X (pins ++ pl) σ H s) : Inv X pins σ H s := I.pins_of fun p hp => I.pin p (List.mem_append_right _ (List.mem_append_left _ hp))
theorem ps_for {iter : Expr} {body : List Stmt} {wi : TI} {g : TG} {tb : TS} {pos : Pos} (hp : PassesOwn (model X.prog X.w) X.A X.env X.xe) (hc : X.calm = true) (hi : PI X tg iter wi) (hg : PG X tg g) (hb : PSs X body tb)
   (hs : ∀ x, foldedSetIterable iter X.env x = pure x := by intro _; rfl) : PS X (.For tg iter body [] pos) (tFor wi g tb) := by
 intro pins s σ H D I h
 refine wpAny_For (thn (hi pins s σ H _ I h) fun v s1 h1 => thn h1 fun itv s2 h2 => ?_) hs
 obtain ⟨it, fp, tn, J, H2, e, I2, T, st2, f2, W, ⟨m0, w0⟩, turn⟩ := h2
 subst e
 have stat : ∀ {H' : Hp}, (∀ b ∈ fp, H' b = none) -> ∀ b ∈ fp, FpOk X pins H' b := fun hn b hb => ⟨hn b hb, (f2 b hb).2⟩
 refine codeAny_forLoop_any (fun n s' => ∃ i σ' H', Inv X pins σ' H' s' /\ tn i s'.heap /\ (∀ b ∈ fp, H' b = none) /\ W i n σ' H') ?_ m0 ⟨0, σ, H2, I2, st2, fun b hb => (f2 b hb).1, w0⟩
 rintro n s3 ⟨i, σ3, H3, I3, st3, fr3, w3⟩
 rcases turn i n σ3 H3 w3 with ⟨stop, qn⟩ | ⟨go, N, hN, step⟩
 · refine wpAny_passesOwn hp (thn (T.done X rfl rfl rfl hc i pins s3 σ3 H3 X.xe I3 (stat fr3) st3 stop) fun r s4 ⟨hr, I4⟩ => ?_)
   subst hr
   exact wpAny_execs_nil ⟨σ3, H3, I4, qn⟩
 · refine wpAny_passesOwn hp (thn (T.item X rfl rfl rfl hc i pins s3 σ3 H3 X.xe I3 (stat fr3) st3 go) fun r s4 ⟨u, hr, h4⟩ => ?_)
   subst hr
   refine wpAny_passesOwn hp (thn h4 fun _ s5 ⟨x, H5, I5, r5, y5, st5, fr5⟩ => ?_)
   have I5' := I5.pinned (stat fr5) (T.obj _ _ st5)
   refine wpAny_passesOwn hp (thn (hg _ s5 σ3 H5 x u _ I5' r5 (step x H5 y5)) fun _ s6 ⟨σ6, H6, I6, q6⟩ => ?_)
   refine wpAny_passesOwn hp (thn (hb _ s6 σ6 H6 _ I6 q6) fun f s7 q7 => ?_)
   have again : ∀ {σ7 : St} {H7 : Hp}, Inv X (pins ++ pinsAt fp s5.heap) σ7 H7 s7 -> N σ7 H7 -> ∃ m, m < n /\ ∃ i σ' H', Inv X pins σ' H' s7 /\ tn i s7.heap /\ (∀ b ∈ fp, H' b = none) /\ W i m σ' H' := fun {σ7 H7} I7 n7 => by
     obtain ⟨m', hm, w7⟩ := hN σ7 H7 n7
     refine ⟨m', hm, i + 1, σ7, H7, I7.unpinned, T.keep _ _ _ st5 fun b hb o e => (I7.pin (b, o) (List.mem_append_right _ (List.mem_append_right _ (mem_pinsAt hb e)))).1, fun b hb => ?_, w7⟩
     obtain ⟨o, e, d⟩ := T.obj _ _ st5 b hb
     exact (I7.pin (b, o) (List.mem_append_right _ (List.mem_append_right _ (mem_pinsAt hb e)))).2.1
   cases f with
   | next => obtain ⟨σ7, H7, I7, n7⟩ := q7; exact again I7 n7
   | cont => obtain ⟨σ7, H7, I7, n7⟩ := q7; exact again I7 n7
   | brk => obtain ⟨σ7, H7, I7, q7⟩ := q7; exact ⟨σ7, H7, I7.unpinned, q7⟩
   | ret v => obtain ⟨x7, σ7, H7, I7, r7, q7⟩ := q7; exact ⟨x7, σ7, H7, I7.unpinned, r7, q7⟩
end
theorem for_list {K : PySem.W.Frag} {a : Addr} {xs : List V} {g : TG} {tb : TS} {D : Ends} {σ : St} {H : Hp} (Pv : Nat -> St -> Hp -> Prop) (h0 : Pv 0 σ H) (hl : ∀ i σ H, i <= xs.length -> Pv i σ H -> SqL K H a xs)
   (hs : ∀ i x σ H, xs[i]? = some x -> Pv i σ H -> g x σ H fun σ2 H2 => tb { D with nx := Pv (i + 1), ct := Pv (i + 1), bk := D.nx } σ2 H2) (hd : ∀ σ H, Pv xs.length σ H -> D.nx σ H) :
   ∃ W : Nat -> Nat -> St -> Hp -> Prop, (∃ m, W 0 m σ H) /\ ∀ i m σ H, W i m σ H ->
     ((Itl K a).stop i H /\ D.nx σ H) ∨ ((Itl K a).go i H /\ ∃ N : St -> Hp -> Prop, (∀ σ' H', N σ' H' -> ∃ m', m' < m /\ W (i + 1) m' σ' H') /\ ∀ x H', (Itl K a).yld i H x H' -> g x σ H' fun σ2 H2 => tb { D with nx := N, ct := N, bk := D.nx } σ2 H2) := by
 refine ⟨fun i m σ H => m = xs.length - i /\ i <= xs.length /\ Pv i σ H, ⟨xs.length, by simp, Nat.zero_le _, h0⟩, ?_⟩
 rintro i m σ H ⟨rfl, hi, p⟩
 have q := hl i σ H hi p
 by_cases hlt : i < xs.length
 · refine .inr ⟨⟨xs, xs[i], q, by simp [hlt]⟩, Pv (i + 1), fun σ' H' p' => ⟨xs.length - (i + 1), by omega, rfl, hlt, p'⟩, fun x H' y => ?_⟩
   obtain ⟨e, y⟩ := y
   subst e
   exact hs i x σ _ (y xs q) p
 · have e : i = xs.length := by omega
   subst e
   exact .inl ⟨⟨xs, q, Nat.le_refl _⟩, hd σ H p⟩
theorem for_tup {K : PySem.W.Frag} {a : Addr} {xs : List V} {g : TG} {tb : TS} {D : Ends} {σ : St} {H : Hp} (Pv : Nat -> St -> Hp -> Prop) (h0 : Pv 0 σ H) (hl : ∀ i σ H, i <= xs.length -> Pv i σ H -> SqT K H a xs)
   (hs : ∀ i x σ H, xs[i]? = some x -> Pv i σ H -> g x σ H fun σ2 H2 => tb { D with nx := Pv (i + 1), ct := Pv (i + 1), bk := D.nx } σ2 H2) (hd : ∀ σ H, Pv xs.length σ H -> D.nx σ H) :
   ∃ W : Nat -> Nat -> St -> Hp -> Prop, (∃ m, W 0 m σ H) /\ ∀ i m σ H, W i m σ H ->
     ((Itt K a).stop i H /\ D.nx σ H) ∨ ((Itt K a).go i H /\ ∃ N : St -> Hp -> Prop, (∀ σ' H', N σ' H' -> ∃ m', m' < m /\ W (i + 1) m' σ' H') /\ ∀ x H', (Itt K a).yld i H x H' -> g x σ H' fun σ2 H2 => tb { D with nx := N, ct := N, bk := D.nx } σ2 H2) := by
 refine ⟨fun i m σ H => m = xs.length - i /\ i <= xs.length /\ Pv i σ H, ⟨xs.length, by simp, Nat.zero_le _, h0⟩, ?_⟩
 rintro i m σ H ⟨rfl, hi, p⟩
 have q := hl i σ H hi p
 by_cases hlt : i < xs.length
 · refine .inr ⟨⟨xs, xs[i], q, by simp [hlt]⟩, Pv (i + 1), fun σ' H' p' => ⟨xs.length - (i + 1), by omega, rfl, hlt, p'⟩, fun x H' y => ?_⟩
   obtain ⟨e, y⟩ := y
   subst e
   exact hs i x σ _ (y xs q) p
 · have e : i = xs.length := by omega
   subst e
   exact .inl ⟨⟨xs, q, Nat.le_refl _⟩, hd σ H p⟩
theorem for_range {lo : Int} {n : Nat} {g : TG} {tb : TS} {D : Ends} {σ : St} {H : Hp} (Pv : Nat -> St -> Hp -> Prop) (h0 : Pv 0 σ H)
   (hs : ∀ i σ H, i < n -> Pv i σ H -> g (.int (lo + i)) σ H fun σ2 H2 => tb { D with nx := Pv (i + 1), ct := Pv (i + 1), bk := D.nx } σ2 H2) (hd : ∀ σ H, Pv n σ H -> D.nx σ H) :
   ∃ W : Nat -> Nat -> St -> Hp -> Prop, (∃ m, W 0 m σ H) /\ ∀ i m σ H, W i m σ H ->
     ((Itr lo n).stop i H /\ D.nx σ H) ∨ ((Itr lo n).go i H /\ ∃ N : St -> Hp -> Prop, (∀ σ' H', N σ' H' -> ∃ m', m' < m /\ W (i + 1) m' σ' H') /\ ∀ x H', (Itr lo n).yld i H x H' -> g x σ H' fun σ2 H2 => tb { D with nx := N, ct := N, bk := D.nx } σ2 H2) := by
 refine ⟨fun i m σ H => m = n - i /\ i <= n /\ Pv i σ H, ⟨n, by simp, Nat.zero_le _, h0⟩, ?_⟩
 rintro i m σ H ⟨rfl, hi, p⟩
 by_cases hlt : i < n
 · refine .inr ⟨hlt, Pv (i + 1), fun σ' H' p' => ⟨n - (i + 1), by omega, rfl, hlt, p'⟩, fun x H' y => ?_⟩
   obtain ⟨e, y⟩ := y
   subst e y
   exact hs i σ _ hlt p
 · have e : i = n := by omega
   subst e
   exact .inl ⟨Nat.le_refl _, hd σ H p⟩
theorem while_by {c : TT} {tb : TS} {D : Ends} {σ : St} {H : Hp} (Pv : St -> Hp -> Prop) (μ : St -> Hp -> Nat) (h0 : Pv σ H)
   (hs : ∀ σ H, Pv σ H -> c σ H fun b H1 => if b = true then tb { D with nx := fun σ' H' => Pv σ' H' /\ μ σ' H' < μ σ H, ct := fun σ' H' => Pv σ' H' /\ μ σ' H' < μ σ H, bk := D.nx } σ H1 else D.nx σ H1)
   (mono : ∀ σ H Q Q', (∀ b H1, Q b H1 -> Q' b H1) -> c σ H Q -> c σ H Q') : tWhile c tb D σ H := by
 refine ⟨fun m σ H => m = μ σ H /\ Pv σ H, ⟨_, rfl, h0⟩, ?_⟩
 rintro m σ H ⟨rfl, p⟩
 refine mono σ H _ _ (fun b H1 q => ?_) (hs σ H p)
 cases b with
 | true => exact ⟨_, fun σ' H' ⟨p', l⟩ => ⟨_, l, rfl, p'⟩, q⟩
 | false => exact q
end L2
namespace L2
open PySem PySem.Spec PyProof.Rows
abbrev R2 := V -> V -> Hp -> VK -> Prop
def OpR (X : Cx) (f : Value -> Value -> Sem Value) (r : R2) : Prop :=
 ∀ (pins : List (Addr × Obj)) (s : Shared) (σ : St) (H : Hp) (x y : V) (v u : Value) (Q : VK), Inv X pins σ H s -> RelV x v -> RelV y u -> r x y H Q ->
   wpAny (model X.prog X.w) X.A (f v u) (EP X pins σ Q) X.xe s
def UnR (X : Cx) (f : Value -> Sem Value) (r : V -> Hp -> VK -> Prop) : Prop :=
 ∀ (pins : List (Addr × Obj)) (s : Shared) (σ : St) (H : Hp) (x : V) (v : Value) (Q : VK), Inv X pins σ H s -> RelV x v -> r x H Q ->
   wpAny (model X.prog X.w) X.A (f v) (EP X pins σ Q) X.xe s
def CallR (X : Cx) (f : Value) (r : List V -> Hp -> VK -> Prop) : Prop :=
 ∀ (pins : List (Addr × Obj)) (s : Shared) (σ : St) (H : Hp) (xs : List V) (us : List Value) (Q : VK), Inv X pins σ H s -> Vals xs us -> r xs H Q ->
   wpAny (model X.prog X.w) X.A (call f us) (EP X pins σ Q) X.xe s
def TruR (X : Cx) (r : V -> Hp -> (Bool -> Hp -> Prop) -> Prop) : Prop :=
 ∀ (pins : List (Addr × Obj)) (s : Shared) (σ : St) (H : Hp) (x : V) (v : Value) (Q : Bool -> Hp -> Prop), Inv X pins σ H s -> RelV x v -> r x H Q ->
   wpAny (model X.prog X.w) X.A (truthy v) (TP X pins σ Q) X.xe s
def tOp (r : R2) (ta tb : TE) : TE := fun σ H Q => ta σ H fun x H1 => tb σ H1 fun y H2 => r x y H2 Q
def tUn (r : V -> Hp -> VK -> Prop) (ta : TE) : TE := fun σ H Q => ta σ H fun x H1 => r x H1 Q
def rI (C : Int -> Int -> Prop) (g : Int -> Int -> V) : R2 := fun x y H Q => ∃ i j, x = .int i /\ y = .int j /\ C i j /\ Q (g i j) H
def rI0 (g : Int -> Int -> V) : R2 := fun x y H Q => ∃ i j, x = .int i /\ y = .int j /\ Q (g i j) H
def rU (g : Int -> V) : V -> Hp -> VK -> Prop := fun x H Q => ∃ i, x = .int i /\ Q (g i) H
section
variable {X : Cx} {a b c : Expr} {ta tb tc : TE} {pos : Pos}
theorem binT (ha : PE X a ta) (hb : PE X b tb) {pins : List (Addr × Obj)} {s : Shared} {σ : St} {H : Hp} {R : V -> V -> Hp -> Prop} (I : Inv X pins σ H s)
   (h : ta σ H fun x H1 => tb σ H1 fun y H2 => R x y H2) {Q : Value -> Shared -> Prop} {f : Value -> Value -> Sem Value}
   (hf : ∀ v u s2 x y H2, Inv X pins σ H2 s2 -> RelV x v -> RelV y u -> R x y H2 -> wpAny (model X.prog X.w) X.A (f v u) Q X.xe s2) :
   wpAny (model X.prog X.w) X.A (eval a X.env) (fun v s₁ => wpAny (model X.prog X.w) X.A (eval b X.env) (fun u s₂ => wpAny (model X.prog X.w) X.A (f v u) Q X.xe s₂) X.xe s₁) X.xe s := by
 refine thn (ha pins s σ H _ I h) fun v s1 ⟨x, H1, I1, r1, q1⟩ => ?_
 refine thn (hb pins s1 σ H1 _ I1 q1) fun u s2 ⟨y, H2, I2, r2, q2⟩ => ?_
 exact hf v u s2 x y H2 I2 r1 r2 q2
theorem pe_op {op : Operator} {r : R2} (ho : OpR X (binaryOp op) r) (ha : PE X a ta) (hb : PE X b tb) : PE X (.BinOp a op b pos) (tOp r ta tb) := by
 intro pins s σ H Q I h
 exact wpAny_BinOp (binT ha hb I h fun v u s2 x y H2 I2 rx ry q => ho pins s2 σ H2 x y v u Q I2 rx ry q)
theorem pe_un {op : UnaryOp} {r : V -> Hp -> VK -> Prop} (ho : UnR X (unaryOp op) r) (ha : PE X a ta) : PE X (.UnaryOp op a pos) (tUn r ta) := by
 intro pins s σ H Q I h
 exact UnaryOp_ (thn (ha pins s σ H _ I h) fun v s1 ⟨x, H1, I1, r1, q1⟩ => ho pins s1 σ H1 x v Q I1 r1 q1)
theorem augR {op : Operator} {r : R2} (ho : OpR X (inplaceOp op) r) {pins : List (Addr × Obj)} {s : Shared} {σ : St} {H : Hp} {x y : V} {v u : Value} {Q : VK} (I : Inv X pins σ H s)
   (rx : RelV x v) (ry : RelV y u) (q : r x y H Q) : wpAny (model X.prog X.w) X.A (inplaceOp op v u) (EP X pins σ Q) X.xe s := ho pins s σ H x y v u Q I rx ry q
theorem opI {f : Value -> Value -> Sem Value} {C : Int -> Int -> Prop} {g : Int -> Int -> Int}
   (rule : ∀ (i j : Int) (t u : Tok) (s : Shared) (Q : Value -> Shared -> Prop) (E : Value -> Shared -> Prop), C i j -> Q (.int (g i j) s.toks) { s with toks := s.toks + 1 } -> wpAny (model X.prog X.w) X.A (f (.int i t) (.int j u)) Q E s) :
   OpR X f (rI C fun i j => .int (g i j)) := by
 intro pins s σ H x y v u Q I rx ry h
 obtain ⟨i, j, rfl, rfl, hc, q⟩ := h
 obtain ⟨t, rfl⟩ := rx
 obtain ⟨t', rfl⟩ := ry
 exact rule i j t t' s _ _ hc ⟨.int (g i j), H, I.tok _, ⟨_, rfl⟩, q⟩
theorem opI0 {f : Value -> Value -> Sem Value} {g : Int -> Int -> Int}
   (rule : ∀ (i j : Int) (t u : Tok) (s : Shared) (Q : Value -> Shared -> Prop) (E : Value -> Shared -> Prop), Q (.int (g i j) s.toks) { s with toks := s.toks + 1 } -> wpAny (model X.prog X.w) X.A (f (.int i t) (.int j u)) Q E s) :
   OpR X f (rI0 fun i j => .int (g i j)) := by
 intro pins s σ H x y v u Q I rx ry h
 obtain ⟨i, j, rfl, rfl, q⟩ := h
 obtain ⟨t, rfl⟩ := rx
 obtain ⟨t', rfl⟩ := ry
 exact rule i j t t' s _ _ ⟨.int (g i j), H, I.tok _, ⟨_, rfl⟩, q⟩
theorem opB0 {f : Value -> Value -> Sem Value} {g : Int -> Int -> Bool}
   (rule : ∀ (i j : Int) (t u : Tok) (s : Shared) (Q : Value -> Shared -> Prop) (E : Value -> Shared -> Prop), Q (.bool (g i j)) s -> wpAny (model X.prog X.w) X.A (f (.int i t) (.int j u)) Q E s) :
   OpR X f (rI0 fun i j => .bl (g i j)) := by
 intro pins s σ H x y v u Q I rx ry h
 obtain ⟨i, j, rfl, rfl, q⟩ := h
 obtain ⟨t, rfl⟩ := rx
 obtain ⟨t', rfl⟩ := ry
 exact rule i j t t' s _ _ ⟨.bl (g i j), H, I, rfl, q⟩
def CDiv (i j : Int) : Prop := 0 < j /\ j < 1073741824
def CDivN (i j : Int) : Prop := j ≠ 0 /\ j.natAbs < 1073741824
def CPow (i j : Int) : Prop := 0 <= j /\ j <= 1000000 /\ i.natAbs < 2 ^ 64
def CMul (i j : Int) : Prop := (-(2 ^ 64) < i /\ i < 2 ^ 64) ∨ (-(2 ^ 64) < j /\ j < 2 ^ 64)
theorem CMul.ok {i j : Int} (h : CMul i j) : IntMulOk i j := by
 rcases h with ⟨h1, h2⟩ | ⟨h1, h2⟩
 · exact .of_left (intBits_le_64 h1 h2)
 · exact .of_right (intBits_le_64 h1 h2)
theorem two_pow_nn (k : Nat) : (0 : Int) <= 2 ^ k := by
 rw [two_pow_cast]
 exact Int.natCast_nonneg _
theorem op_add : OpR X (binaryOp .Add) (rI0 fun i j => .int (i + j)) := opI0 fun _ _ _ _ _ _ _ q => add_int q
theorem op_sub : OpR X (binaryOp .Sub) (rI0 fun i j => .int (i - j)) := opI0 fun _ _ _ _ _ _ _ q => sub_int q
theorem op_mul : OpR X (binaryOp .Mult) (rI CMul fun i j => .int (i * j)) := opI fun _ _ _ _ _ _ _ hc q => mul_int q hc.ok
theorem op_fdiv : OpR X (binaryOp .FloorDiv) (rI CDiv fun i j => .int (i / j)) := opI fun i j _ _ _ _ _ hc q => by
 have h1 : (0 : Int) < j := hc.1
 have h2 : j < 1073741824 := hc.2
 exact floordiv_int (by omega) (by rw [Int.fdiv_eq_ediv_of_nonneg i (by omega)]; exact q) (.inl (PyProof.noPylong_small (by omega)))
theorem op_fdivN : OpR X (binaryOp .FloorDiv) (rI CDivN fun i j => .int (i.fdiv j)) := opI fun _ _ _ _ _ _ _ hc q => floordiv_int hc.1 q (.inl (PyProof.noPylong_small hc.2))
theorem op_mod : OpR X (binaryOp .Mod) (rI (fun _ j => 0 < j) fun i j => .int (i % j)) := opI fun i j _ _ _ _ _ hc q => by
 have h1 : (0 : Int) < j := hc
 exact mod_int' (by omega) (by rw [Int.fmod_eq_emod_of_nonneg i (by omega)]; exact q)
theorem op_modN : OpR X (binaryOp .Mod) (rI (fun _ j => j ≠ 0) fun i j => .int (i.fmod j)) := opI fun _ _ _ _ _ _ _ hc q => mod_int' hc q
theorem op_pow : OpR X (binaryOp .Pow) (rI CPow fun i j => .int (i ^ j.toNat)) := opI fun _ _ _ _ _ _ _ hc q => pow_int_small hc.1 hc.2.1 hc.2.2 q
theorem op_shl : OpR X (binaryOp .LShift) (rI CPow fun i j => .int (i * 2 ^ j.toNat)) := opI fun _ _ _ _ _ _ _ hc q => lshift_int_small hc.1 hc.2.1 hc.2.2 q
theorem op_shr : OpR X (binaryOp .RShift) (rI (fun _ j => 0 <= j) fun i j => .int (i / 2 ^ j.toNat)) := opI fun i j _ _ _ _ _ hc q =>
 rshift_int hc (by rw [Int.fdiv_eq_ediv_of_nonneg i (two_pow_nn _)]; exact q)
theorem op_and : OpR X (binaryOp .BitAnd) (rI0 fun i j => .int (Builtin.bitAnd i j)) := opI0 fun _ _ _ _ _ _ _ q => and_int q
theorem op_or : OpR X (binaryOp .BitOr) (rI0 fun i j => .int (Builtin.bitOr i j)) := opI0 fun _ _ _ _ _ _ _ q => or_int q
theorem op_xor : OpR X (binaryOp .BitXor) (rI0 fun i j => .int (Builtin.bitXor i j)) := opI0 fun _ _ _ _ _ _ _ q => xor_int q
theorem iop_add : OpR X (inplaceOp .Add) (rI0 fun i j => .int (i + j)) := opI0 fun _ _ _ _ _ _ _ q => iadd_int q
theorem iop_sub : OpR X (inplaceOp .Sub) (rI0 fun i j => .int (i - j)) := opI0 fun _ _ _ _ _ _ _ q => isub_int q
theorem iop_mul : OpR X (inplaceOp .Mult) (rI CMul fun i j => .int (i * j)) := opI fun _ _ _ _ _ _ _ hc q => imul_int q hc.ok
theorem iop_fdiv : OpR X (inplaceOp .FloorDiv) (rI CDiv fun i j => .int (i / j)) := opI fun i j _ _ _ _ _ hc q => by
 have h1 : (0 : Int) < j := hc.1
 have h2 : j < 1073741824 := hc.2
 exact ifloordiv_int (by omega) (by rw [Int.fdiv_eq_ediv_of_nonneg i (by omega)]; exact q) (.inl (PyProof.noPylong_small (by omega)))
theorem iop_mod : OpR X (inplaceOp .Mod) (rI (fun _ j => 0 < j) fun i j => .int (i % j)) := opI fun i j _ _ _ _ _ hc q => by
 have h1 : (0 : Int) < j := hc
 exact imod_int (by omega) (by rw [Int.fmod_eq_emod_of_nonneg i (by omega)]; exact q)
theorem iop_shl : OpR X (inplaceOp .LShift) (rI CPow fun i j => .int (i * 2 ^ j.toNat)) := opI fun _ _ _ _ _ _ _ hc q => ilshift_int_small hc.1 hc.2.1 hc.2.2 q
theorem iop_shr : OpR X (inplaceOp .RShift) (rI (fun _ j => 0 <= j) fun i j => .int (i / 2 ^ j.toNat)) := opI fun i j _ _ _ _ _ hc q =>
 irshift_int hc (by rw [Int.fdiv_eq_ediv_of_nonneg i (two_pow_nn _)]; exact q)
theorem iop_and : OpR X (inplaceOp .BitAnd) (rI0 fun i j => .int (Builtin.bitAnd i j)) := opI0 fun _ _ _ _ _ _ _ q => iand_int q
theorem iop_or : OpR X (inplaceOp .BitOr) (rI0 fun i j => .int (Builtin.bitOr i j)) := opI0 fun _ _ _ _ _ _ _ q => ior_int q
theorem iop_xor : OpR X (inplaceOp .BitXor) (rI0 fun i j => .int (Builtin.bitXor i j)) := opI0 fun _ _ _ _ _ _ _ q => ixor_int q
theorem unI {f : Value -> Sem Value} {g : Int -> Int}
   (rule : ∀ (i : Int) (t : Tok) (s : Shared) (Q : Value -> Shared -> Prop) (E : Value -> Shared -> Prop), Q (.int (g i) s.toks) { s with toks := s.toks + 1 } -> wpAny (model X.prog X.w) X.A (f (.int i t)) Q E s) :
   UnR X f (rU fun i => .int (g i)) := by
 intro pins s σ H x v Q I rx h
 obtain ⟨i, rfl, q⟩ := h
 obtain ⟨t, rfl⟩ := rx
 exact rule i t s _ _ ⟨.int (g i), H, I.tok _, ⟨_, rfl⟩, q⟩
theorem un_neg : UnR X (unaryOp .USub) (rU fun i => .int (-i)) := unI fun _ _ _ _ _ q => neg_int q
theorem un_inv : UnR X (unaryOp .Invert) (rU fun i => .int (Builtin.bitNot i)) := unI fun _ _ _ _ _ q => invert_int q
theorem op_add_ib : OpR X (binaryOp .Add) (fun x y H Q => ∃ i k, x = .int i /\ y = .bl k /\ Q (.int (i + b2i k)) H) := by
 intro pins s σ H x y v u Q I rx ry h
 obtain ⟨i, k, rfl, rfl, q⟩ := h
 obtain ⟨t, rfl⟩ := rx
 cases ry
 exact add_int_bool ⟨.int (i + b2i k), H, I.tok _, ⟨_, rfl⟩, q⟩
end
def scal : V -> V -> Bool
 | .non, .non => true | .non, .int _ => true | .int _, .non => true | .non, .bl _ => true | .bl _, .non => true | .non, .str _ => true | .str _, .non => true
 | .int _, .int _ => true | .bl _, .bl _ => true | .str _, .str _ => true | .byt _, .byt _ => true
 | .int _, .str _ => true | .str _, .int _ => true | .bl _, .str _ => true | .str _, .bl _ => true
 | _, _ => false
def rEq : R2 := fun x y H Q => scal x y = true /\ Q (.bl (decide (x = y))) H
def rNe : R2 := fun x y H Q => scal x y = true /\ Q (.bl (!decide (x = y))) H
theorem dec_int {i j : Int} : decide (V.int i = V.int j) = (i == j) := by
 rw [Bool.eq_iff_iff]
 simp
theorem dec_bl {i j : Bool} : decide (V.bl i = V.bl j) = (i == j) := by
 rw [Bool.eq_iff_iff]
 simp
theorem dec_str {i j : Str} : decide (V.str i = V.str j) = (i == j) := by
 rw [Bool.eq_iff_iff]
 simp
theorem dec_byt {i j : Array UInt8} : decide (V.byt i = V.byt j) = (i.toList == j.toList) := by
 rw [Bool.eq_iff_iff]
 cases i
 cases j
 simp
section
variable {X : Cx} {a b c : Expr} {ta tb tc : TE} {pos : Pos}
theorem fin_bl {pins : List (Addr × Obj)} {σ : St} {H : Hp} {s : Shared} {Q : VK} {k k' : Bool} (I : Inv X pins σ H s) (q : Q (.bl k) H) (e : k = k') : EP X pins σ Q (.bool k') s := by
 subst e
 exact ⟨.bl k, H, I, rfl, q⟩
theorem op_eq : OpR X (compareOp .Eq) rEq := by
 intro pins s σ H x y v u Q I rx ry h
 obtain ⟨hs, q⟩ := h
 cases x with
 | non =>
   cases rx
   cases y with
   | non => cases ry; exact PySem.EqNone.eq_none_none (fin_bl I q (by simp))
   | bl j => cases ry; exact PySem.EqNone.eq_none_bool (fin_bl I q (by simp))
   | int j => obtain ⟨t', rfl⟩ := ry; exact PySem.EqNone.eq_none_int (fin_bl I q (by simp))
   | str j => obtain ⟨t', rfl⟩ := ry; exact PySem.EqNone.eq_none_str (fin_bl I q (by simp))
   | _ => exact absurd (show false = true from hs) Bool.false_ne_true
 | bl i =>
   cases rx
   cases y with
   | non => cases ry; exact PySem.EqNone.eq_bool_none (fin_bl I q (by simp))
   | bl j => cases ry; exact eq_bool (fin_bl I q dec_bl)
   | str j => obtain ⟨t', rfl⟩ := ry; exact PySem.EqMixed.eq_bool_str (fin_bl I q (by simp))
   | _ => exact absurd (show false = true from hs) Bool.false_ne_true
 | int i =>
   obtain ⟨t, rfl⟩ := rx
   cases y with
   | non => cases ry; exact PySem.EqNone.eq_int_none (fin_bl I q (by simp))
   | int j => obtain ⟨t', rfl⟩ := ry; exact eq_int (fin_bl I q dec_int)
   | str j => obtain ⟨t', rfl⟩ := ry; exact PySem.EqMixed.eq_int_str (fin_bl I q (by simp))
   | _ => exact absurd (show false = true from hs) Bool.false_ne_true
 | str i =>
   obtain ⟨t, rfl⟩ := rx
   cases y with
   | non => cases ry; exact PySem.EqNone.eq_str_none (fin_bl I q (by simp))
   | bl j => cases ry; exact PySem.EqMixed.eq_str_bool (fin_bl I q (by simp))
   | int j => obtain ⟨t', rfl⟩ := ry; exact PySem.EqMixed.eq_str_int (fin_bl I q (by simp))
   | str j => obtain ⟨t', rfl⟩ := ry; exact eq_str (fin_bl I q dec_str)
   | _ => exact absurd (show false = true from hs) Bool.false_ne_true
 | byt i =>
   obtain ⟨t, rfl⟩ := rx
   cases y with
   | byt j => obtain ⟨t', rfl⟩ := ry; exact PySem.W.eq_bytes (fin_bl I q dec_byt)
   | _ => exact absurd (show false = true from hs) Bool.false_ne_true
 | _ => cases y <;> exact absurd (show false = true from hs) Bool.false_ne_true
theorem op_ne : OpR X (compareOp .NotEq) rNe := by
 intro pins s σ H x y v u Q I rx ry h
 obtain ⟨hs, q⟩ := h
 cases x with
 | non =>
   cases rx
   cases y with
   | non => cases ry; exact PySem.EqNone.ne_none_none (fin_bl I q (by simp))
   | bl j => cases ry; exact PySem.EqNone.ne_none_bool (fin_bl I q (by simp))
   | int j => obtain ⟨t', rfl⟩ := ry; exact PySem.EqNone.ne_none_int (fin_bl I q (by simp))
   | str j => obtain ⟨t', rfl⟩ := ry; exact PySem.EqNone.ne_none_str (fin_bl I q (by simp))
   | _ => exact absurd (show false = true from hs) Bool.false_ne_true
 | bl i =>
   cases rx
   cases y with
   | non => cases ry; exact PySem.EqNone.ne_bool_none (fin_bl I q (by simp))
   | bl j => cases ry; exact ne_bool (fin_bl I q (congrArg not dec_bl))
   | str j => obtain ⟨t', rfl⟩ := ry; exact PySem.EqMixed.ne_bool_str (fin_bl I q (by simp))
   | _ => exact absurd (show false = true from hs) Bool.false_ne_true
 | int i =>
   obtain ⟨t, rfl⟩ := rx
   cases y with
   | non => cases ry; exact PySem.EqNone.ne_int_none (fin_bl I q (by simp))
   | int j => obtain ⟨t', rfl⟩ := ry; exact ne_int (fin_bl I q (congrArg not dec_int))
   | str j => obtain ⟨t', rfl⟩ := ry; exact PySem.EqMixed.ne_int_str (fin_bl I q (by simp))
   | _ => exact absurd (show false = true from hs) Bool.false_ne_true
 | str i =>
   obtain ⟨t, rfl⟩ := rx
   cases y with
   | non => cases ry; exact PySem.EqNone.ne_str_none (fin_bl I q (by simp))
   | bl j => cases ry; exact PySem.EqMixed.ne_str_bool (fin_bl I q (by simp))
   | int j => obtain ⟨t', rfl⟩ := ry; exact PySem.EqMixed.ne_str_int (fin_bl I q (by simp))
   | str j => obtain ⟨t', rfl⟩ := ry; exact ne_str (fin_bl I q (congrArg not dec_str))
   | _ => exact absurd (show false = true from hs) Bool.false_ne_true
 | byt i =>
   obtain ⟨t, rfl⟩ := rx
   cases y with
   | byt j => obtain ⟨t', rfl⟩ := ry; exact PySem.W.ne_bytes (fin_bl I q (congrArg not dec_byt))
   | _ => exact absurd (show false = true from hs) Bool.false_ne_true
 | _ => cases y <;> exact absurd (show false = true from hs) Bool.false_ne_true
theorem op_lt : OpR X (compareOp .Lt) (rI0 fun i j => .bl (decide (i < j))) := opB0 fun _ _ _ _ _ _ _ q => lt_int q
theorem op_le : OpR X (compareOp .LtE) (rI0 fun i j => .bl (decide (i <= j))) := opB0 fun _ _ _ _ _ _ _ q => le_int q
theorem op_gt : OpR X (compareOp .Gt) (rI0 fun i j => .bl (decide (j < i))) := opB0 fun _ _ _ _ _ _ _ q => gt_int q
theorem op_ge : OpR X (compareOp .GtE) (rI0 fun i j => .bl (decide (j <= i))) := opB0 fun _ _ _ _ _ _ _ q => ge_int q
theorem op_lt_str : OpR X (compareOp .Lt) (fun x y H Q => ∃ i j, x = .str i /\ y = .str j /\ Q (.bl (decide (i.cps.toList < j.cps.toList))) H) := by
 intro pins s σ H x y v u Q I rx ry h
 obtain ⟨i, j, rfl, rfl, q⟩ := h
 obtain ⟨t, rfl⟩ := rx
 obtain ⟨t', rfl⟩ := ry
 exact lt_str (fin_bl I q rfl)
theorem op_in_str : OpR X (compareOp .In) (fun x y H Q => ∃ i j, x = .str i /\ y = .str j /\ Q (.bl (!(Builtin.Str.occurrences j i 0 j.length 1).isEmpty)) H) := by
 intro pins s σ H x y v u Q I rx ry h
 obtain ⟨i, j, rfl, rfl, q⟩ := h
 obtain ⟨t, rfl⟩ := rx
 obtain ⟨t', rfl⟩ := ry
 exact in_str (fin_bl I q rfl)
theorem op_isN : OpR X (compareOp .Is) (fun x y H Q => y = .non /\ Q (.bl (decide (x = .non))) H) := by
 intro pins s σ H x y v u Q I rx ry h
 obtain ⟨rfl, q⟩ := h
 cases ry
 refine is_none_gen (fin_bl I q ?_)
 cases x <;> first
   | (cases rx; rfl)
   | (obtain ⟨t, rfl⟩ := rx; rfl)
theorem op_notN : OpR X (compareOp .IsNot) (fun x y H Q => y = .non /\ Q (.bl (!decide (x = .non))) H) := by
 intro pins s σ H x y v u Q I rx ry h
 obtain ⟨rfl, q⟩ := h
 cases ry
 refine isnot_none_gen (fin_bl I q ?_)
 cases x <;> first
   | (cases rx; rfl)
   | (obtain ⟨t, rfl⟩ := rx; rfl)
theorem op_notin_str : OpR X (compareOp .NotIn) (fun x y H Q => ∃ i j, x = .str i /\ y = .str j /\ Q (.bl (!(!(Builtin.Str.occurrences j i 0 j.length 1).isEmpty))) H) := by
 intro pins s σ H x y v u Q I rx ry h
 obtain ⟨i, j, rfl, rfl, q⟩ := h
 obtain ⟨t, rfl⟩ := rx
 obtain ⟨t', rfl⟩ := ry
 exact notIn_str (fin_bl I q rfl)
def isObj : HO -> Bool
 | .lst _ => true
 | .ins _ _ _ => true
 | _ => false
theorem obj_there {pins : List (Addr × Obj)} {s : Shared} {σ : St} {H : Hp} {a : Addr} {o : HO} (I : Inv X pins σ H s) (h : H a = some o) (p : isObj o = true) : ∃ ob, s.heap.get? a = some ob /\ ob.cls ≠ .type "tuple" := by
 cases o with
 | lst xs =>
   obtain ⟨_, its, n, _, e⟩ : xs.length <= sizeLine /\ ∃ (its : List Value) (n : Nat), Vals xs its /\ s.heap.get? a = some { cls := .type "list", data := .seq its.toArray n } := I.hok a _ h
   exact ⟨_, e, (by show Value.type "list" ≠ .type "tuple"; decide +kernel)⟩
 | ins C dx fs =>
   have x := I.hok a _ h
   obtain ⟨_, _, _, e, _⟩ := x
   exact ⟨_, e, (by show Value.ref C ≠ .type "tuple"; exact fun z => by cases z)⟩
 | _ => exact absurd (show false = true from p) Bool.false_ne_true
theorem op_is_ref : OpR X (compareOp .Is) (fun x y H Q => ∃ a b oa ob, x = .ref a /\ y = .ref b /\ H a = some oa /\ isObj oa = true /\ H b = some ob /\ isObj ob = true /\ Q (.bl (decide (a = b))) H) := by
 intro pins s σ H x y v u Q I rx ry h
 obtain ⟨a, b, oa, ob, rfl, rfl, ha, pa, hb, pb, q⟩ := h
 cases rx
 cases ry
 obtain ⟨o1, e1, n1⟩ := obj_there I ha pa
 obtain ⟨o2, e2, _⟩ := obj_there I hb pb
 by_cases z : a = b
 · subst z
   exact wpAny_is_ref_self (fin_bl I q (by simp))
 · exact wpAny_is_ref_other z e1 e2 n1 (fin_bl I q (by simp [z]))
theorem op_isnot_ref : OpR X (compareOp .IsNot) (fun x y H Q => ∃ a b oa ob, x = .ref a /\ y = .ref b /\ H a = some oa /\ isObj oa = true /\ H b = some ob /\ isObj ob = true /\ Q (.bl (!decide (a = b))) H) := by
 intro pins s σ H x y v u Q I rx ry h
 obtain ⟨a, b, oa, ob, rfl, rfl, ha, pa, hb, pb, q⟩ := h
 cases rx
 cases ry
 obtain ⟨o1, e1, n1⟩ := obj_there I ha pa
 obtain ⟨o2, e2, _⟩ := obj_there I hb pb
 by_cases z : a = b
 · subst z
   exact wpAny_isNot_ref_self (fin_bl I q (by simp))
 · exact wpAny_isNot_ref_other z e1 e2 n1 (fin_bl I q (by simp [z]))
theorem OpR.or {f : Value -> Value -> Sem Value} {r r' : R2} (h : OpR X f r) (h' : OpR X f r') : OpR X f (fun x y H Q => r x y H Q ∨ r' x y H Q) := by
 intro pins s σ H x y v u Q I rx ry q
 rcases q with q | q
 · exact h pins s σ H x y v u Q I rx ry q
 · exact h' pins s σ H x y v u Q I rx ry q
theorem nomark (b : Expr) {op : CmpOp} (h : op ≠ .In := by decide) (h2 : op ≠ .NotIn := by decide) : behindInMarks op b = false := by
 have e1 : (op == CmpOp.In) = false := by cases op <;> first | rfl | exact absurd rfl h
 have e2 : (op == CmpOp.NotIn) = false := by cases op <;> first | rfl | exact absurd rfl h2
 cases b <;> simp [behindInMarks, e1, e2]
theorem pe_cmpR {op : CmpOp} {r : R2} (ho : OpR X (compareOp op) r) (ha : PE X a ta) (hb : PE X b tb) (hm : behindInMarks op b = false) : PE X (.Compare a [op] [b] pos) (tOp r ta tb) := by
 intro pins s σ H Q I h
 exact wpAny_Compare1 (binT ha hb I h fun v u s2 x y H2 I2 rx ry q => ho pins s2 σ H2 x y v u Q I2 rx ry q) hm
def tTest (t : TE) : TT := fun σ H Q => t σ H fun x H' => ∃ k, x = .bl k /\ Q k H'
theorem pt_cmpR {op : CmpOp} {r : R2} (ho : OpR X (compareOp op) r) (ha : PE X a ta) (hb : PE X b tb) (hm : behindInMarks op b = false) : PT X (.Compare a [op] [b] pos) (tTest (tOp r ta tb)) := by
 intro pins s σ H Q I h
 refine wpAny_isTrue_Compare1 (thn (ha pins s σ H _ I h) fun v s1 ⟨x, H1, I1, r1, q1⟩ => thn (hb pins s1 σ H1 _ I1 q1) fun u s2 ⟨y, H2, I2, r2, q2⟩ =>
   thn (ho pins s2 σ H2 x y v u _ I2 r1 r2 q2) fun c s3 ⟨z, H3, I3, r3, k, e, q3⟩ => ?_) hm
 subst e
 cases r3
 exact wpAny_truthy_bool ⟨H3, I3, q3⟩
def tChain (r r' : R2) (ta tb tc : TE) : TE := fun σ H Q => ta σ H fun x H1 => tb σ H1 fun y H2 => r x y H2 fun z H3 => ∃ k, z = .bl k /\
 (if k = true then tc σ H3 fun w' H4 => r' y w' H4 Q else Q (.bl false) H3)
theorem pe_chain {op op' : CmpOp} {r r' : R2} (ho : OpR X (compareOp op) r) (ho' : OpR X (compareOp op') r') (ha : PE X a ta) (hb : PE X b tb) (hc : PE X c tc)
   (hm : lastMarks [op, op'] [b, c] = false := by with_unfolding_all rfl) : PE X (.Compare a [op, op'] [b, c] pos) (tChain r r' ta tb tc) := by
 intro pins s σ H Q I h
 refine Compare_chain (thn (ha pins s σ H _ I h) fun v s1 ⟨x, H1, I1, r1, q1⟩ => chain_link (thn (hb pins s1 σ H1 _ I1 q1) fun u s2 ⟨y, H2, I2, r2, q2⟩ =>
   thn (ho pins s2 σ H2 x y v u _ I2 r1 r2 q2) fun d s3 ⟨z, H3, I3, r3, k, e, q3⟩ => ?_)) hm
 subst e
 cases r3
 refine wpAny_truthy_bool ?_
 cases k with
 | false => exact ite_ff ⟨.bl false, H3, I3, rfl, q3⟩
 | true => exact ite_tt (chain_last (thn (hc pins s3 σ H3 _ I3 q3) fun w' s4 ⟨z', H4, I4, r4, q4⟩ => ho' pins s4 σ H4 y z' u w' Q I4 r2 r4 q4))
theorem pt_chain {op op' : CmpOp} {r r' : R2} (ho : OpR X (compareOp op) r) (ho' : OpR X (compareOp op') r') (ha : PE X a ta) (hb : PE X b tb) (hc : PE X c tc)
   (hm : lastMarks [op, op'] [b, c] = false := by with_unfolding_all rfl) : PT X (.Compare a [op, op'] [b, c] pos) (tTest (tChain r r' ta tb tc)) := by
 intro pins s σ H Q I h
 refine isTrue_chain (thn (ha pins s σ H _ I h) fun v s1 ⟨x, H1, I1, r1, q1⟩ => test_link (thn (hb pins s1 σ H1 _ I1 q1) fun u s2 ⟨y, H2, I2, r2, q2⟩ =>
   thn (ho pins s2 σ H2 x y v u _ I2 r1 r2 q2) fun d s3 ⟨z, H3, I3, r3, k, e, q3⟩ => ?_)) hm
 subst e
 cases r3
 refine wpAny_truthy_bool ?_
 cases k with
 | false =>
   obtain ⟨k', e', q'⟩ := q3
   cases e'
   exact ite_ff ⟨H3, I3, q'⟩
 | true =>
   refine ite_tt (test_last (thn (hc pins s3 σ H3 _ I3 q3) fun w' s4 ⟨z', H4, I4, r4, q4⟩ => thn (ho' pins s4 σ H4 y z' u w' _ I4 r2 r4 q4) fun d' s5 ⟨z2, H5, I5, r5, k2, e2, q5⟩ => ?_))
   subst e2
   cases r5
   exact wpAny_truthy_bool ⟨H5, I5, q5⟩
def TruV (K : PySem.W.Frag) (x : V) (H : Hp) (k : Bool) : Prop :=
 match x with
 | .non => k = false
 | .bl b => k = b
 | .int i => k = (i != 0)
 | .str y => y.length <= sizeLine /\ k = ((y.length : Int) != 0)
 | .byt y => y.size <= sizeLine /\ k = ((y.size : Int) != 0)
 | .ref p => (∃ xs, SqL K H p xs /\ k = !xs.isEmpty) ∨ (∃ xs, SqT K H p xs /\ k = !xs.isEmpty) ∨ ∃ kvs, H p = some (.dK kvs) /\ k = !kvs.isEmpty
 | _ => False
theorem isEmpty_kv {κ : Type} {kvs : List (κ × V)} {vs : List (κ × Value)} (r : KV kvs vs) : (!vs.isEmpty) = !kvs.isEmpty := by
 cases r <;> rfl
theorem isEmpty_of {xs : List V} {its : List Value} (r : Vals xs its) : (!its.toArray.isEmpty) = !xs.isEmpty := by
 cases r <;> simp
theorem line63 : (sizeLine : Nat) < 2 ^ 63 := by rw [sizeLine_eq]; decide
theorem tru_ok : TruR X (fun x H Q => ∃ k, TruV X.K x H k /\ Q k H) := by
 intro pins s σ H x v Q I rx h
 obtain ⟨k, e, q⟩ := h
 have hl := line63
 have hs : sizeLine = 16777216 := sizeLine_eq
 cases x with
 | non =>
   cases rx
   have e' : k = false := e
   subst e'
   exact truthy_none ⟨H, I, q⟩
 | bl b =>
   cases rx
   have e' : k = b := e
   subst e'
   exact wpAny_truthy_bool ⟨H, I, q⟩
 | int i =>
   obtain ⟨t, rfl⟩ := rx
   have e' : k = (i != 0) := e
   subst e'
   exact PySem.P.truthy_int ⟨H, I, q⟩
 | str y =>
   obtain ⟨t, rfl⟩ := rx
   obtain ⟨hy, e'⟩ : y.length <= sizeLine /\ k = ((y.length : Int) != 0) := e
   subst e'
   exact PySem.P.truthy_str (by omega) ⟨H, I.tok _, q⟩
 | byt y =>
   obtain ⟨t, rfl⟩ := rx
   obtain ⟨hy, e'⟩ : y.size <= sizeLine /\ k = ((y.size : Int) != 0) := e
   subst e'
   exact PySem.W.truthy_bytes (by omega) ⟨H, I.tok _, q⟩
 | ref p =>
   cases rx
   have e' : (∃ xs, SqL X.K H p xs /\ k = !xs.isEmpty) ∨ (∃ xs, SqT X.K H p xs /\ k = !xs.isEmpty) ∨ ∃ kvs, H p = some (.dK kvs) /\ k = !kvs.isEmpty := e
   rcases e' with ⟨xs, hx, e'⟩ | ⟨xs, hx, e'⟩ | ⟨kvs, hx, e'⟩
   · subst e'
     obtain ⟨its, r, pl, hz⟩ := I.list hx
     have hlen := r.length
     exact wpAny_truthy_list pl.isList (by simp only [List.size_toArray]; omega) ⟨H, I.tok _, by rw [isEmpty_of r]; exact q⟩
   · subst e'
     obtain ⟨its, r, pl, hz⟩ := I.tuple hx
     have hlen := r.length
     exact truthy_tuple pl (by simp only [List.size_toArray]; omega) ⟨H, I.tok _, by rw [isEmpty_of r]; exact q⟩
   · subst e'
     obtain ⟨hz, hS, vs, r, m⟩ : kvs.length <= sizeLine /\ (p == sysModules) = false /\ ∃ vs, KV kvs vs /\ s.heap.DictOf (mixKind X.prog X.w) p vs := I.hok p _ hx
     have hlen : kvs.length = vs.length := Paired.length r
     exact wpAny_truthy_dict hS m (by omega) ⟨H, I.tok _, by rw [isEmpty_kv r]; exact q⟩
 | _ => exact (show False from e).elim
theorem pt_truth (ha : PE X a ta) (he : ∀ whole, isTrue a X.env whole = (do let v <- whole; standAt a.pos; holding [v] (truthy v))) :
   PT X a (fun σ H Q => ta σ H fun x H' => ∃ k, TruV X.K x H' k /\ Q k H') := by
 intro pins s σ H Q I h
 exact isTrue_plain (thn (ha pins s σ H _ I h) fun v s1 ⟨x, H1, I1, r1, q1⟩ => tru_ok pins s1 σ H1 x v Q I1 r1 q1) (he _)
theorem pe_byt {x : List UInt8} {k : Nat} : PE X (.Constant (.bytes x) k pos) (fun _ H Q => Q (.byt x.toArray) H) := fun _ _ _ H _ I h => PySem.W.Constant_bytes ⟨.byt x.toArray, H, I.tok _, ⟨_, rfl⟩, h⟩
theorem op_add_str : OpR X (binaryOp .Add) (fun x y H Q => ∃ i j, x = .str i /\ y = .str j /\ i.length + j.length <= sizeLine /\ Q (.str (i ++ j)) H) := by
 intro pins s σ H x y v u Q I rx ry h
 obtain ⟨i, j, rfl, rfl, hz, q⟩ := h
 obtain ⟨t, rfl⟩ := rx
 obtain ⟨t', rfl⟩ := ry
 exact add_str (fun t' tk => ⟨.str (i ++ j), H, I.tok _, ⟨_, rfl⟩, q⟩) hz
theorem iop_add_str : OpR X (inplaceOp .Add) (fun x y H Q => ∃ i j, x = .str i /\ y = .str j /\ i.length + j.length <= sizeLine /\ Q (.str (i ++ j)) H) := by
 intro pins s σ H x y v u Q I rx ry h
 obtain ⟨i, j, rfl, rfl, hz, q⟩ := h
 obtain ⟨t, rfl⟩ := rx
 obtain ⟨t', rfl⟩ := ry
 exact iadd_str (fun t' tk => ⟨.str (i ++ j), H, I.tok _, ⟨_, rfl⟩, q⟩) hz
theorem op_add_byt : OpR X (binaryOp .Add) (fun x y H Q => ∃ i j, x = .byt i /\ y = .byt j /\ i.size + j.size <= 16777216 /\ Q (.byt (i ++ j)) H) := by
 intro pins s σ H x y v u Q I rx ry h
 obtain ⟨i, j, rfl, rfl, hz, q⟩ := h
 obtain ⟨t, rfl⟩ := rx
 obtain ⟨t', rfl⟩ := ry
 exact PySem.W.KBy.add_bytes hz (fun t' tk => ⟨.byt (i ++ j), H, I.tok _, ⟨_, rfl⟩, q⟩)
def PlainIxT (b : Expr) : Prop := ∀ o i, subscripted b false o i = operate [o, i] (getItem o i)
theorem pe_item_str (ha : PE X a ta) (hb : PE X b tb) (hs : PlainIxT b) :
   PE X (.Subscript a b pos) (tOp (fun x y H Q => ∃ z i c, x = .str z /\ y = .int i /\ 0 <= i /\ i < 2 ^ 63 /\ i < z.length /\ z.cps[i.toNat]? = some c /\ Q (.str ⟨#[c]⟩) H) ta tb) := by
 intro pins s σ H Q I h
 refine Subscript_ (binT ha hb I h fun v u s2 x y H2 I2 rx ry q => ?_)
 obtain ⟨z, i, c, rfl, rfl, h0, h63, h1, hc, q⟩ := q
 obtain ⟨t, rfl⟩ := rx
 obtain ⟨t', rfl⟩ := ry
 have e : seqIndex? i z.length = some i.toNat := PySem.StrLaws.seqIndex_nonneg h0 h1
 exact tail_any (typeIs_str s2 z t) slot_str_getitem.lookup (getItem_str (c := c) (by
   have e1 : decide (i < -(2 ^ 63 : Int)) = false := decide_eq_false (by omega)
   have e2 : decide (i ≥ 2 ^ 63) = false := decide_eq_false (by omega)
   rw [e1, e2] <;> rfl) (by rw [e]; exact hc) ⟨.str ⟨#[c]⟩, H2, I2.tok _, ⟨_, rfl⟩, q⟩) (hs _ _)
theorem pe_item_byt (ha : PE X a ta) (hb : PE X b tb) (hs : PlainIxT b) :
   PE X (.Subscript a b pos) (tOp (fun x y H Q => ∃ (z : List UInt8) (i : Int), x = .byt z.toArray /\ y = .int i /\ z.length <= sizeLine /\ 0 <= i /\ i < z.length /\ Q (.int ((z.getD i.toNat 0).toNat : Nat)) H) ta tb) := by
 intro pins s σ H Q I h
 refine Subscript_ (binT ha hb I h fun v u s2 x y H2 I2 rx ry q => ?_)
 obtain ⟨z, i, rfl, rfl, hz, h0, h1, q⟩ := q
 obtain ⟨t, rfl⟩ := rx
 obtain ⟨t', rfl⟩ := ry
 have hl : sizeLine = 16777216 := sizeLine_eq
 exact tail_any (PySem.W.typeIs_bytes s2 z.toArray t) PySem.W.FB.slot_bytes_getitem.lookup (PySem.W.getItem_bytes (by omega) h0 h1 ⟨.int ((z.getD i.toNat 0).toNat : Nat), H2, I2.tok _, ⟨_, rfl⟩, q⟩) (hs _ _)
theorem vals1 {x : V} {us : List Value} (r : Vals [x] us) : ∃ u, us = [u] /\ RelV x u := by
 cases r with
 | cons r1 r2 => cases r2; exact ⟨_, rfl, r1⟩
theorem vals2 {x y : V} {us : List Value} (r : Vals [x, y] us) : ∃ u w', us = [u, w'] /\ RelV x u /\ RelV y w' := by
 cases r with
 | cons r1 r2 =>
   cases r2 with
   | cons r3 r4 => cases r4; exact ⟨_, _, rfl, r1, r3⟩
theorem call_abs : CallR X (.builtin "abs") (fun xs H Q => ∃ i, xs = [.int i] /\ Q (.int (if i < 0 then -i else i)) H) := by
 intro pins s σ H xs us Q I r h
 obtain ⟨i, rfl, q⟩ := h
 obtain ⟨u, rfl, t, rfl⟩ := vals1 r
 exact call_abs_int fun u tk => ⟨.int (if i < 0 then -i else i), H, I.tok _, ⟨_, rfl⟩, q⟩
theorem call_max2 (hc : X.calm = true) : CallR X (.builtin "max") (fun xs H Q => ∃ i j, xs = [.int i, .int j] /\ Q (.int (if j > i then j else i)) H) := by
 intro pins s σ H xs us Q I r h
 obtain ⟨i, j, rfl, q⟩ := h
 obtain ⟨u, w', rfl, ⟨t, rfl⟩, ⟨t', rfl⟩⟩ := vals2 r
 refine max_two_ints (I.ok.hd hc) fun h' tk k => ⟨_, H, I.kept k, ?_, q⟩
 by_cases hj : j > i
 · rw [if_pos hj, if_pos hj]; exact ⟨_, rfl⟩
 · rw [if_neg hj, if_neg hj]; exact ⟨_, rfl⟩
theorem call_min2 (hc : X.calm = true) : CallR X (.builtin "min") (fun xs H Q => ∃ i j, xs = [.int i, .int j] /\ Q (.int (if j < i then j else i)) H) := by
 intro pins s σ H xs us Q I r h
 obtain ⟨i, j, rfl, q⟩ := h
 obtain ⟨u, w', rfl, ⟨t, rfl⟩, ⟨t', rfl⟩⟩ := vals2 r
 refine min_two_ints (I.ok.hd hc) fun h' tk k => ⟨_, H, I.kept k, ?_, q⟩
 by_cases hj : j < i
 · rw [if_pos hj, if_pos hj]; exact ⟨_, rfl⟩
 · rw [if_neg hj, if_neg hj]; exact ⟨_, rfl⟩
theorem call_int1 : CallR X (.type "int") (fun xs H Q => (∃ i, xs = [.int i] /\ Q (.int i) H) ∨ ∃ k, xs = [.bl k] /\ Q (.int (if k then 1 else 0)) H) := by
 intro pins s σ H xs us Q I r h
 rcases h with ⟨i, rfl, q⟩ | ⟨k, rfl, q⟩
 · obtain ⟨u, rfl, t, rfl⟩ := vals1 r
   exact call_int_int ⟨.int i, H, I, ⟨_, rfl⟩, q⟩
 · obtain ⟨u, rfl, r1⟩ := vals1 r
   cases r1
   exact call_int_bool ⟨.int (if k then 1 else 0), H, I.tok _, ⟨_, rfl⟩, q⟩
theorem call_bool1 : CallR X (.type "bool") (fun xs H Q => (∃ i, xs = [.int i] /\ Q (.bl (i != 0)) H) ∨ ∃ k, xs = [.bl k] /\ Q (.bl k) H) := by
 intro pins s σ H xs us Q I r h
 rcases h with ⟨i, rfl, q⟩ | ⟨k, rfl, q⟩
 · obtain ⟨u, rfl, t, rfl⟩ := vals1 r
   exact call_bool_int ⟨.bl (i != 0), H, I, rfl, q⟩
 · obtain ⟨u, rfl, r1⟩ := vals1 r
   cases r1
   exact call_bool_bool ⟨.bl k, H, I, rfl, q⟩
theorem call_str_int : CallR X (.type "str") (fun xs H Q => ∃ i, xs = [.int i] /\ i.natAbs.log2 < 1920 /\ Q (.str (toString i)) H) := by
 intro pins s σ H xs us Q I r h
 obtain ⟨i, rfl, hz, q⟩ := h
 obtain ⟨u, rfl, t, rfl⟩ := vals1 r
 exact PySem.P.str_of_int hz ⟨.str _, H, I.tok _, ⟨_, rfl⟩, q⟩
theorem call_ord : CallR X (.builtin "ord") (fun xs H Q => ∃ x, xs = [.str x] /\ x.length = 1 /\ Q (.int (x.cps.getD 0 0 : Nat)) H) := by
 intro pins s σ H xs us Q I r h
 obtain ⟨x, rfl, hz, q⟩ := h
 obtain ⟨u, rfl, t, rfl⟩ := vals1 r
 exact ord_of_one hz ⟨.int _, H, I.tok _, ⟨_, rfl⟩, q⟩
theorem call_chr : CallR X (.builtin "chr") (fun xs H Q => ∃ i, xs = [.int i] /\ 0 <= i /\ i <= 1114111 /\ Q (.str ⟨#[i.toNat]⟩) H) := by
 intro pins s σ H xs us Q I r h
 obtain ⟨i, rfl, h0, h1, q⟩ := h
 obtain ⟨u, rfl, t, rfl⟩ := vals1 r
 exact chr_of_range h0 h1 ⟨.str _, H, I.tok _, ⟨_, rfl⟩, q⟩
def LenV (K : PySem.W.Frag) (x : V) (H : Hp) (n : Nat) : Prop :=
 match x with
 | .str y => y.length <= sizeLine /\ n = y.length
 | .byt y => y.size <= sizeLine /\ n = y.size
 | .ref p => (∃ xs, SqL K H p xs /\ n = xs.length) ∨ ∃ xs, SqT K H p xs /\ n = xs.length
 | _ => False
theorem call_len : CallR X (.builtin "len") (fun xs H Q => ∃ x n, xs = [x] /\ LenV X.K x H n /\ Q (.int n) H) := by
 intro pins s σ H xs us Q I r h
 obtain ⟨x, n, rfl, e, q⟩ := h
 obtain ⟨u, rfl, rx⟩ := vals1 r
 have hl := line63
 have hs : sizeLine = 16777216 := sizeLine_eq
 cases x with
 | str y =>
   obtain ⟨t, rfl⟩ := rx
   obtain ⟨hy, e'⟩ : y.length <= sizeLine /\ n = y.length := e
   subst e'
   exact len_str (by omega) ⟨.int _, H, I.tok _, ⟨_, rfl⟩, q⟩
 | byt y =>
   obtain ⟨t, rfl⟩ := rx
   obtain ⟨hy, e'⟩ : y.size <= sizeLine /\ n = y.size := e
   subst e'
   exact PySem.W.len_bytes (by omega) ⟨.int _, H, I.tok _, ⟨_, rfl⟩, q⟩
 | ref p =>
   cases rx
   have e' : (∃ xs, SqL X.K H p xs /\ n = xs.length) ∨ ∃ xs, SqT X.K H p xs /\ n = xs.length := e
   rcases e' with ⟨xs, hx, e'⟩ | ⟨xs, hx, e'⟩
   · subst e'
     obtain ⟨its, r', pl, hz⟩ := I.list hx
     have hlen := r'.length
     exact Calls.call_len_list pl.isList (by simp only [List.size_toArray]; omega) ⟨.int xs.length, H, I.tok _, ⟨_, by simp only [List.size_toArray]; rw [hlen]⟩, q⟩
   · subst e'
     obtain ⟨its, r', pl, hz⟩ := I.tuple hx
     have hlen := r'.length
     exact len_tuple pl (by simp only [List.size_toArray]; omega) ⟨.int xs.length, H, I.tok _, ⟨_, by simp only [List.size_toArray]; rw [hlen]⟩, q⟩
 | _ => exact (show False from e).elim
theorem call_divmod : CallR X (.builtin "divmod") (fun xs H Q => ∃ i j, xs = [.int i, .int j] /\ CDiv i j /\ ∀ p, H p = none -> Q (.ref p) (upd H p (.tup [.int (i / j), .int (i % j)]))) := by
 intro pins s σ H xs us Q I r h
 obtain ⟨i, j, rfl, ⟨h1, h2⟩, q⟩ := h
 obtain ⟨u, w', rfl, ⟨t, rfl⟩, ⟨t', rfl⟩⟩ := vals2 r
 refine divmod_int (by omega) ?_ (.inl (PyProof.noPylong_small (by omega)))
 rw [Int.fdiv_eq_ediv_of_nonneg i (by omega), Int.fmod_eq_emod_of_nonneg i (by omega)]
 have hn : H s.heap.objs.size = none := I.hok.fresh (Nat.le_refl _)
 refine ⟨.ref s.heap.objs.size, _, ?_, rfl, q _ hn⟩
 refine I.laid (fun b o e => Heap.get?_push_of_some _ e) (Nat.le_refl _) ⟨by simp only [List.length_cons, List.length_nil]; rw [sizeLine_eq]; decide, [.int (i / j) s.toks, .int (i % j) (s.toks + 1)], .cons ⟨_, rfl⟩ (.cons ⟨_, rfl⟩ .nil), ?_⟩
 exact ⟨_, Heap.get?_push_size s.heap rfl, rfl, 0, rfl⟩
end
end L2
namespace L2
open PySem PySem.Spec PyProof.Rows
structure ObjM (h : Heap) (x dx C : Addr) (mA : Str -> Option Value) : Prop where
 obj : h.get? x = some (PySem.W.instObj C dx)
 ns : h.Ns1 dx mA
 ne : dx ≠ x
theorem lookIn_ns {h : Heap} {dx : Addr} {mA : Str -> Option Value} (n : h.Ns1 dx mA) : ∃ od, h.get? dx = some od /\ ∀ name, PySem.W.lookIn name od = some (mA name) := by
 obtain ⟨o, es, ep, ho, hd, hk, _, hm⟩ := n
 refine ⟨o, ho, fun name => ?_⟩
 have e := hm name
 unfold nsFind findBy at e
 rw [<- Array.find?_toList] at e
 unfold PySem.W.lookIn
 rw [hd]
 dsimp only
 split
 · rename_i y q
   rw [q] at e
   exact congrArg some e
 · rename_i q
   rw [q] at e
   have a : es.toList.any (·.refKey) = false := by
     rw [List.any_eq_false]
     intro y hy
     obtain ⟨z, t, hkey⟩ := hk y (Array.mem_toList_iff.mp hy)
     simp [DictEntry.refKey, hkey]
   have a' : ¬ es.toList.any (·.refKey) = true := by rw [a]; exact Bool.false_ne_true
   rw [if_neg a']
   exact congrArg some e
theorem ObjM.look {h : Heap} {x dx C : Addr} {mA : Str -> Option Value} (I : ObjM h x dx C mA) : ∃ od, PySem.W.InstAt h x (PySem.W.instObj C dx) C (some od) /\ ∀ name, PySem.W.lookIn name od = some (mA name) :=
 let ⟨od, ho, hl⟩ := lookIn_ns I.ns
 ⟨od, ⟨I.obj, rfl, rfl, ho⟩, hl⟩
section
variable {prog : Program} {w : World} {A : Around} {E : Value -> Shared -> Prop} {s : Shared} {K : PySem.W.Frag} {x dx C f : Addr} {mA : Str -> Option Value} {name : Str} {v : Value}
theorem get_map {expr : Bool} {Q : Value -> Shared -> Prop} (X : K.In s.heap) (I : ObjM s.heap x dx C mA) (hg : PySem.W.plainGet K C name = true) (hh : PySem.W.hasDictIn K C = true)
   (ha : PySem.W.findIn K (.ref C) name = some none) (hv : mA name = some v) (hv' : PySem.W.handedIn v = true) (h : Q v { s with toks := s.toks + 1 }) :
   wpAny (model prog w) A (getAttr (.ref x) name expr) Q E s := by
 obtain ⟨od, J, hl⟩ := I.look
 exact PySem.W.get_value X J (PySem.W.plainGet_of hg).1 (PySem.W.findObj_own hh ha rfl (by rw [hl, hv])) hv' h
theorem get_const {expr : Bool} {a : Value} {Q : Value -> Shared -> Prop} (X : K.In s.heap) (I : ObjM s.heap x dx C mA) (hg : PySem.W.plainGet K C name = true) (hh : PySem.W.hasDictIn K C = true)
   (ha : PySem.W.findIn K (.ref C) name = some (some a)) (hn : PySem.W.specialIn K a "__get__" = some none) (hc : PySem.W.copiedNames.contains name = false) (hv : mA name = none) (hv' : PySem.W.handedIn a = true)
   (h : Q a { s with toks := s.toks + 1 }) : wpAny (model prog w) A (getAttr (.ref x) name expr) Q E s := by
 obtain ⟨od, J, hl⟩ := I.look
 exact PySem.W.get_value X J (PySem.W.plainGet_of hg).1 (PySem.W.findObj_cls hh ha hn hv' hc (by rw [hl, hv])) hv' h
theorem get_meth {pl : Sem Bool} {Q : Value × List Value -> Shared -> Prop} (X : K.In s.heap) (I : ObjM s.heap x dx C mA) (hg : PySem.W.plainGet K C name = true)
   (hf : PySem.W.findIn K (.ref C) name = some (some (.ref f))) (ht : PySem.W.isFn K (.ref f) = true) (hv : mA name = none) (h : Q (.ref f, [.ref x]) s) :
   wpAny (model prog w) A (getMethod (.ref x) name pl) Q E s := by
 obtain ⟨od, J, hl⟩ := I.look
 exact PySem.W.method_fn X J (PySem.W.plainGet_of hg).1 (PySem.W.plainGet_of hg).2 hf (beq_iff_eq.mp ht) (by show (PySem.W.lookIn name od).map (·.isSome) = some false; rw [hl, hv]; rfl) h
theorem set_map {ns : List Str} {Q : Unit -> Shared -> Prop} (X : K.In s.heap) (I : ObjM s.heap x dx C mA)
   (hs : PySem.W.findIn K (.ref C) "__setattr__" = some (some (.builtin "object.__setattr__"))) (hp : PySem.W.plainOver K C = true) (ht : PySem.W.takerIn K C name = some none) (hh : PySem.W.hasDictIn K C = true)
   (hw : PySem.Within mA ns) (hsz : ns.length <= sizeLine)
   (h : ∀ h', ObjM h' x dx C (fun y => if y = name then some v else mA y) -> Heap.SameBut dx s.heap h' -> Q () { s with heap := h', toks := s.toks + 2 }) :
   wpAny (model prog w) A (setAttr (.ref x) name v) Q E s := by
 obtain ⟨od, J, hl⟩ := I.look
 refine PySem.W.set_plain X J hs (PySem.W.osa_open (s := { s with toks := s.toks + 1 }) (r := none) X J hp ht fun b => ?_)
 obtain ⟨cd, hc, hd'⟩ := PySem.W.any_some hh
 have hx : s.heap.get? x = some ⟨.ref C, some dx, .plain, #[]⟩ := I.obj
 refine wpAny_bind (wpAny_pure (wpAny_bind (wpAny_bind (wpAny_loadPart hx (wpAny_bind (PySem.W.Looks.here (s := { s with toks := s.toks + 1 }) (PySem.W.looks_clsIn X hc) ?_))))))
 rw [hd']
 refine wpAny_pure (a := some dx) (wpAny_bind (wpAny_pure (wpAny_bind ?_)))
 refine wpAny_nsSet1 (s := { s with toks := s.toks + 1 }) I.ns fun h' hn2 hs2 => ?_
 obtain ⟨oD, esD, epD, hoD, hdD, hcD⟩ := hn2.count (PySem.Within.cons name v hw)
 refine wpAny_bind (wpAny_lookBehind hoD (by rw [hdD]; exact pastItsLine_dict (Nat.le_trans hcD (by rw [List.length_cons]; omega))) ?_)
 exact wpAny_pure (h _ ⟨(hs2.2 _ (Ne.symm I.ne)).trans I.obj, hn2, I.ne⟩ hs2)
theorem make_map {R : Result -> Shared -> Prop} {vs : List Value} {kw : List (Str × Value)} (X : K.In s.heap) (hm : PySem.W.makesIn K C = true)
   (hi : PySem.W.findIn K (.ref C) "__init__" = some (some (.ref f))) (hf : PySem.W.typeIn K (.ref f) = some (.type "function"))
   (h : codeAny (model prog w) (A.under (.builtin "type.__call__" ⟨.ref C :: vs, kw⟩)) (.call (.ref f) ⟨.ref (s.heap.objs.size + 1) :: vs, kw⟩) (PySem.W.InitBack (s.heap.objs.size + 1) R)
     { s with heap := (s.heap.push PySem.W.emptyDict).push (PySem.W.instObj C s.heap.objs.size) }) :
   codeAny (model prog w) A (.call (.ref C) ⟨vs, kw⟩) R s := by
 obtain ⟨hh, g, d, t, os⟩ := s
 exact PySem.W.make_core (PySem.W.makes_of X hm) (PySem.W.looks_findIn X hi) (fun self => PySem.W.bind_fn X self hf) (.inl rfl) h
theorem make_map0 {R : Result -> Shared -> Prop} (X : K.In s.heap) (hm : PySem.W.makesIn K C = true)
   (hi : PySem.W.findIn K (.ref C) "__init__" = some (some (.builtin "object.__init__")))
   (hb : ∀ self, PySem.W.Looks (model prog w) s.heap (bindSpecial (.builtin "object.__init__") self) (.builtin "object.__init__", [self]))
   (h : codeAny (model prog w) (A.under (.builtin "type.__call__" ⟨[.ref C], []⟩)) (.call (.builtin "object.__init__") ⟨[.ref (s.heap.objs.size + 1)], []⟩) (PySem.W.InitBack (s.heap.objs.size + 1) R)
     { s with heap := (s.heap.push PySem.W.emptyDict).push (PySem.W.instObj C s.heap.objs.size) }) :
   codeAny (model prog w) A (.call (.ref C) ⟨[], []⟩) R s := by
 obtain ⟨hh, g, d, t, os⟩ := s
 exact PySem.W.make_core (PySem.W.makes_of X hm) (PySem.W.looks_findIn X hi) hb (.inr ⟨rfl, rfl⟩) h
end
def putF (f : Str) (v : V) : List (Str × V) -> List (Str × V)
 | [] => [(f, v)]
 | (g, x) :: r => if g = f then (g, v) :: r else (g, x) :: putF f v r
theorem lookup_putF (f g : Str) (v : V) : ∀ fs : List (Str × V), (putF f v fs).lookup g = if g = f then some v else fs.lookup g
 | [] => by
   show List.lookup g [(f, v)] = _
   by_cases h : g = f
   · have hb : (g == f) = true := beq_iff_eq.mpr h
     simp only [List.lookup, hb, if_pos h]
   · have hb : (g == f) = false := beq_eq_false_iff_ne.mpr h
     simp only [List.lookup, hb, if_neg h]
 | (k, x) :: r => by
   have ih := lookup_putF f g v r
   rw [show putF f v ((k, x) :: r) = (if k = f then (k, v) :: r else (k, x) :: putF f v r) from rfl]
   by_cases hk : k = f
   · rw [if_pos hk]
     by_cases h : g = k
     · have hb : (g == k) = true := beq_iff_eq.mpr h
       simp only [List.lookup, hb, if_pos (h.trans hk)]
     · have hb : (g == k) = false := beq_eq_false_iff_ne.mpr h
       simp only [List.lookup, hb, if_neg (fun e : g = f => h (e.trans hk.symm))]
   · rw [if_neg hk]
     by_cases h : g = k
     · have hb : (g == k) = true := beq_iff_eq.mpr h
       simp only [List.lookup, hb, if_neg (fun e : g = f => hk (h.symm.trans e))]
     · have hb : (g == k) = false := beq_eq_false_iff_ne.mpr h
       simp only [List.lookup, hb]
       exact ih
theorem keys_putF (f : Str) (v : V) : ∀ fs : List (Str × V), f ∈ (putF f v fs).map (·.1) /\ ∀ g, g ∈ fs.map (·.1) -> g ∈ (putF f v fs).map (·.1)
 | [] => ⟨by simp [putF], fun g h => by simp at h⟩
 | (k, x) :: r => by
   obtain ⟨i1, i2⟩ := keys_putF f v r
   rw [show putF f v ((k, x) :: r) = (if k = f then (k, v) :: r else (k, x) :: putF f v r) from rfl]
   by_cases hk : k = f
   · rw [if_pos hk]
     subst hk
     exact ⟨by simp, fun g h => by simpa using h⟩
   · rw [if_neg hk]
     refine ⟨?_, fun g h => ?_⟩
     · rw [List.map_cons]
       exact List.mem_cons_of_mem _ i1
     · rw [List.map_cons] at h ⊢
       rcases List.mem_cons.mp h with e | e
       · exact List.mem_cons.mpr (.inl e)
       · exact List.mem_cons_of_mem _ (i2 g e)
theorem length_putF (f : Str) (v : V) : ∀ fs : List (Str × V), (putF f v fs).length <= fs.length + 1
 | [] => by simp [putF]
 | (k, x) :: r => by
   have ih := length_putF f v r
   rw [show putF f v ((k, x) :: r) = (if k = f then (k, v) :: r else (k, x) :: putF f v r) from rfl]
   by_cases hk : k = f
   · rw [if_pos hk, List.length_cons, List.length_cons]; omega
   · rw [if_neg hk, List.length_cons, List.length_cons]; omega
theorem RelO.some_of {v : V} {o : Option Value} (r : RelO (some v) o) : ∃ u, o = some u /\ RelV v u := by
 cases o with
 | none => exact (show False from r).elim
 | some u => exact ⟨u, rfl, r⟩
theorem RelO.none_of {o : Option Value} (r : RelO none o) : o = none := by
 cases o with
 | none => rfl
 | some u => exact (show False from r).elim
theorem handed_of {v : V} {u : Value} (r : RelV v u) : PySem.W.handedIn u = true := by
 cases v with
 | non => cases (show u = Value.none from r); rfl
 | bl b => cases (show u = Value.bool b from r); rfl
 | int i => obtain ⟨t, e⟩ := (show ∃ t, u = Value.int i t from r); cases e; rfl
 | str x => obtain ⟨t, e⟩ := (show ∃ t, u = Value.str x t from r); cases e; rfl
 | byt b => obtain ⟨t, e⟩ := (show ∃ t, u = Value.bytes b t from r); cases e; rfl
 | flt b => obtain ⟨t, e⟩ := (show ∃ t, u = Value.float b t from r); cases e; rfl
 | ref a => cases (show u = Value.ref a from r); rfl
 | ty n => cases (show u = Value.type n from r); rfl
section
variable {P : Program} {w : World} {H H' : Hp} {h h' : Heap} {a C dx : Addr} {fs fs' : List (Str × V)}
theorem ins_get (hok : HOk P w H h) (e : H a = some (.ins C dx fs)) : ∃ mA, ObjM h a dx C mA /\ (∀ f, RelO (fs.lookup f) (mA f)) /\ PySem.Within mA (fs.map (·.1)) /\ fs.length <= 1000 /\ H dx = some (.own a) := by
 obtain ⟨d, z, ne, ob, mA, n, r, q⟩ := (show ObjOk P w H h a (.ins C dx fs) from hok a _ e)
 exact ⟨mA, ⟨ob, n, ne⟩, r, q, z, d⟩
end
structure Cls (K : PySem.W.Frag) (C : Addr) : Prop where
 pg : PySem.W.plainGet K C Str.empty = true
 hd : PySem.W.hasDictIn K C = true
 po : PySem.W.plainOver K C = true
 sa : PySem.W.findIn K (.ref C) "__setattr__" = some (some (.builtin "object.__setattr__"))
theorem Cls.get {K : PySem.W.Frag} {C : Addr} (c : Cls K C) (f : Str) : PySem.W.plainGet K C f = true := c.pg
def NoAttr (K : PySem.W.Frag) (C : Addr) (f : Str) : Prop := PySem.W.findIn K (.ref C) f = some none
theorem NoAttr.taker {K : PySem.W.Frag} {C : Addr} {f : Str} (n : NoAttr K C f) : PySem.W.takerIn K C f = some none := by
 unfold PySem.W.takerIn
 rw [show PySem.W.findIn K (.ref C) f = some none from n]
 rfl
structure Con (K : PySem.W.Frag) (C : Addr) (f : Str) (v : V) (u : Value) : Prop where
 at_ : PySem.W.findIn K (.ref C) f = some (some u)
 rel : RelV v u
 get : PySem.W.specialIn K u "__get__" = some none
 cp : PySem.W.copiedNames.contains f = false
structure Meth (K : PySem.W.Frag) (C : Addr) (m : Str) (f : Addr) : Prop where
 at_ : PySem.W.findIn K (.ref C) m = some (some (.ref f))
 fn : PySem.W.isFn K (.ref f) = true
 kp : PySem.W.keepIn K (.ref f) = true
section
variable {X : Cx} {pins : List (Addr × Obj)} {σ : St} {H : Hp} {s : Shared} {a C dx : Addr} {fs : List (Str × V)} {f : Str} {v : V} {A : Around} {E : Value -> Shared -> Prop}
theorem getattr_ok {b : Bool} {Q : Value -> Shared -> Prop} (I : Inv X pins σ H s) (e : H a = some (.ins C dx fs)) (c : Cls X.K C) (n : NoAttr X.K C f) (l : fs.lookup f = some v)
   (h : ∀ u s', Inv X pins σ H s' -> RelV v u -> Q u s') : wpAny (model X.prog X.w) A (getAttr (.ref a) f b) Q E s := by
 obtain ⟨mA, O, r, _, _, _⟩ := ins_get I.hok e
 obtain ⟨u, hu, ru⟩ := RelO.some_of (v := v) (o := mA f) (by rw [<- l]; exact r f)
 exact get_map I.kIn O (c.get f) c.hd n hu (handed_of ru) (h u _ (I.tok _) ru)
theorem getcon_ok {b : Bool} {u : Value} {Q : Value -> Shared -> Prop} (I : Inv X pins σ H s) (e : H a = some (.ins C dx fs)) (c : Cls X.K C) (k : Con X.K C f v u) (l : fs.lookup f = none)
   (h : ∀ s', Inv X pins σ H s' -> Q u s') : wpAny (model X.prog X.w) A (getAttr (.ref a) f b) Q E s := by
 obtain ⟨mA, O, r, _, _, _⟩ := ins_get I.hok e
 have hn : mA f = none := RelO.none_of (by rw [<- l]; exact r f)
 exact get_const I.kIn O (c.get f) c.hd k.at_ k.get k.cp hn (handed_of k.rel) (h _ (I.tok _))
theorem getmeth_ok {m : Str} {g : Addr} {pl : Sem Bool} {Q : Value × List Value -> Shared -> Prop} (I : Inv X pins σ H s) (e : H a = some (.ins C dx fs)) (c : Cls X.K C) (k : Meth X.K C m g) (l : fs.lookup m = none)
   (h : Q (.ref g, [.ref a]) s) : wpAny (model X.prog X.w) A (getMethod (.ref a) m pl) Q E s := by
 obtain ⟨mA, O, r, _, _, _⟩ := ins_get I.hok e
 have hn : mA m = none := RelO.none_of (by rw [<- l]; exact r m)
 exact get_meth I.kIn O (c.get m) k.at_ k.fn hn h
theorem setattr_ok {y : V} {u : Value} {Q : Unit -> Shared -> Prop} (I : Inv X pins σ H s) (e : H a = some (.ins C dx fs)) (c : Cls X.K C) (n : NoAttr X.K C f) (hl : fs.length < 1000) (ry : RelV y u)
   (h : ∀ s', Inv X pins σ (upd H a (.ins C dx (putF f y fs))) s' -> Q () s') : wpAny (model X.prog X.w) A (setAttr (.ref a) f u) Q E s := by
 obtain ⟨mA, O, r, wi, _, ho⟩ := ins_get I.hok e
 have hz : (fs.map (·.1)).length <= sizeLine := by rw [List.length_map, sizeLine_eq]; omega
 refine set_map I.kIn O c.sa c.po n.taker c.hd wi hz fun h' O' sb => h _ ?_
 have hd : ∃ o, h'.get? dx = some o := let ⟨o, _, _, e', _⟩ := O'.ns; ⟨o, e'⟩
 refine I.write (x := a) (e := dx) (by rw [e]; exact True.intro) (.inr ho) (fun b q hb z => (sb.2 b hb).trans z) hd ?_
 refine ⟨by rw [upd_ne O.ne]; exact ho, ?_, O.ne, O'.obj, _, O'.ns, fun g => ?_, fun g hg => ?_⟩
 · have := length_putF f y fs; omega
 · show RelO ((putF f y fs).lookup g) (if g = f then some u else mA g)
   rw [lookup_putF]
   by_cases q : g = f
   · rw [if_pos q, if_pos q]; exact ry
   · rw [if_neg q, if_neg q]; exact r g
 · by_cases q : g = f
   · rw [q]; exact (keys_putF f y fs).1
   · refine (keys_putF f y fs).2 g (wi g fun z => hg ?_)
     show (if g = f then some u else mA g) = none
     rw [if_neg q]; exact z
theorem Inv.made (I : Inv X pins σ H s) : Inv X pins σ (upd (upd H s.heap.objs.size (.own (s.heap.objs.size + 1))) (s.heap.objs.size + 1) (.ins C s.heap.objs.size []))
   { s with heap := (s.heap.push PySem.W.emptyDict).push (PySem.W.instObj C s.heap.objs.size) } := by
 have e1 : (s.heap.push PySem.W.emptyDict).get? s.heap.objs.size = some PySem.W.emptyDict := Heap.get?_push_size s.heap rfl
 have e2 : ((s.heap.push PySem.W.emptyDict).push (PySem.W.instObj C s.heap.objs.size)).get? (s.heap.objs.size + 1) = some (PySem.W.instObj C s.heap.objs.size) := by
   have := Heap.get?_push_size (s.heap.push PySem.W.emptyDict) (o := PySem.W.instObj C s.heap.objs.size) rfl
   rwa [Heap.size_push] at this
 have e3 : (s.heap.push PySem.W.emptyDict).Ns s.heap.objs.size (fun _ => none) := ⟨PySem.W.emptyDict, #[], _, e1, rfl, (fun e he => absurd he (by simp)), fun _ => rfl⟩
 have I1 := I.laid (a := s.heap.objs.size) (o := .own (s.heap.objs.size + 1)) (h' := s.heap.push PySem.W.emptyDict) (t' := s.toks) (fun b u q => Heap.get?_push_of_some _ q) (Nat.le_refl _) ⟨_, e1⟩
 refine I1.laid (a := s.heap.objs.size + 1) (o := .ins C s.heap.objs.size []) (t' := s.toks) (fun b u q => Heap.get?_push_of_some _ q) (Nat.le_of_eq (Heap.size_push _ _)) ?_
 have ne : s.heap.objs.size ≠ s.heap.objs.size + 1 := Nat.ne_of_lt (Nat.lt_succ_self _)
 refine ⟨by rw [upd_ne ne, upd_same], Nat.zero_le _, ne, e2, fun _ => none, (Heap.Ns1.of_empty e3).at fun o q => Heap.get?_push_of_some _ q, fun _ => True.intro, fun y hy => absurd rfl hy⟩
theorem attr_of {prog : Program} {w : World} {env : Env} {e : Expr} {f : Str} {pos : Pos} {s : Shared} {Q : Value -> Shared -> Prop} (hb : attributeBase e f env (eval e env) = eval e env)
   (h : wpAny (model prog w) A (eval e env) (fun o s₁ => wpAny (model prog w) A (getAttr o f true) Q E s₁) E s) : wpAny (model prog w) A (eval (.Attribute e f pos) env) Q E s :=
 Attribute_any_ h (by rw [arm_eval_Attribute, hb])
end
def tFld (K : PySem.W.Frag) (ta : TE) (f : Str) : TE := fun σ H Q => ta σ H fun x H1 => ∃ a C dx fs v, x = .ref a /\ H1 a = some (.ins C dx fs) /\ Cls K C /\ NoAttr K C f /\ fs.lookup f = some v /\ Q v H1
def tCon (K : PySem.W.Frag) (ta : TE) (f : Str) : TE := fun σ H Q => ta σ H fun x H1 => ∃ a C dx fs v u, x = .ref a /\ H1 a = some (.ins C dx fs) /\ Cls K C /\ Con K C f v u /\ fs.lookup f = none /\ Q v H1
def sFld (K : PySem.W.Frag) (ta tv : TE) (f : Str) : TS := fun D σ H => tv σ H fun y H1 => ta σ H1 fun x H2 => ∃ a C dx fs, x = .ref a /\ H2 a = some (.ins C dx fs) /\ Cls K C /\ NoAttr K C f /\ fs.length < 1000 /\
 D.nx σ (upd H2 a (.ins C dx (putF f y fs)))
def InOp (X : Cx) (op : Operator) (rd : V -> V -> Hp -> VK -> Prop) : Prop :=
 ∀ (pins : List (Addr × Obj)) (s : Shared) (σ : St) (H : Hp) (x y : V) (u v : Value) (Q : VK), Inv X pins σ H s -> RelV x u -> RelV y v -> rd x y H Q -> wpAny (model X.prog X.w) X.A (inplaceOp op u v) (EP X pins σ Q) X.xe s
def sFldAug (K : PySem.W.Frag) (ta tv : TE) (rd : V -> V -> Hp -> VK -> Prop) (f : Str) : TS := fun D σ H => ta σ H fun x H1 => ∃ a C dx fs v, x = .ref a /\ H1 a = some (.ins C dx fs) /\ Cls K C /\ NoAttr K C f /\ fs.lookup f = some v /\
 tv σ H1 fun y H2 => rd v y H2 fun z H3 => ∃ dx' fs', H3 a = some (.ins C dx' fs') /\ fs'.length < 1000 /\ D.nx σ (upd H3 a (.ins C dx' (putF f z fs')))
section
variable {X : Cx} {o e value : Expr} {f : Str} {pos pos' tpos : Pos} {ta tv : TE}
theorem pe_fld (he : PE X e ta) (hb : attributeBase e f X.env (eval e X.env) = eval e X.env) : PE X (.Attribute e f pos) (tFld X.K ta f) := by
 intro pins s σ H Q I h
 refine attr_of hb (thn (he pins s σ H _ I h) fun u s1 ⟨x, H1, I1, rx, a, C, dx, fs, v, ex, ea, c, n, l, q⟩ => ?_)
 subst ex
 obtain rfl : u = Value.ref a := rx
 exact getattr_ok I1 ea c n l fun u' s2 I2 ru => ⟨v, H1, I2, ru, q⟩
theorem pe_con (he : PE X e ta) (hb : attributeBase e f X.env (eval e X.env) = eval e X.env) : PE X (.Attribute e f pos) (tCon X.K ta f) := by
 intro pins s σ H Q I h
 refine attr_of hb (thn (he pins s σ H _ I h) fun u s1 ⟨x, H1, I1, rx, a, C, dx, fs, v, u0, ex, ea, c, k, l, q⟩ => ?_)
 subst ex
 obtain rfl : u = Value.ref a := rx
 exact getcon_ok I1 ea c k l fun s2 I2 => ⟨v, H1, I2, k.rel, q⟩
theorem ps_fld (ha : PE X o ta) (hv : PE X value tv) (hs : swapsWith value (some (.Attribute o f pos')) pos.line X.env = pure false) : PS X (.Assign [.Attribute o f pos'] value pos) (sFld X.K ta tv f) := by
 intro pins s σ H D I h
 refine plainObj_wpAny_Assign_Attribute (thn (hv pins s σ H _ I h) fun u s1 ⟨y, H1, I1, ry, q⟩ => thn (ha pins s1 σ H1 _ I1 q) fun ov s2 ⟨x, H2, I2, rx, a, C, dx, fs, ex, ea, c, n, l, q2⟩ => ?_) hs
 subst ex
 obtain rfl : ov = Value.ref a := rx
 exact setattr_ok I2 ea c n l ry fun s3 I3 => ⟨σ, _, I3, q2⟩
theorem ps_fldaug {op : Operator} {rd : V -> V -> Hp -> VK -> Prop} (ha : PE X o ta) (hv : PE X value tv) (hop : InOp X op rd) : PS X (.AugAssign (.Attribute o f tpos) op value pos) (sFldAug X.K ta tv rd f) := by
 intro pins s σ H D I h
 refine wpAny_AugAssign_AttributeAny (thn (ha pins s σ H _ I h) fun ov s1 ⟨x, H1, I1, rx, a, C, dx, fs, v, ex, ea, c, n, l, q⟩ => ?_)
 subst ex
 obtain rfl : ov = Value.ref a := rx
 refine getattr_ok I1 ea c n l fun u s2 I2 ru => thn (hv pins s2 σ H1 _ I2 q) fun w3 s3 ⟨y, H2, I3, ry, q3⟩ => thn (hop pins s3 σ H2 v y u w3 _ I3 ru ry q3) fun w4 s4 ⟨z, H3, I4, rz, dx', fs', ea', l', q4⟩ => ?_
 exact setattr_ok I4 ea' c n l' rz fun s5 I5 => ⟨σ, _, I5, q4⟩
def rAdd : V -> V -> Hp -> VK -> Prop := fun x y H Q => ∃ i j, x = .int i /\ y = .int j /\ Q (.int (i + j)) H
def rSub : V -> V -> Hp -> VK -> Prop := fun x y H Q => ∃ i j, x = .int i /\ y = .int j /\ Q (.int (i - j)) H
theorem in_add : InOp X .Add rAdd := by
 rintro pins s σ H x y u v Q I rx ry ⟨i, j, rfl, rfl, q⟩
 obtain ⟨t, rfl⟩ := (show ∃ t, u = Value.int i t from rx)
 obtain ⟨t', rfl⟩ := (show ∃ t', v = Value.int j t' from ry)
 exact PyProof.Rows.iadd_int ⟨.int (i + j), H, I.tok _, ⟨_, rfl⟩, q⟩
theorem in_sub : InOp X .Sub rSub := by
 rintro pins s σ H x y u v Q I rx ry ⟨i, j, rfl, rfl, q⟩
 obtain ⟨t, rfl⟩ := (show ∃ t, u = Value.int i t from rx)
 obtain ⟨t', rfl⟩ := (show ∃ t', v = Value.int j t' from ry)
 exact PyProof.Rows.isub_int ⟨.int (i - j), H, I.tok _, ⟨_, rfl⟩, q⟩
theorem methcall_of {pl : Sem Bool} {m : Str} {apos : Pos} {args : List Expr} {pins : List (Addr × Obj)} {s : Shared} {σ : St} {H : Hp} {Q : Value -> Shared -> Prop} {te : TE} (he : PE X e te) (I : Inv X pins σ H s)
   (h : te σ H fun x H1 => ∃ a C dx fs g, x = .ref a /\ H1 a = some (.ins C dx fs) /\ Cls X.K C /\ Meth X.K C m g /\ fs.lookup m = none /\
     ∀ s1, Inv X pins σ H1 s1 -> wpAny (model X.prog X.w) X.A (callWith pos (.ref g) [.ref a] (backTo pos (starEach args X.env)) (backToKw pos (keywordEach [] X.env))) Q X.xe s1)
   (ht : eval (.Call (.Attribute e m apos) args [] pos) X.env = (do
     let ov <- eval e X.env
     standAt apos.atName
     let (f, first) <- holding [ov] (getMethod ov m pl)
     callWith pos f first (backTo pos (starEach args X.env)) (backToKw pos (keywordEach [] X.env)))) :
   wpAny (model X.prog X.w) X.A (eval (.Call (.Attribute e m apos) args [] pos) X.env) Q X.xe s := by
 refine PySem.W.methodCall_KW (pl := pl) (thn (he pins s σ H _ I h) fun u s1 ⟨x, H1, I1, rx, a, C, dx, fs, g, ex, ea, c, k, l, q⟩ => ?_) ht
 subst ex
 obtain rfl : u = Value.ref a := rx
 exact getmeth_ok I1 ea c k l (q s1 I1)
end
section
variable {X : Cx} {pins : List (Addr × Obj)} {σ : St} {H : Hp} {s : Shared} {A : Around} {E : Value -> Shared -> Prop} {Q : Value -> Shared -> Prop} {c : Value} {b : Bool}
inductive TyOf (K : PySem.W.Frag) (H : Hp) : V -> Value -> Prop where
 | non : TyOf K H .non (.type "NoneType")
 | bl (x : Bool) : TyOf K H (.bl x) (.type "bool")
 | int (i : Int) : TyOf K H (.int i) (.type "int")
 | str (x : Str) : TyOf K H (.str x) (.type "str")
 | flt (x : UInt64) : TyOf K H (.flt x) (.type "float")
 | lst {a : Addr} {xs : List V} (e : H a = some (.lst xs)) : TyOf K H (.ref a) (.type "list")
 | frz {a : Addr} {o : Obj} {xs : List V} (e : H a = some (.frz o (.lst xs))) : TyOf K H (.ref a) (.type "list")
 | tup {a : Addr} {xs : List V} (e : H a = some (.tup xs)) : TyOf K H (.ref a) (.type "tuple")
 | dK {a : Addr} {kvs : List (Key × V)} (e : H a = some (.dK kvs)) : TyOf K H (.ref a) (.type "dict")
 | dT {a : Addr} {kvs : List (List Key × V)} (e : H a = some (.dT kvs)) : TyOf K H (.ref a) (.type "dict")
 | ins {a C dx : Addr} {fs : List (Str × V)} (e : H a = some (.ins C dx fs)) (cl : Cls K C) (ha : PySem.W.findIn K (.ref C) "__class__" = some (some (.builtin "object.__class__")))
     (hn : PySem.W.specialIn K (.builtin "object.__class__") "__get__" = some (some (.builtin "getset_descriptor.__get__"))) (htk : PySem.W.takesIn K (.builtin "object.__class__") = some true)
     (hm : PySem.W.mroIn K C (.type "object") = some true) : TyOf K H (.ref a) (.ref C)
theorem isinst_ok {x : V} {u t : Value} (I : Inv X pins σ H s) (rx : RelV x u) (ty : TyOf X.K H x t) (e : PySem.W.kitOne X.K t c = some b) (h : ∀ tk, Q (.bool b) { s with toks := tk }) :
   wpAny (model X.prog X.w) A (call (.builtin "isinstance") [u, c]) Q E s := by
 cases ty with
 | non => cases (show u = Value.none from rx); exact PySem.W.kia_one PySem.W.kitx_none I.kIn True.intro e (fun z => nomatch z) h
 | bl y => cases (show u = Value.bool y from rx); exact PySem.W.kia_one PySem.W.kitx_bool I.kIn True.intro e (fun z => nomatch z) h
 | int i => obtain ⟨t, q⟩ := (show ∃ t, u = Value.int i t from rx); cases q; exact PySem.W.kia_one PySem.W.kitx_int I.kIn True.intro e (fun z => nomatch z) h
 | str y => obtain ⟨t, q⟩ := (show ∃ t, u = Value.str y t from rx); cases q; exact PySem.W.kia_one PySem.W.kitx_str I.kIn True.intro e (fun z => nomatch z) h
 | flt y => obtain ⟨t, q⟩ := (show ∃ t, u = Value.float y t from rx); cases q; exact PySem.W.kia_one PySem.W.kitx_float I.kIn True.intro e (fun z => nomatch z) h
 | @lst a xs ea =>
   cases (show u = Value.ref a from rx)
   obtain ⟨_, _, n, _, h1⟩ := (show ObjOk X.prog X.w H s.heap a (.lst xs) from I.hok a _ ea)
   exact PySem.W.kia_one PySem.W.kitx_list I.kIn ⟨_, h1, rfl⟩ e (fun z => nomatch z) h
 | @frz a ob xs ea =>
   cases (show u = Value.ref a from rx)
   obtain ⟨_, _, _, n, _, h1⟩ := (show ObjOk X.prog X.w H s.heap a (.frz ob (.lst xs)) from I.hok a _ ea)
   exact PySem.W.kia_one PySem.W.kitx_list I.kIn ⟨_, h1, rfl⟩ e (fun z => nomatch z) h
 | @tup a xs ea =>
   cases (show u = Value.ref a from rx)
   obtain ⟨_, _, _, p⟩ := (show ObjOk X.prog X.w H s.heap a (.tup xs) from I.hok a _ ea)
   obtain ⟨o, h1, h2, _⟩ := p
   exact PySem.W.kia_one PySem.W.kitx_tuple I.kIn ⟨o, h1, h2⟩ e (fun z => nomatch z) h
 | @dK a kvs ea =>
   cases (show u = Value.ref a from rx)
   obtain ⟨_, _, vs, _, p⟩ := (show ObjOk X.prog X.w H s.heap a (.dK kvs) from I.hok a _ ea)
   obtain ⟨o, es, ep, h1, h2, _⟩ := p
   exact PySem.W.kia_one PySem.W.kitx_dict I.kIn ⟨o, h1, h2.1⟩ e (fun z => nomatch z) h
 | @dT a kvs ea =>
   cases (show u = Value.ref a from rx)
   obtain ⟨_, _, xs, _, o, es, ep, h1, h2, _⟩ := (show ObjOk X.prog X.w H s.heap a (.dT kvs) from I.hok a _ ea)
   exact PySem.W.kia_one PySem.W.kitx_dict I.kIn ⟨o, h1, h2.1⟩ e (fun z => nomatch z) h
 | @ins a C dx fs ea cl ha hn htk hm =>
   cases (show u = Value.ref a from rx)
   obtain ⟨mA, O, _⟩ := ins_get I.hok ea
   obtain ⟨od, J, _⟩ := O.look
   exact PySem.W.kia_one (PySem.W.kitx_own (cl.get _) cl.hd ha hn htk hm) I.kIn J e (fun z => nomatch z) h
end
end L2
namespace L2
open PySem PySem.Spec PyProof.Rows
structure Room (k : Nat) (A : Around) : Prop where
 hd : A.handled = none
 dp : A.depth + 3 * k + 5 < recursionLimit
 un : A.units + 16 * k + 200 < cLine
theorem Room.mono {j k : Nat} {A : Around} (r : Room k A) (h : j <= k) : Room j A := ⟨r.hd, by have := r.dp; omega, by have := r.un; omega⟩
theorem Room.deeper {k : Nat} {A : Around} (r : Room (k + 1) A) (env : Env) : Room k (A.deeper env) :=
 ⟨r.hd, by have := r.dp; show A.depth + 1 + 3 * k + 5 < _; omega, by have := r.un; show A.units + 3 + 16 * k + 200 < _; omega⟩
theorem Room.in1 {k : Nat} {A : Around} (r : Room (k + 1) A) : Room k A.in1 :=
 ⟨r.hd, by have := r.dp; show A.depth + 3 * k + 5 < _; omega, by have := r.un; show A.units + 1 + 16 * k + 200 < _; omega⟩
theorem make_depth {A : Around} {C : Addr} {us : List Value} {kw : List (Str × Value)} : (A.under (.builtin "type.__call__" ⟨.ref C :: us, kw⟩)).depth = A.depth + 1 := by
 first | rfl | simp [Around.under, Code.weight, Code.isCreation, Code.isGuard, Code.isCaller, Code.frames, Code.isFrame, guardIds]
theorem make_units {A : Around} {C : Addr} {us : List Value} {kw : List (Str × Value)} : (A.under (.builtin "type.__call__" ⟨.ref C :: us, kw⟩)).units = A.units + 1 := by
 first | rfl | simp [Around.under, Code.cUnits, Code.frames, Code.isFrame]
theorem Room.make {k : Nat} {A : Around} (r : Room (k + 1) A) (C : Addr) (us : List Value) (kw : List (Str × Value)) : Room k (A.under (.builtin "type.__call__" ⟨.ref C :: us, kw⟩)) :=
 ⟨r.hd, by have := r.dp; rw [make_depth]; omega, by have := r.un; rw [make_units]; omega⟩
theorem Room.depth {k : Nat} {A : Around} (r : Room k A) : A.depth < recursionLimit := by have := r.dp; omega
theorem Room.units {k : Nat} {A : Around} (r : Room k A) : A.units + 64 < cLine := by have := r.un; omega
theorem Room.units0 {k : Nat} {A : Around} (r : Room k A) : A.units < cLine := by have := r.un; omega
def tNil : TA := fun _ H Q => Q [] H
def tCons (ta : TE) (tr : TA) : TA := fun σ H Q => ta σ H fun x H1 => tr σ H1 fun xs H2 => Q (x :: xs) H2
section
variable {X : Cx} {e : Expr} {es : List Expr} {te : TE} {t : TA} {pos : Pos}
theorem pa_nil : PA X [] tNil := fun _ _ _ _ H Q I h => Calls.spliced_nil ⟨[], H, I, .nil, h⟩
theorem pa_cons (ha : PE X e te) (hr : PA X es t) (hs : starEach (e :: es) X.env = (false, eval e X.env) :: starEach es X.env := by rfl) : PA X (e :: es) (tCons te t) := by
 intro pos pins s σ H Q I h
 rw [hs]
 show wpAny _ _ (spliced ((false, eval e X.env) :: backTo pos (starEach es X.env))) _ _ s
 refine Calls.spliced_cons (thn (ha pins s σ H _ I h) fun u s1 ⟨x, H1, I1, r1, q1⟩ => ?_)
 exact thn (hr pos pins s1 σ H1 _ I1 q1) fun us s2 ⟨xs, H2, I2, r2, q2⟩ => ⟨x :: xs, H2, I2, .cons r1 r2, q2⟩
def tTup (t : TA) : TE := fun σ H Q => t σ H fun xs H1 => xs.length <= sizeLine /\ ∀ p, H1 p = none -> Q (.ref p) (upd H1 p (.tup xs))
def tLst (t : TA) : TE := fun σ H Q => t σ H fun xs H1 => xs.length <= sizeLine /\ ∀ p, H1 p = none -> Q (.ref p) (upd H1 p (.lst xs))
theorem pe_tup {x1} (h : PA X es t) : PE X (.Tuple es x1 pos) (tTup t) := by
 intro pins s σ H Q I hq
 refine wpAny_Tuple_spliced (thn (h pos pins s σ H _ I hq) fun us s1 ⟨xs, H1, I1, r, z, q⟩ => ⟨by rw [<- r.length]; exact z, ?_⟩)
 have hf : H1 s1.heap.objs.size = none := I1.hok.fresh (Nat.le_refl _)
 refine ⟨.ref s1.heap.objs.size, upd H1 s1.heap.objs.size (.tup xs), I1.laid (t' := s1.toks) (fun b u e => Heap.get?_push_of_some _ e) (Nat.le_refl _) ?_, rfl, q _ hf⟩
 exact ⟨z, us, r, ⟨_, Heap.get?_push_size _ rfl, rfl, _, rfl⟩⟩
theorem pe_lst (h : PA X es t) : PE X (.List es pos) (tLst t) := by
 intro pins s σ H Q I hq
 refine wpAny_List_spliced (thn (h pos pins s σ H _ I hq) fun us s1 ⟨xs, H1, I1, r, z, q⟩ => ⟨by rw [<- r.length]; exact z, ?_⟩)
 have hf : H1 s1.heap.objs.size = none := I1.hok.fresh (Nat.le_refl _)
 refine ⟨.ref s1.heap.objs.size, upd H1 s1.heap.objs.size (.lst xs), I1.laid (t' := s1.toks) (fun b u e => Heap.get?_push_of_some _ e) (Nat.le_refl _) ?_, rfl, q _ hf⟩
 exact ⟨z, us, 0, r, Heap.get?_push_size _ rfl⟩
end
abbrev Sp := List V -> Hp -> VK -> XK -> Prop
abbrev CXT := List Env -> Hp -> Shared -> XK -> Value -> Shared -> Prop
structure Env0 (P : Program) (w : World) (K : PySem.W.Frag) (mg : Str -> Option Value) (base : Heap) (A : Around) (outer : List Env) (s : Shared) (H : Hp) : Prop where
 frames : A.frames = some outer
 mod : Mod K mg base
 bs : ∀ b o, base.get? b = some o -> s.heap.get? b = some o /\ H b = none
 bsz : base.objs.size <= s.heap.objs.size
 funs : s.heap.FunFrames base outer
 frf : ∀ b ∈ frs outer, H b = none
 hok : HOk P w H s.heap
 bare : AllBare s.gens
def CE (outer : List Env) (P : Program) (w : World) (H : Hp) (s : Shared) (Q : VK) (u : Value) (s' : Shared) : Prop :=
 ∃ v H', s'.os = s.os /\ AllBare s'.gens /\ Un (frs outer) [] H H' s.heap s'.heap /\ HOk P w H' s'.heap /\ RelV v u /\ Q v H'
def CR (CX : CXT) (outer : List Env) (P : Program) (w : World) (H : Hp) (s : Shared) (Q : VK) (E : XK) (r : Result) (s' : Shared) : Prop :=
 match r with
 | .ok (.ret u) => CE outer P w H s Q u s'
 | .ok _ => False
 | .error e => CX outer H s E e s'
structure FnOk (P : Program) (w : World) (K : PySem.W.Frag) (mg : Str -> Option Value) (base : Heap) (CX : CXT) (k : Nat) (f : Addr) (fd : FuncData) (ps : List Str) (sp : Sp) : Prop where
 len : ∀ vs H Q E, sp vs H Q E -> vs.length = ps.length
 run : ∀ (A : Around) (outer : List Env) (s : Shared) (H : Hp) (args : Args) (us : List Value) (vs : List V) (Q : VK) (E : XK), Room k A -> Env0 P w K mg base A outer s H -> BindsTo s fd args (ps.zip us) -> Vals vs us -> sp vs H Q E ->
   codeAny (model P w) A (.call (.ref f) args) (CR CX outer P w H s Q E) s
theorem FnOk.mono {P : Program} {w : World} {K : PySem.W.Frag} {mg : Str -> Option Value} {base : Heap} {CX : CXT} {j k : Nat} {f : Addr} {fd : FuncData} {ps : List Str} {sp : Sp} (F : FnOk P w K mg base CX j f fd ps sp) (h : j <= k) :
   FnOk P w K mg base CX k f fd ps sp := ⟨F.len, fun A outer s H args us vs Q E hr => F.run A outer s H args us vs Q E (hr.mono h)⟩
theorem FnOk.imp {P : Program} {w : World} {K : PySem.W.Frag} {mg : Str -> Option Value} {base : Heap} {CX : CXT} {k : Nat} {f : Addr} {fd : FuncData} {ps : List Str} {sp sp' : Sp} (F : FnOk P w K mg base CX k f fd ps sp)
   (h : ∀ vs H Q E, sp' vs H Q E -> sp vs H Q E) : FnOk P w K mg base CX k f fd ps sp' :=
 ⟨fun vs H Q E q => F.len vs H Q E (h _ _ _ _ q), fun A outer s H args us vs Q E hr he hb hv hs => F.run A outer s H args us vs Q E hr he hb hv (h _ _ _ _ hs)⟩
theorem Env0.make {P : Program} {w : World} {K : PySem.W.Frag} {mg : Str -> Option Value} {base : Heap} {A : Around} {outer : List Env} {s : Shared} {H : Hp} (e : Env0 P w K mg base A outer s H) (C : Addr) (us : List Value) (kw : List (Str × Value)) :
   Env0 P w K mg base (A.under (.builtin "type.__call__" ⟨.ref C :: us, kw⟩)) outer s H := ⟨by first | exact e.frames | (simpa [Around.under, Code.envs, Code.isFrame, pushEnvs] using e.frames), e.mod, e.bs, e.bsz, e.funs, e.frf, e.hok, e.bare⟩
theorem Env0.in1 {P : Program} {w : World} {K : PySem.W.Frag} {mg : Str -> Option Value} {base : Heap} {A : Around} {outer : List Env} {s : Shared} {H : Hp} (e : Env0 P w K mg base A outer s H) :
   Env0 P w K mg base A.in1 outer s H := ⟨e.frames, e.mod, e.bs, e.bsz, e.funs, e.frf, e.hok, e.bare⟩
section
variable {X : Cx} {pins : List (Addr × Obj)} {σ : St} {H : Hp} {s s' : Shared}
theorem Inv.env0 (I : Inv X pins σ H s) : Env0 X.prog X.w X.K X.mg X.base X.A X.stack s H :=
 ⟨I.ok.frames, I.ok.mod, I.bs, Nat.le_trans I.ok.bsz I.sz, I.stack, I.stkFree, I.hok, I.bare⟩
theorem Inv.after {Q : VK} {u : Value} (I : Inv X pins σ H s) (h : CE X.stack X.prog X.w H s Q u s') : EP X pins σ Q u s' := by
 obtain ⟨v, H', os, bare, un, hok, r, q⟩ := h
 obtain ⟨hh, g, d, t, os'⟩ := s'
 obtain rfl : os' = s.os := os
 exact ⟨v, H', I.call (h' := hh) (g' := g) (d' := d) (t' := t) (ch := []) un hok bare (fun b z => absurd z (by simp)), r, q⟩
end
def tCall (sp : Sp) (dvs : List V) (E : XK) (t : TA) : TE := fun σ H Q => t σ H fun vs H1 => sp (vs ++ dvs) H1 Q E
def tMeth (C : Addr) (m : Str) (sp : Sp) (dvs : List V) (E : XK) (ta : TE) (t : TA) : TE := fun σ H Q => ta σ H fun x H1 => ∃ a dx fs, x = .ref a /\ H1 a = some (.ins C dx fs) /\ fs.lookup m = none /\
 t σ H1 fun vs H2 => sp (x :: (vs ++ dvs)) H2 Q E
def tMake (C : Addr) (sp : Sp) (dvs : List V) (E : XK) (t : TA) : TE := fun σ H Q => t σ H fun vs H1 => ∀ x dx, H1 x = none -> H1 dx = none -> dx ≠ x ->
 sp (.ref x :: (vs ++ dvs)) (upd (upd H1 dx (.own x)) x (.ins C dx [])) (fun v H2 => v = .non /\ Q (.ref x) H2) E
def Binds (K : PySem.W.Frag) (fd : FuncData) (ps : List Str) (ds : List Value) : Prop :=
 ∀ (s : Shared) (us : List Value), K.In s.heap -> (us ++ ds).length = ps.length -> BindsTo s fd ⟨us, []⟩ (ps.zip (us ++ ds))
theorem Binds.all {K : PySem.W.Frag} {fd : FuncData} {ps : List Str} (h : ∀ us : List Value, us.length = ps.length -> bindArgs fd ⟨us, []⟩ = pure (ps.zip us)) : Binds K fd ps [] := fun s us _ hl => by
 rw [List.append_nil] at hl ⊢
 exact .of_eq (h us hl)
def Passes (CX : CXT) (X : Cx) (E : XK) : Prop := ∀ (pins : List (Addr × Obj)) (σ : St) (H : Hp) (s : Shared) (e : Value) (s' : Shared), Inv X pins σ H s -> CX X.stack H s E e s' -> X.xe e s'
section
variable {X : Cx} {CX : CXT} {k : Nat} {f C : Addr} {fd : FuncData} {ps : List Str} {sp : Sp} {dvs : List V} {ds : List Value} {E : XK} {x m : Str} {p pos apos : Pos} {e o : Expr} {es : List Expr} {ta : TE} {t : TA}
theorem run_fn {pins : List (Addr × Obj)} {σ : St} {H : Hp} {s : Shared} {Q : VK} {us : List Value} {vs : List V} (F : FnOk X.prog X.w X.K X.mg X.base CX k f fd ps sp) (hr : Room k X.A) (hb : Binds X.K fd ps ds) (hd : Vals dvs ds) (hx : Passes CX X E)
   (I : Inv X pins σ H s) (r : Vals vs us) (h : sp (vs ++ dvs) H Q E) : wpAny (model X.prog X.w) X.A (call (.ref f) us) (EP X pins σ Q) X.xe s := by
 have r2 : Vals (vs ++ dvs) (us ++ ds) := r.append hd
 have hl : (us ++ ds).length = ps.length := by rw [<- r2.length]; exact F.len _ _ _ _ h
 refine wpAny_call (codeAny_mono (F.run X.A X.stack s H ⟨us, []⟩ (us ++ ds) (vs ++ dvs) Q E hr I.env0 (hb s us I.kIn hl) r2 h) fun r s' hq => ?_)
 cases r with
 | error e => exact hx pins σ H s e s' I hq
 | ok fl =>
   cases fl with
   | ret u => exact I.after hq
   | next => exact False.elim hq
   | brk => exact False.elim hq
   | cont => exact False.elim hq
theorem pe_call (F : FnOk X.prog X.w X.K X.mg X.base CX k f fd ps sp) (hr : Room k X.A) (hg : Gl X x) (hm : X.mg x = some (.ref f)) (hk : PySem.W.keepIn X.K (.ref f) = true) (hb : Binds X.K fd ps ds) (hd : Vals dvs ds) (hx : Passes CX X E)
   (ha : PA X (e :: es) t) (hdb : (x == ("__debug__" : Str)) = false := by decide) (he : starEach (e :: es) X.env = (false, eval e X.env) :: starEach es X.env := by rfl) (hpl : (backTo pos (starEach es X.env)).any (·.1) = false := by rfl) :
   PE X (.Call (.Name x p) (e :: es) [] pos) (tCall sp dvs E t) := by
 intro pins s σ H Q I h
 refine wpAny_Call_Name_kw (ld_glob I hg hm ?_ hdb)
 refine PySem.W.callWith_K (h₀ := X.base) I.ok.mod.kin hk (thn (ha pos pins s σ H _ I h) fun us s1 ⟨vs, H1, I1, r, q⟩ => ⟨I1.kIn, ?_⟩) he hpl
 exact run_fn F hr hb hd hx I1 r q
theorem pe_call0 (F : FnOk X.prog X.w X.K X.mg X.base CX k f fd ps sp) (hr : Room k X.A) (hg : Gl X x) (hm : X.mg x = some (.ref f)) (hk : PySem.W.keepIn X.K (.ref f) = true) (hb : Binds X.K fd ps ds) (hd : Vals dvs ds) (hx : Passes CX X E)
   (hdb : (x == ("__debug__" : Str)) = false := by decide) : PE X (.Call (.Name x p) [] [] pos) (tCall sp dvs E tNil) := by
 intro pins s σ H Q I h
 refine wpAny_Call_Name_kw (ld_glob I hg hm ?_ hdb)
 exact PySem.W.callWith_K0 I.kIn hk (run_fn (us := []) F hr hb hd hx I .nil h)
theorem pe_meth {pl : Sem Bool} (he : PE X o ta) (c : Cls X.K C) (hm : Meth X.K C m f) (F : FnOk X.prog X.w X.K X.mg X.base CX k f fd ps sp) (hr : Room k X.A) (hb : Binds X.K fd ps ds) (hd : Vals dvs ds) (hx : Passes CX X E) (ha : PA X (e :: es) t)
   (hst : starEach (e :: es) X.env = (false, eval e X.env) :: starEach es X.env := by rfl) (hpl : (backTo pos (starEach es X.env)).any (·.1) = false := by rfl)
   (ht : eval (.Call (.Attribute o m apos) (e :: es) [] pos) X.env = (do
     let ov <- eval o X.env
     standAt apos.atName
     let (f, first) <- holding [ov] (getMethod ov m pl)
     callWith pos f first (backTo pos (starEach (e :: es) X.env)) (backToKw pos (keywordEach [] X.env))) := by rfl) :
   PE X (.Call (.Attribute o m apos) (e :: es) [] pos) (tMeth C m sp dvs E ta t) := by
 intro pins s σ H Q I h
 refine PySem.W.methodCall_KW (pl := pl) (thn (he pins s σ H _ I h) fun u s1 ⟨x, H1, I1, rx, a, dx, fs, ex, ea, l, q⟩ => ?_) ht
 subst ex
 obtain rfl : u = Value.ref a := rx
 refine getmeth_ok I1 ea c hm l ?_
 refine PySem.W.callWith_K (first := [.ref a]) (h₀ := X.base) I.ok.mod.kin hm.kp (thn (ha pos pins s1 σ H1 _ I1 q) fun us s2 ⟨vs, H2, I2, r, q2⟩ => ⟨I2.kIn, ?_⟩) hst hpl
 exact run_fn (us := .ref a :: us) (vs := .ref a :: vs) F hr hb hd hx I2 (.cons rfl r) q2
theorem pe_meth0 {pl : Sem Bool} (he : PE X o ta) (c : Cls X.K C) (hm : Meth X.K C m f) (F : FnOk X.prog X.w X.K X.mg X.base CX k f fd ps sp) (hr : Room k X.A) (hb : Binds X.K fd ps ds) (hd : Vals dvs ds) (hx : Passes CX X E)
   (ht : eval (.Call (.Attribute o m apos) [] [] pos) X.env = (do
     let ov <- eval o X.env
     standAt apos.atName
     let (f, first) <- holding [ov] (getMethod ov m pl)
     callWith pos f first (backTo pos (starEach [] X.env)) (backToKw pos (keywordEach [] X.env))) := by rfl) :
   PE X (.Call (.Attribute o m apos) [] [] pos) (tMeth C m sp dvs E ta tNil) := by
 intro pins s σ H Q I h
 refine PySem.W.methodCall_KW (pl := pl) (thn (he pins s σ H _ I h) fun u s1 ⟨x, H1, I1, rx, a, dx, fs, ex, ea, l, q⟩ => ?_) ht
 subst ex
 obtain rfl : u = Value.ref a := rx
 refine getmeth_ok I1 ea c hm l ?_
 exact PySem.W.callWith_K0 (first := [.ref a]) I1.kIn hm.kp (run_fn (us := [.ref a]) (vs := [.ref a]) F hr hb hd hx I1 (.cons rfl .nil) q)
structure Mk (K : PySem.W.Frag) (C f : Addr) : Prop where
 makes : PySem.W.makesIn K C = true
 init : PySem.W.findIn K (.ref C) "__init__" = some (some (.ref f))
 fn : PySem.W.isFn K (.ref f) = true
 kp : PySem.W.keepIn K (.ref C) = true
theorem run_make {pins : List (Addr × Obj)} {σ : St} {H : Hp} {s : Shared} {Q : VK} {us : List Value} {vs : List V} (M : Mk X.K C f) (F : FnOk X.prog X.w X.K X.mg X.base CX k f fd ps sp) (hr : Room (k + 1) X.A) (hb : Binds X.K fd ps ds) (hd : Vals dvs ds)
   (hx : Passes CX X E) (I : Inv X pins σ H s) (r : Vals vs us)
   (h : ∀ x dx, H x = none -> H dx = none -> dx ≠ x -> sp (.ref x :: (vs ++ dvs)) (upd (upd H dx (.own x)) x (.ins C dx [])) (fun v H2 => v = .non /\ Q (.ref x) H2) E) :
   wpAny (model X.prog X.w) X.A (call (.ref C) us) (EP X pins σ Q) X.xe s := by
 have hq := h (s.heap.objs.size + 1) s.heap.objs.size (I.hok.fresh (Nat.le_succ _)) (I.hok.fresh (Nat.le_refl _)) (Nat.ne_of_lt (Nat.lt_succ_self _))
 have I2 := Inv.made (C := C) I
 have r2 : Vals (V.ref (s.heap.objs.size + 1) :: (vs ++ dvs)) (Value.ref (s.heap.objs.size + 1) :: (us ++ ds)) := .cons rfl (r.append hd)
 have hl : (Value.ref (s.heap.objs.size + 1) :: us ++ ds).length = ps.length := by
   have e := r2.length
   rw [F.len _ _ _ _ hq] at e
   exact e.symm
 refine wpAny_call (make_map (f := f) I.kIn M.makes M.init (beq_iff_eq.mp M.fn) (codeAny_mono (F.run _ X.stack _ _ ⟨Value.ref (s.heap.objs.size + 1) :: us, []⟩ (Value.ref (s.heap.objs.size + 1) :: (us ++ ds)) _ _ E (hr.make C us [])
   (I2.env0.make C us []) (hb _ (Value.ref (s.heap.objs.size + 1) :: us) I2.kIn hl) r2 hq) fun r s' hq' => ?_))
 cases r with
 | error e => exact hx pins σ _ _ e s' I2 hq'
 | ok fl =>
   cases fl with
   | ret u =>
     obtain ⟨v, H', I3, rv, ev, q3⟩ := I2.after hq'
     subst ev
     exact ⟨rv, ⟨V.ref (s.heap.objs.size + 1), H', I3, rfl, q3⟩⟩
   | next => exact False.elim hq'
   | brk => exact False.elim hq'
   | cont => exact False.elim hq'
theorem pe_make (M : Mk X.K C f) (F : FnOk X.prog X.w X.K X.mg X.base CX k f fd ps sp) (hr : Room (k + 1) X.A) (hg : Gl X x) (hm : X.mg x = some (.ref C)) (hb : Binds X.K fd ps ds) (hd : Vals dvs ds) (hx : Passes CX X E)
   (ha : PA X (e :: es) t) (hdb : (x == ("__debug__" : Str)) = false := by decide) (he : starEach (e :: es) X.env = (false, eval e X.env) :: starEach es X.env := by rfl) (hpl : (backTo pos (starEach es X.env)).any (·.1) = false := by rfl) :
   PE X (.Call (.Name x p) (e :: es) [] pos) (tMake C sp dvs E t) := by
 intro pins s σ H Q I h
 refine wpAny_Call_Name_kw (ld_glob I hg hm ?_ hdb)
 refine PySem.W.callWith_K (h₀ := X.base) I.ok.mod.kin M.kp (thn (ha pos pins s σ H _ I h) fun us s1 ⟨vs, H1, I1, r, q⟩ => ⟨I1.kIn, ?_⟩) he hpl
 exact run_make M F hr hb hd hx I1 r q
theorem pe_make0 (M : Mk X.K C f) (F : FnOk X.prog X.w X.K X.mg X.base CX k f fd ps sp) (hr : Room (k + 1) X.A) (hg : Gl X x) (hm : X.mg x = some (.ref C)) (hb : Binds X.K fd ps ds) (hd : Vals dvs ds) (hx : Passes CX X E)
   (hdb : (x == ("__debug__" : Str)) = false := by decide) : PE X (.Call (.Name x p) [] [] pos) (tMake C sp dvs E tNil) := by
 intro pins s σ H Q I h
 refine wpAny_Call_Name_kw (ld_glob I hg hm ?_ hdb)
 exact PySem.W.callWith_K0 I.kIn M.kp (run_make (us := []) M F hr hb hd hx I .nil h)
end
def PK (X : Cx) (kws : List Keyword) (t : TA) : Prop :=
 ∀ (pos : Pos) (pins : List (Addr × Obj)) (s : Shared) (σ : St) (H : Hp) (Q : List V -> Hp -> Prop), Inv X pins σ H s -> t σ H Q -> wpAny (model X.prog X.w) X.A (evalAll ((backToKw pos (keywordEach kws X.env)).map (·.2))) (AP X pins σ Q) X.xe s
section
variable {X : Cx} {CX : CXT} {k : Nat} {f C : Addr} {fd : FuncData} {ps ks : List Str} {sp : Sp} {E : XK} {x m : Str} {p pos apos kpos : Pos} {e o : Expr} {es : List Expr} {kws : List Keyword} {te ta : TE} {t tk : TA} {nm : Option Str}
theorem pk_nil : PK X [] tNil := fun _ _ _ _ H Q I h => wpAny_evalAll_nil ⟨[], H, I, .nil, h⟩
theorem pk_cons (ha : PE X e te) (hr : PK X kws t) : PK X (⟨nm, e, kpos⟩ :: kws) (tCons te t) := by
 intro pos pins s σ H Q I h
 show wpAny _ _ (evalAll ((do let v <- eval e X.env; standAt pos; pure v) :: (backToKw pos (keywordEach kws X.env)).map (·.2))) _ _ s
 refine wpAny_evalAll_cons (wpAny_bind (thn (ha pins s σ H _ I h) fun u s1 ⟨x, H1, I1, r1, q1⟩ => wpAny_bind (wpAny_standAt (wpAny_pure ?_))))
 exact thn (hr pos pins s1 σ H1 _ I1 q1) fun us s2 ⟨xs, H2, I2, r2, q2⟩ => ⟨x :: xs, H2, I2, .cons r1 r2, q2⟩
structure KBinds (K : PySem.W.Frag) (fd : FuncData) (ps ks : List Str) (g : List Value -> List Value -> List Value) (gV : List V -> List V -> List V) : Prop where
 to : ∀ (s : Shared) (us ws : List Value), K.In s.heap -> (g us ws).length = ps.length -> BindsTo s fd ⟨us, ks.zip ws⟩ (ps.zip (g us ws))
 rel : ∀ {vs : List V} {us : List Value} {zs : List V} {ws : List Value}, Vals vs us -> Vals zs ws -> Vals (gV vs zs) (g us ws)
def tCallK (sp : Sp) (gV : List V -> List V -> List V) (E : XK) (t tk : TA) : TE := fun σ H Q => t σ H fun vs H1 => tk σ H1 fun zs H2 => sp (gV vs zs) H2 Q E
variable {g : List Value -> List Value -> List Value} {gV : List V -> List V -> List V}
theorem run_fnk {pins : List (Addr × Obj)} {σ : St} {H : Hp} {s : Shared} {Q : VK} {us ws : List Value} {vs zs : List V} (F : FnOk X.prog X.w X.K X.mg X.base CX k f fd ps sp) (hr : Room k X.A) (hb : KBinds X.K fd ps ks g gV) (hx : Passes CX X E)
   (I : Inv X pins σ H s) (r : Vals vs us) (rz : Vals zs ws) (h : sp (gV vs zs) H Q E) : wpAny (model X.prog X.w) X.A (call (.ref f) us (ks.zip ws)) (EP X pins σ Q) X.xe s := by
 have r2 := hb.rel r rz
 have hl : (g us ws).length = ps.length := by rw [<- r2.length]; exact F.len _ _ _ _ h
 refine wpAny_call (codeAny_mono (F.run X.A X.stack s H ⟨us, ks.zip ws⟩ (g us ws) (gV vs zs) Q E hr I.env0 (hb.to s us ws I.kIn hl) r2 h) fun r s' hq => ?_)
 cases r with
 | error e => exact hx pins σ H s e s' I hq
 | ok fl =>
   cases fl with
   | ret u => exact I.after hq
   | next => exact False.elim hq
   | brk => exact False.elim hq
   | cont => exact False.elim hq
theorem pe_callK (F : FnOk X.prog X.w X.K X.mg X.base CX k f fd ps sp) (hr : Room k X.A) (hg : Gl X x) (hm : X.mg x = some (.ref f)) (hk : PySem.W.keepIn X.K (.ref f) = true) (hb : KBinds X.K fd ps ks g gV) (hx : Passes CX X E)
   (ha : PA X (e :: es) t) (hkw : PK X kws tk) (hall : (backToKw pos (keywordEach kws X.env)).all (·.1.isSome) = true := by rfl) (hks : (backToKw pos (keywordEach kws X.env)).filterMap (·.1) = ks := by rfl)
   (hdb : (x == ("__debug__" : Str)) = false := by decide) (he : starEach (e :: es) X.env = (false, eval e X.env) :: starEach es X.env := by rfl)
   (hpl : ((backTo pos (starEach (e :: es) X.env)).any (·.1) || (backToKw pos (keywordEach kws X.env)).any (·.1.isNone)) = false := by rfl) :
   PE X (.Call (.Name x p) (e :: es) kws pos) (tCallK sp gV E t tk) := by
 intro pins s σ H Q I h
 refine wpAny_Call_Name_kw (ld_glob I hg hm ?_ hdb)
 refine PySem.W.callWith_KW (h₀ := X.base) I.ok.mod.kin hk hall (thn (ha pos pins s σ H _ I h) fun us s1 ⟨vs, H1, I1, r, q⟩ => ?_) hpl he
 refine thn (hkw pos pins s1 σ H1 _ I1 q) fun ws s2 ⟨zs, H2, I2, rz, q2⟩ => ⟨I2.kIn, ?_⟩
 rw [hks]
 exact run_fnk F hr hb hx I2 r rz q2
end
structure FnScope (N P : List Str) (sc : Scope) : Prop where
 kind : sc.kind = .function
 co : sc.isCoroutine = false
 gen : sc.isGenerator = false
 nd : N.Nodup
 pre : N.take P.length = P
 par : ∀ x ∈ P, sc.names.lookup x = some .local ∨ sc.names.lookup x = some .cell
 nofree : ∀ y ∈ sc.names, y.2 ≠ .free
theorem bindL_out {kindOf : Str -> Option NameKind} {x : Str} : ∀ {binds : List (Str × Value)} {m : Str -> Option Value}, (∀ v, (x, v) ∉ binds) -> bindL kindOf binds m x = m x
 | [], _, _ => rfl
 | (n, v) :: r, m, h => by
   unfold bindL
   rw [bindL_out fun w hw => h w (List.mem_cons_of_mem _ hw)]
   split
   · have : x ≠ n := by rintro rfl; exact h v List.mem_cons_self
     simp [this]
   · rfl
theorem bindC_out {kindOf : Str -> Option NameKind} {x : Str} : ∀ {binds : List (Str × Value)} {m : Str -> Option Value}, (∀ v, (x, v) ∉ binds) -> bindC kindOf binds m x = m x
 | [], _, _ => rfl
 | (n, v) :: r, m, h => by
   unfold bindC
   rw [bindC_out fun w hw => h w (List.mem_cons_of_mem _ hw)]
   split
   · rfl
   · have : x ≠ n := by rintro rfl; exact h v List.mem_cons_self
     simp [this]
theorem bindL_get {kindOf : Str -> Option NameKind} {x : Str} {v : Value} : ∀ {P : List Str} {vs : List Value} {i : Nat} {m : Str -> Option Value}, P.Nodup -> P[i]? = some x -> vs[i]? = some v -> kindOf x = some .local ->
   bindL kindOf (P.zip vs) m x = some v
 | [], _, _, _, _, h, _, _ => by simp at h
 | _ :: _, [], _, _, _, _, h, _ => by simp at h
 | p :: P, w :: vs, 0, m, nd, h1, h2, hk => by
   simp at h1 h2; subst h1; subst h2
   show bindL kindOf ((p, w) :: P.zip vs) m p = _
   unfold bindL
   rw [bindL_out fun v hv => (List.nodup_cons.mp nd).1 (List.of_mem_zip hv).1, if_pos hk]
   simp
 | p :: P, w :: vs, i + 1, m, nd, h1, h2, hk => by
   show bindL kindOf ((p, w) :: P.zip vs) m x = _
   unfold bindL
   exact bindL_get (i := i) (List.nodup_cons.mp nd).2 (by simpa using h1) (by simpa using h2) hk
theorem bindC_get {kindOf : Str -> Option NameKind} {x : Str} {v : Value} : ∀ {P : List Str} {vs : List Value} {i : Nat} {m : Str -> Option Value}, P.Nodup -> P[i]? = some x -> vs[i]? = some v -> kindOf x ≠ some .local ->
   bindC kindOf (P.zip vs) m x = some v
 | [], _, _, _, _, h, _, _ => by simp at h
 | _ :: _, [], _, _, _, _, h, _ => by simp at h
 | p :: P, w :: vs, 0, m, nd, h1, h2, hk => by
   simp at h1 h2; subst h1; subst h2
   show bindC kindOf ((p, w) :: P.zip vs) m p = _
   unfold bindC
   rw [bindC_out fun v hv => (List.nodup_cons.mp nd).1 (List.of_mem_zip hv).1, if_neg hk]
   simp
 | p :: P, w :: vs, i + 1, m, nd, h1, h2, hk => by
   show bindC kindOf ((p, w) :: P.zip vs) m x = _
   unfold bindC
   exact bindC_get (i := i) (List.nodup_cons.mp nd).2 (by simpa using h1) (by simpa using h2) hk
def start (N : List Str) (vs : List V) : St := vs.map some ++ List.replicate (N.length - vs.length) none
def cxOf (CX : CXT) (P : Program) (w : World) (K : PySem.W.Frag) (mg : Str -> Option Value) (base : Heap) (N : List Str) (qual : Str) (scope : Scope) (f : Addr) (cd : Value) (A : Around) (outer : List Env) (s : Shared) (H : Hp) (E : XK) : Cx where
 prog := P
 w := w
 K := K
 mg := mg
 base := base
 A := A.deeper (envOfC qual scope s.heap.objs.size f cd)
 N := N
 s₀ := s
 H₀ := H
 env := envOfC qual scope s.heap.objs.size f cd
 outer := outer
 stack := envOfC qual scope s.heap.objs.size f cd :: outer
 ex := []
 calm := true
 fn := fun _ => true
 pn := []
 xe := fun e s' => wpAny (model P w) (A.deeper (envOfC qual scope s.heap.objs.size f cd)) (leaving (envOfC qual scope s.heap.objs.size f cd) e) (fun _ s'' => CX outer H s E e s'') (fun e' s'' => CX outer H s E e' s'') s'
theorem cell_has {sc : Scope} {n : Nat} {x : Str} (h : sc.names.lookup x = some .cell) : ∃ c, (cellsFrom n sc.names []).lookup x = some c := by
 have q := PySem.W.cellsFrom_some sc.names n [] (.inl h)
 exact Option.isSome_iff_exists.mp q
theorem inv_start {CX : CXT} {P : Program} {w : World} {K : PySem.W.Frag} {mg : Str -> Option Value} {base : Heap} {N ps : List Str} {qual : Str} {scope : Scope} {f : Addr} {cd : Value} {A : Around} {outer : List Env} {s s1 : Shared} {H : Hp} {E : XK} {us : List Value} {vs : List V}
   (S : FnScope N ps scope) (hd : A.handled = none) (e0 : Env0 P w K mg base A outer s H) (hl : vs.length = ps.length) (r : Vals vs us)
   (x : InCallC s s.heap.objs.size (bindL (envOfC qual scope s.heap.objs.size f cd).kindOf (ps.zip us) fun _ => none) (cellsFrom (s.heap.objs.size + 1) scope.names []) (bindC (envOfC qual scope s.heap.objs.size f cd).kindOf (ps.zip us) fun _ => none) s1) :
   Inv (cxOf CX P w K mg base N qual scope f cd A outer s H E) [] (start N vs) H s1 := by
 have hpl : ps.length <= N.length := by have := congrArg List.length S.pre; rw [List.length_take] at this; omega
 obtain ⟨h1, tk, rfl, hk⟩ := x.done
 have noA : ∀ b : Addr, b ∉ (cxOf CX P w K mg base N qual scope f cd A outer s H E).ex := fun b z => absurd (show b ∈ ([] : List Addr) from z) (by simp)
 refine ⟨⟨e0.mod, S.kind, rfl, rfl, Nat.le_refl _, fun y z c h1 h2 => ?_, fun y hy => ?_, fun y c _ h => ?_, fun _ => hd, Around.frames_deeper e0.frames, .inr ⟨rfl, rfl⟩, fun b z => absurd z (noA b), e0.bs, e0.bsz, fun b _ _ => noA b, fun b z => absurd z (noA b), e0.funs, e0.frf⟩,
   rfl, e0.bare, Un.kept hk, ⟨_, x.toInCall.ns, fun i y v h1 h2 h3 => ?_⟩, fun y c h => ⟨_, x.cell y c h⟩, e0.hok.fresh (Nat.le_refl _), fun y c h => ?_, fun p hp => absurd (show p ∈ ([] : List (Addr × Obj)) from hp) (by simp), e0.hok.kept hk, ?_⟩
 · exact name_of_addr x.apart (PySem.mem_of_lookup h1) (PySem.mem_of_lookup h2)
 · have hy : scope.names.lookup y = some .cell ∨ scope.names.lookup y = some .free := hy
   rcases hy with hy | hy
   · exact cell_has hy
   · exact absurd rfl (S.nofree _ (PySem.mem_of_lookup hy))
 · exact Nat.le_of_lt (x.above y c (PySem.mem_of_lookup h))
 · have hi : i < vs.length := by
     unfold start at h2
     by_cases hi : i < vs.length
     · exact hi
     · rw [List.getElem?_append_right (by simpa using hi)] at h2
       rw [List.getElem?_replicate] at h2
       split at h2 <;> cases h2
   have ha : vs[i]? = some v := by
     unfold start at h2
     rw [List.getElem?_append_left (by simpa using hi), List.getElem?_map] at h2
     cases e : vs[i]? with
     | none => rw [e] at h2; cases h2
     | some a => rw [e] at h2; cases h2; rfl
   obtain ⟨u, hu, rv⟩ := r.get ha
   have hp : ps[i]? = some y := by
     rw [<- S.pre, List.getElem?_take_of_lt (by omega)]; exact h1
   have ndP : ps.Nodup := by rw [<- S.pre]; exact S.nd.sublist (List.take_sublist _ _)
   refine ⟨u, rv, ?_⟩
   rcases S.par y (List.mem_of_getElem? hp) with k | k
   · exact .inl ⟨k, bindL_get ndP hp hu k⟩
   · obtain ⟨c, e⟩ := cell_has (n := s.heap.objs.size + 1) k
     refine .inr ⟨.inl k, c, e, ?_⟩
     have q := x.cell y c e
     rw [bindC_get ndP hp hu (by show scope.names.lookup y ≠ _; rw [k]; decide)] at q
     exact q
 · exact e0.hok.fresh (Nat.le_of_lt (x.above y c (PySem.mem_of_lookup h)))
 · unfold start
   show _ = N.length
   rw [List.length_append, List.length_map, List.length_replicate]
   omega
theorem fn_of {CX : CXT} {P : Program} {w : World} {K : PySem.W.Frag} {mg : Str -> Option Value} {base : Heap} {k : Nat} {f : Addr} {name qual : Str} {params : Arguments} {body : List Stmt} {scope : Scope} {dV kV doc pm cdv ct oc : Value} {an od : Option Addr}
   {osl : Array (Option Value)} {N ps : List Str} {sp : Sp} (lk : K.lookup f = some ⟨oc, od, .func (PySem.W.fnOf name qual params body scope dV kV doc pm an cdv ct), osl⟩) (hcd : PySem.W.codeIn K cdv qual = true) (S : FnScope N ps scope)
   (len : ∀ vs H Q E, sp vs H Q E -> vs.length = ps.length)
   (hbody : ∀ (A : Around) (outer : List Env) (s : Shared) (H : Hp) (vs : List V) (Q : VK) (E : XK), Room k (A.deeper (envOfC qual scope s.heap.objs.size f cdv)) -> sp vs H Q E ->
     ∃ t, PSs (cxOf CX P w K mg base N qual scope f cdv A outer s H E) body t /\ t { nx := fun _ H' => Q .non H', rt := Q } (start N vs) H) :
   FnOk P w K mg base CX (k + 1) f (PySem.W.fnOf name qual params body scope dV kV doc pm an cdv ct) ps sp := by
 refine ⟨len, fun A outer s H args us vs Q E hr e0 hb r hsp => ?_⟩
 have hl := len _ _ _ _ hsp
 have KX : K.In s.heap := e0.mod.kin.keeps fun b o e => (e0.bs b o e).1
 have lim : s.heap.NoLimit := e0.mod.nolimit.keeps fun b o e => (e0.bs b o e).1
 have hkind : ∀ y ∈ ps.zip us, scope.names.lookup y.1 = some .local ∨ (scope.names.lookup y.1 = some .cell /\ ((cellsFrom (s.heap.objs.size + 1) scope.names []).lookup y.1).isSome = true) := fun ⟨n, v⟩ hy => by
   rcases S.par n (List.of_mem_zip hy).1 with q | q
   · exact .inl q
   · exact .inr ⟨q, PySem.W.cellsFrom_some _ _ _ (.inl q)⟩
 refine codeAny_call_function hr.depth (KX _ _ lk) rfl S.co S.gen rfl (PySem.W.codeRec_of KX hcd) (hb _ _ _ _ ?_)
 refine wpAny_newFunctionEnv_cells S.kind hkind fun env he s1 x => ?_
 subst he
 refine ⟨lim.keeps x.toInCall.keep, codeAny_func ?_⟩
 obtain ⟨t, ht, hq⟩ := hbody A outer s H vs Q E (hr.deeper _) hsp
 have I : Inv (cxOf CX P w K mg base N qual scope f cdv A outer s H E) [] (start N vs) H s1 := inv_start S hr.hd e0 hl r x
 refine wpAny_mono (ht [] s1 (start N vs) H _ I hq) (fun fl s' hs => ?_) fun e s' hs => hs
 have fin : ∀ {σ' : St} {H' : Hp} {v : V} {u : Value}, Inv (cxOf CX P w K mg base N qual scope f cdv A outer s H E) [] σ' H' s' -> RelV v u -> Q v H' -> CE outer P w H s Q u s' :=
   fun {σ' H' v u} J rv q => ⟨v, H', J.os, J.bare, J.base, J.hok, rv, q⟩
 cases fl with
 | ret u =>
   obtain ⟨v, σ', H', J, rv, q⟩ := hs
   exact fin J rv q
 | next =>
   obtain ⟨σ', H', J, q⟩ := hs
   exact fin (v := V.non) (u := Value.none) J rfl q
 | brk =>
   obtain ⟨_, _, _, q⟩ := hs
   exact False.elim q
 | cont =>
   obtain ⟨_, _, _, q⟩ := hs
   exact False.elim q
end L2
namespace L2
open PySem PySem.Spec PyProof.Rows
section
variable {X : Cx} {x : Str} {p pos : Pos} {e : Expr} {es : List Expr} {t : TA} {id T : String} {r : List V -> Hp -> VK -> Prop}
def tCB (r : List V -> Hp -> VK -> Prop) (t : TA) : TE := fun σ H Q => t σ H fun vs H1 => r vs H1 Q
theorem pe_callB (hc : CallR X (.builtin id) r) (hg : Gl X x) (hm : X.mg x = none) (hv : bootBuiltins x = some (.builtin id)) (ha : PA X (e :: es) t) (hn : x ≠ "__name__" := by decide) (hdb : (x == ("__debug__" : Str)) = false := by decide)
   (he : starEach (e :: es) X.env = (false, eval e X.env) :: starEach es X.env := by rfl) (hpl : (backTo pos (starEach es X.env)).any (·.1) = false := by rfl) : PE X (.Call (.Name x p) (e :: es) [] pos) (tCB r t) := by
 intro pins s σ H Q I h
 refine wpAny_Call_Name_kw (ld_blt I hg hm hv ?_ hn hdb)
 exact PyProof.Rows.callWith_builtin1 (thn (ha pos pins s σ H _ I h) fun us s1 ⟨vs, H1, I1, r1, q1⟩ => hc pins s1 σ H1 vs us Q I1 r1 q1) he hpl
theorem pe_callTy (hc : CallR X (.type T) r) (hg : Gl X x) (hm : X.mg x = none) (hv : bootBuiltins x = some (.type T)) (ha : PA X (e :: es) t) (hn : x ≠ "__name__" := by decide) (hdb : (x == ("__debug__" : Str)) = false := by decide)
   (he : starEach (e :: es) X.env = (false, eval e X.env) :: starEach es X.env := by rfl) (hpl : (backTo pos (starEach es X.env)).any (·.1) = false := by rfl) : PE X (.Call (.Name x p) (e :: es) [] pos) (tCB r t) := by
 intro pins s σ H Q I h
 refine wpAny_Call_Name_kw (ld_blt I hg hm hv ?_ hn hdb)
 exact PyProof.Rows.callWith_type1 (thn (ha pos pins s σ H _ I h) fun us s1 ⟨vs, H1, I1, r1, q1⟩ => hc pins s1 σ H1 vs us Q I1 r1 q1) he hpl
theorem pe_callTy0 (hc : CallR X (.type T) r) (hg : Gl X x) (hm : X.mg x = none) (hv : bootBuiltins x = some (.type T)) (hn : x ≠ "__name__" := by decide) (hdb : (x == ("__debug__" : Str)) = false := by decide) :
   PE X (.Call (.Name x p) [] [] pos) (tCB r tNil) := by
 intro pins s σ H Q I h
 refine wpAny_Call_Name_kw (ld_blt I hg hm hv ?_ hn hdb)
 exact PyProof.Rows.callWith_type0 (hc pins s σ H [] [] Q I .nil h)
end
end L2
namespace HT
open PySem PyProof.Rows
def lexLt : List Int -> List Int -> Bool
 | [], [] => false
 | [], _ :: _ => true
 | _ :: _, [] => false
 | x :: xs, y :: ys => if x = y then lexLt xs ys else decide (x < y)
theorem lexLt_cons (x y : Int) (xs ys : List Int) : lexLt (x :: xs) (y :: ys) = if x = y then lexLt xs ys else decide (x < y) := rfl
theorem lexLt_nil_nil : lexLt [] [] = false := rfl
theorem lexLt_nil_cons (y : Int) (ys : List Int) : lexLt [] (y :: ys) = true := rfl
theorem lexLt_cons_nil (x : Int) (xs : List Int) : lexLt (x :: xs) [] = false := rfl
theorem eqAt_int (A : Around) (s : Shared) (a : Int) (t : Tok) (c : Int) (u : Tok) : ∃ e, SeqAt.EqAt A s (.int a t) (.int c u) e /\ (e = true ↔ a = c) :=
 ⟨(a == c), SeqAt.EqAt.int_int a t c u, by simp⟩
theorem rcLt_int (A : Around) (s : Shared) (a : Int) (t : Tok) (c : Int) (u : Tok) (prog : Program) (w : World) (E : Value -> Shared -> Prop) (Q : Value -> Shared -> Prop) (h : Q (.bool (decide (a < c))) s) :
   wpAny (model prog w) A (richCompare .Lt (.int a t) (.int c u)) Q E s :=
 (PyProof.Rows.lt_int h : wpAny (model prog w) A (compareOp .Lt (.int a t) (.int c u)) Q E s)
section
open PySem.SeqAt
open PySem.AutoSeq1 (wpAny_loadPart')
open PySem.MeetsSeq PySem.MeetsSeq2 PySem.MeetsSeq3
theorem tuple_lt_ints (l b : Addr) (items items2 : Array Value) (n n2 : Nat) (dd dd2 : Option Addr) (sl sl2 : Array (Option Value)) (ns ms : List Int) (hi : IntsAre items.toList ns) (hj : IntsAre items2.toList ms) :
   Meets (Builtin.«tuple.__lt__» ⟨[.ref l, .ref b], []⟩)
     (fun _ R s => s.heap.get? l = some { cls := .type "tuple", dict := dd, data := .seq items n, slots := sl } /\ s.heap.get? b = some { cls := .type "tuple", dict := dd2, data := .seq items2 n2, slots := sl2 } /\
       R (.ok (.ret (.bool (lexLt ns ms)))) s) :=
 .of_wp fun prog w A R s h => by
   obtain ⟨hp, g, d, tk, os⟩ := s; obtain ⟨hl, hb, h⟩ := h
   have f2 := AutoSeq1.sub_tuple_tuple
   have z1 : items.size = ns.length := by rw [<- hi.length]; simp
   have z2 : items2.size = ms.length := by rw [<- hj.length]; simp
   wp_walk using wpAny_loadPart' hl, wpAny_loadPart' hb, wpAny_forIn_list _ (fun rest b s' => b.1 = none /\ s' = ⟨hp, g, d, tk, os⟩ /\ ∃ (vs ws : List Value) (ns' ms' : List Int), rest = vs.zip ws /\
     IntsAre vs ns' /\ IntsAre ws ms' /\ ns'.length + items2.size = ms'.length + items.size /\ R (.ok (.ret (.bool (lexLt ns' ms')))) ⟨hp, g, d, tk, os⟩) _
   case turn =>
     rintro ⟨y, x⟩ rest b s' ⟨hb', rfl, vs, ws, ns', ms', hz, hvi, hwi, hlen, hR⟩
     cases hvi with
     | nil => rw [List.zip_nil_left] at hz; cases hz
     | cons a t hvi' =>
       cases hwi with
       | nil => rw [List.zip_nil_right] at hz; cases hz
       | cons c u hwi' =>
         rw [List.zip_cons_cons] at hz
         injection hz with hyx hrest
         injection hyx with hy hx
         subst hy hx
         rw [lexLt_cons] at hR
         simp only [List.length_cons] at hlen
         obtain ⟨e, he, hiff⟩ := eqAt_int A.in1 ⟨hp, g, d, tk, os⟩ a t c u
         refine wpAny_bind (he prog w _ _ ?_)
         cases e with
         | true =>
           rw [if_pos (hiff.mp rfl)] at hR
           wp_walk
           exact ⟨rfl, rfl, _, _, _, _, hrest, hvi', hwi', by omega, hR⟩
         | false =>
           rw [if_neg (fun q => absurd (hiff.mpr q) Bool.false_ne_true)] at hR
           have hri := rcLt_int A.in1 ⟨hp, g, d, tk, os⟩ a t c u prog w
           wp_walk using hri
           exact ⟨_, rfl, by simpa using hR⟩
   case fin =>
     rintro ⟨b1, b2⟩ s' ⟨hb', rfl, vs, ws, ns', ms', hz, hvi, hwi, hlen, hR⟩
     simp only at hb'
     subst hb'
     have hv : lexLt ns' ms' = decide (items.size < items2.size) := by
       cases hvi with
       | nil =>
         cases hwi with
         | nil =>
           simp only [List.length_nil] at hlen
           rw [lexLt_nil_nil]
           exact (decide_eq_false (by omega)).symm
         | cons c u hw =>
           simp only [List.length_nil, List.length_cons] at hlen
           rw [lexLt_nil_cons]
           exact (decide_eq_true (by omega)).symm
       | cons a t hv =>
         cases hwi with
         | nil =>
           simp only [List.length_nil, List.length_cons] at hlen
           rw [lexLt_cons_nil]
           exact (decide_eq_false (by omega)).symm
         | cons c u hw =>
           rw [List.zip_cons_cons] at hz
           cases hz
     rw [hv] at hR
     wp_walk
     exact ⟨_, rfl, by simpa [Builtin.Tuple.tupleCompareSizes] using hR⟩
   case h =>
     exact ⟨rfl, rfl, items.toList, items2.toList, ns, ms, rfl, hi, hj, by omega, h⟩
end
section
variable {prog : Program} {w : World} {A : Around} {E : Value -> Shared -> Prop} {s : Shared}
theorem lt_tupInts {l b : Addr} {items items2 : Array Value} {ns ms : List Int} {Q : Value -> Shared -> Prop} (hl : IsTup s.heap l items) (hb : IsTup s.heap b items2) (hi : IntsAre items.toList ns) (hj : IntsAre items2.toList ms)
   (hu : A.units < cLine) (h : Q (.bool (lexLt ns ms)) s) : wpAny (model prog w) A (compareOp .Lt (.ref l) (.ref b)) Q E s := by
 obtain ⟨⟨cls, dd, data, sl⟩, ho, hc, n, hd⟩ := id hl
 obtain ⟨⟨cls2, dd2, data2, sl2⟩, ho2, hc2, n2, hd2⟩ := id hb
 simp only at hc hd hc2 hd2
 subst hc hd hc2 hd2
 exact richCompare_meets_room (op := .Lt) ⟨_, ho, rfl⟩ ⟨_, ho2, rfl⟩ PySem.F.slot_tuple_lt PySem.F.entry_tuple_lt (PySem.F.args_tuple_lt_2 _ _) (tuple_lt_ints l b items items2 n n2 dd dd2 sl sl2 ns ms hi hj)
   ⟨ho, ho2, show Value.bool (lexLt ns ms) ≠ Value.notImplemented /\ Q (.bool (lexLt ns ms)) s from ⟨(fun x => nomatch x), h⟩⟩ hu
theorem cat_tup {t b : Addr} {vs ws : List Value} {Q : Value -> Shared -> Prop} (ht : IsTup s.heap t vs.toArray) (hb : IsTup s.heap b ws.toArray) (hv : vs ≠ [])
   (h1 : ws = [] -> Q (.ref t) s) (h2 : ws ≠ [] -> Q (.ref s.heap.objs.size) { s with heap := s.heap.push { cls := .type "tuple", data := .seq (vs ++ ws).toArray } })
   (hsz : vs.length + ws.length <= sizeLine) : wpAny (model prog w) A (binaryOp .Add (.ref t) (.ref b)) Q E s := by
 obtain ⟨⟨cls, dd, data, sl⟩, ho, hc, n, hd⟩ := id ht
 obtain ⟨⟨cls2, dd2, data2, sl2⟩, ho2, hc2, n2, hd2⟩ := id hb
 simp only at hc hd hc2 hd2
 subst hc hd hc2 hd2
 have e : vs.toArray ++ ws.toArray = (vs ++ ws).toArray := by simp
 by_cases hw : ws = []
 · exact concat_meets ⟨_, ho, rfl⟩ ⟨_, ho2, rfl⟩ noFill_tuple_add seq_tuple_add PySem.F.slot_tuple_add PySem.F.entry_tuple_add (PySem.F.args_tuple_add_2 _ _)
     (tuple_addW1 t b vs.toArray ws.toArray n n2 dd dd2 sl sl2 (by simpa using hv) (by simp [hw])) ⟨ho, ho2, h1 hw⟩
 · refine concat_meets ⟨_, ho, rfl⟩ ⟨_, ho2, rfl⟩ noFill_tuple_add seq_tuple_add PySem.F.slot_tuple_add PySem.F.entry_tuple_add (PySem.F.args_tuple_add_2 _ _)
     (tuple_addW2 t b vs.toArray ws.toArray n n2 dd dd2 sl sl2 (by simpa using hv) (by simpa using hw) (by rw [List.size_toArray, List.size_toArray]; exact hsz)) ⟨ho, ho2, ?_⟩
   rw [e]
   exact h2 hw
def sIx (n d : Nat) : Option Int -> Nat
 | none => d
 | some v => if v < 0 then (v + (n : Int)).toNat else min v.toNat n
theorem sIx_none (n d : Nat) : sIx n d none = d := rfl
theorem sIx_nat (n d k : Nat) : sIx n d (some (k : Int)) = min k n := by
 show (if (k : Int) < 0 then ((k : Int) + (n : Int)).toNat else min (k : Int).toNat n) = min k n
 rw [if_neg (by omega), Int.toNat_natCast]
theorem sIx_le (n d : Nat) (hd : d <= n) (o : Option Int) : sIx n d o <= n := by
 cases o with
 | none => exact hd
 | some v =>
   show (if v < 0 then (v + (n : Int)).toNat else min v.toNat n) <= n
   by_cases hv : v < 0
   · rw [if_pos hv]; omega
   · rw [if_neg hv]; exact Nat.min_le_right _ _
theorem clip_eq (v : Int) (n d : Nat) : (if v < 0 then max (v + (n : Int)) 0 else min v (n : Int)) = ((sIx n d (some v) : Nat) : Int) := by
 show (if v < 0 then max (v + (n : Int)) 0 else min v (n : Int)) = (((if v < 0 then (v + (n : Int)).toNat else min v.toNat n) : Nat) : Int)
 by_cases hv : v < 0
 · simp only [if_pos hv]; omega
 · simp only [if_neg hv]; omega
theorem adjust_gen (lo hi : Option Int) (n : Nat) : Builtin.Slice.sliceAdjust lo hi 1 (n : Int) = (((sIx n 0 lo : Nat) : Int), ((sIx n n hi : Nat) : Int)) := by
 have h1 : ¬ ((1 : Int) < 0) := by omega
 unfold Builtin.Slice.sliceAdjust
 simp only [h1, if_false]
 refine Prod.ext ?_ ?_
 · cases lo with
   | none => rfl
   | some v => exact clip_eq v n 0
 · cases hi with
   | none => rfl
   | some v => exact clip_eq v n n
theorem places_gen (i j : Nat) : Builtin.Slice.slicePlaces (i : Int) (j : Int) 1 = j - i := by
 unfold Builtin.Slice.slicePlaces
 have h1 : (1 : Int) > 0 := by omega
 simp only [h1, if_true, Int.ediv_one]
 split <;> omega
theorem slicePart_ {v : Value} {o : Option Int} {Q : Option Int -> Shared -> Prop} (p : IsPart v o) (h : Q o s) : wpAny (model prog w) A (Builtin.Slice.slicePartIndex v) Q E s := by
 cases p with
 | none => exact slicePart_none h
 | int i t => exact slicePart_int h
theorem sliceApplied_gen {sl : Addr} {vl vu : Value} {lo hi : Option Int} {n : Nat} {Q : Int × Int × Nat -> Shared -> Prop} (hs : s.heap.IsSliceOf sl vl vu .none) (pl : IsPart vl lo) (pu : IsPart vu hi)
   (h : Q (((sIx n 0 lo : Nat) : Int), 1, sIx n n hi - sIx n 0 lo) s) : wpAny (model prog w) A (Builtin.Slice.sliceApplied (.ref sl) (pure (n : Int))) Q E s := by
 obtain ⟨os, hos, hcs, hds⟩ := id hs
 unfold Builtin.Slice.sliceApplied Builtin.Slice.sliceFields
 refine wpAny_bind (wpAny_bind (wpAny_field hos hds (x := vl) rfl (wpAny_bind (wpAny_field hos hds (x := vu) rfl (wpAny_bind (wpAny_field hos hds (x := .none) rfl (wpAny_pure ?_)))))))
 refine wpAny_bind (slicePart_none ?_)
 show wpAny _ _ (if ((1 : Int) == 0) = true then _ else _) _ _ s
 rw [if_neg (by decide)]
 refine wpAny_bind (slicePart_ pl (wpAny_bind (slicePart_ pu (wpAny_bind (wpAny_pure ?_)))))
 show wpAny _ _ (match Builtin.Slice.sliceAdjust lo hi 1 (n : Int) with | (lo, hi) => pure (lo, (1 : Int), Builtin.Slice.slicePlaces lo hi 1)) _ _ s
 rw [adjust_gen lo hi n]
 show wpAny _ _ (pure (((sIx n 0 lo : Nat) : Int), (1 : Int), Builtin.Slice.slicePlaces ((sIx n 0 lo : Nat) : Int) ((sIx n n hi : Nat) : Int) 1)) _ _ s
 rw [places_gen]
 exact wpAny_pure h
theorem pick_gen (xs : Array Value) (i k : Nat) : ((List.range k).filterMap fun (m : Nat) => xs[((i : Int) + (m : Int) * 1).toNat]?).toArray = ((xs.toList.drop i).take k).toArray := by
 have e : (fun (m : Nat) => xs[((i : Int) + (m : Int) * 1).toNat]?) = fun m => xs[i + m]? := by
   funext m
   have : ((i : Int) + (m : Int) * 1).toNat = i + m := by omega
   rw [this]
 rw [e]
 have := pick_run xs i k
 rw [List.filterMap_map] at this
 have e2 : ((fun x => xs[x]?) ∘ fun x => i + x) = fun m => xs[i + m]? := rfl
 rw [e2] at this
 rw [this]
theorem getItem_tuple_cut {t sl : Addr} {items : Array Value} {vl vu : Value} {lo hi : Option Int} {Q : Value -> Shared -> Prop} (ht : IsTup s.heap t items) (hs : s.heap.IsSliceOf sl vl vu .none) (pl : IsPart vl lo) (pu : IsPart vu hi)
   (hw : ¬ (sIx items.size 0 lo = 0 /\ sIx items.size items.size hi = items.size))
   (h : Q (.ref s.heap.objs.size) { s with heap := s.heap.push { cls := .type "tuple", data := .seq ((items.toList.drop (sIx items.size 0 lo)).take (sIx items.size items.size hi - sIx items.size 0 lo)).toArray } })
   (hsz : items.size <= sizeLine) : wpAny (model prog w) A (getItem (.ref t) (.ref sl)) Q E s := by
 have htake : sizeOk (.seq ((items.toList.drop (sIx items.size 0 lo)).take (sIx items.size items.size hi - sIx items.size 0 lo)).toArray) := by
   show ((items.toList.drop (sIx items.size 0 lo)).take (sIx items.size items.size hi - sIx items.size 0 lo)).toArray.size <= sizeLine
   rw [List.size_toArray, List.length_take, List.length_drop, Array.length_toList]
   omega
 have hj : sIx items.size items.size hi <= items.size := sIx_le _ _ (Nat.le_refl _) hi
 obtain ⟨os, hos, hcs, hds⟩ := id hs
 have hTs : s.TypeIs (.ref sl) "slice" := ⟨os, hos, hcs⟩
 unfold getItem
 try with_reducible refine wpAny_holding ?_
 first | refine wpAny_bind (wpAny_pure ?_) | skip
 refine wpAny_bind (wpAny_sequenceKey ht.typeIs (by decide) ?_)
 refine wpAny_bind (wpAny_callSpecial?_slot (name := Str.ofString "__getitem__") ht.typeIs PyProof.Rows.slot_tuple_getitem
   (wpAny_call_entry PyProof.Rows.slot_tuple_getitem ht.typeIs entry_tuple_getitem ?_ (args_tuple_getitem _ _)))
 show wpAny _ _ (Builtin.Tuple.tupleItemsOf (.ref t) >>= _) _ _ s
 refine wpAny_bind (tupleItemsOf_ ht ?_)
 refine wpAny_bind (wpAny_typeOf hTs ?_)
 rw [if_pos (by decide)]
 refine wpAny_bind (sliceApplied_gen hs pl pu ?_)
 have hno : ¬ ((((sIx items.size 0 lo : Nat) : Int) == 0 && (1 : Int) == 1 && (sIx items.size items.size hi - sIx items.size 0 lo) == items.size) = true) := by
   intro q
   rw [Bool.and_eq_true, Bool.and_eq_true] at q
   have q1 : ((sIx items.size 0 lo : Nat) : Int) = 0 := eq_of_beq q.1.1
   have q2 : sIx items.size items.size hi - sIx items.size 0 lo = items.size := eq_of_beq q.2
   exact hw ⟨by omega, by omega⟩
 show wpAny _ _ (if (((sIx items.size 0 lo : Nat) : Int) == 0 && (1 : Int) == 1 && (sIx items.size items.size hi - sIx items.size 0 lo) == items.size) = true then _ else _) _ _ s
 rw [if_neg hno, pick_gen]
 first
   | exact wpAny_bind (m := Builtin.Tuple.tupleExact _) (wpAny_newObj_type (wpAny_pure ⟨_, rfl, wpAny_pure h⟩) htake)
   | exact wpAny_bind (m := Builtin.Tuple.tupleExact _) (wpAny_newObj_type (wpAny_bind (wpAny_pure (wpAny_pure ⟨_, rfl, wpAny_pure h⟩))) htake)
   | exact wpAny_bind (wpAny_bind (m := Builtin.Tuple.tupleExact _) (wpAny_newObj_type (wpAny_pure (wpAny_pure ⟨_, rfl, wpAny_pure h⟩)) htake))
   | exact wpAny_bind (wpAny_bind (m := Builtin.Tuple.tupleExact _) (wpAny_newObj_type (wpAny_pure ⟨_, rfl, wpAny_pure h⟩) htake))
end
end HT
namespace L2
open PySem PySem.Spec PyProof.Rows
abbrev TO := St -> Hp -> (Option Int -> Hp -> Prop) -> Prop
def PO (X : Cx) (e : Option Expr) (t : TO) : Prop :=
 ∀ (pins : List (Addr × Obj)) (s : Shared) (σ : St) (H : Hp) (Q : Option Int -> Hp -> Prop), Inv X pins σ H s -> t σ H Q ->
   wpAny (model X.prog X.w) X.A (evalPart e X.env) (fun u s' => ∃ o H', Inv X pins σ H' s' /\ IsPart u o /\ Q o H') X.xe s
def tNoPart : TO := fun _ H Q => Q none H
def tPart (t : TE) : TO := fun σ H Q => t σ H fun x H1 => ∃ i, x = .int i /\ Q (some i) H1
theorem intsAre_of {ns : List Int} : ∀ {us : List Value}, Vals (ns.map V.int) us -> IntsAre us ns := by
 induction ns with
 | nil => intro us r; rw [List.map_nil] at r; cases r; exact .nil
 | cons n ns ih =>
   intro us r
   rw [List.map_cons] at r
   cases r with
   | cons r1 r2 =>
     obtain ⟨t, e⟩ := r1
     subst e
     exact .cons n t (ih r2)
section
variable {X : Cx} {e : Expr} {te : TE} {lo hi : Option Expr} {tl th : TO} {pos p2 : Pos}
theorem po_none : PO X none tNoPart := by
 intro pins s σ H Q I h
 rw [evalPart_none]
 exact wpAny_pure ⟨none, H, I, .none, h⟩
theorem po_some (h : PE X e te) : PO X (some e) (tPart te) := by
 intro pins s σ H Q I hw
 rw [evalPart_some]
 refine thn (h pins s σ H _ I hw) fun u s1 ⟨x, H1, I1, r1, q1⟩ => ?_
 obtain ⟨i, rfl, q⟩ := q1
 obtain ⟨t, rfl⟩ := r1
 exact ⟨some i, H1, I1, .int i t, q⟩
def SlR (X : Cx) (r : V -> Option Int -> Option Int -> Hp -> VK -> Prop) : Prop :=
 ∀ (pins : List (Addr × Obj)) (s : Shared) (σ : St) (H : Hp) (x : V) (v vl vu : Value) (lo hi : Option Int) (sl : Addr) (Q : VK), Inv X pins σ H s -> RelV x v -> s.heap.IsSliceOf sl vl vu .none -> IsPart vl lo -> IsPart vu hi -> r x lo hi H Q ->
   ∃ T id, typeLookup (.type T) "__getitem__" = pure (some (.builtin id)) /\ s.TypeIs v T /\ wpAny (model X.prog X.w) X.A (getItem v (.ref sl)) (EP X pins σ Q) X.xe s
theorem SlR.or {r r' : V -> Option Int -> Option Int -> Hp -> VK -> Prop} (h : SlR X r) (h' : SlR X r') : SlR X (fun x lo hi H Q => r x lo hi H Q ∨ r' x lo hi H Q) := by
 intro pins s σ H x v vl vu lo hi sl Q I rx hs pl pu q
 rcases q with q | q
 · exact h pins s σ H x v vl vu lo hi sl Q I rx hs pl pu q
 · exact h' pins s σ H x v vl vu lo hi sl Q I rx hs pl pu q
def tSl (r : V -> Option Int -> Option Int -> Hp -> VK -> Prop) (te : TE) (tl th : TO) : TE := fun σ H Q => te σ H fun x H1 => tl σ H1 fun l H2 => th σ H2 fun u H3 => r x l u H3 Q
theorem pe_slice {r : V -> Option Int -> Option Int -> Hp -> VK -> Prop} (hr : SlR X r) (he : PE X e te) (hl : PO X lo tl) (hu : PO X hi th) : PE X (.Subscript e (.Slice lo hi none p2) pos) (tSl r te tl th) := by
 intro pins s σ H Q I h
 refine Subscript_ (thn (he pins s σ H _ I h) fun v s1 ⟨x, H1, I1, r1, q1⟩ => ?_)
 refine wpAny_Slice (thn (hl pins s1 σ H1 _ I1 q1) fun vl s2 ⟨l, H2, I2, pl, q2⟩ => thn (hu pins s2 σ H2 _ I2 q2) fun vu s3 ⟨u, H3, I3, pu, q3⟩ => ?_)
 rw [evalPart_none]
 refine wpAny_pure ?_
 have I4 : Inv X pins σ H3 { s3 with heap := s3.heap.push { cls := .type "slice", data := .fields #[vl, vu, .none] } } := I3.kept (t' := s3.toks) fun b ob q => Heap.get?_push_of_some _ q
 obtain ⟨T, id, hT, ht, hg⟩ := hr pins { s3 with heap := s3.heap.push { cls := .type "slice", data := .fields #[vl, vu, .none] } } σ H3 x v vl vu l u s3.heap.objs.size Q I4 r1 (Heap.IsSliceOf.new ..) pl pu q3
 show wpAny (model X.prog X.w) X.A (subscriptTail e (.Slice lo hi none p2) v (.ref s3.heap.objs.size)) (EP X pins σ Q) X.xe { s3 with heap := s3.heap.push { cls := .type "slice", data := .fields #[vl, vu, .none] } }
 exact tail_any (ops := [.ref s3.heap.objs.size, v]) ht hT hg (by with_unfolding_all rfl)
def cutV (xs : List V) (lo hi : Option Int) : List V := (xs.drop (HT.sIx xs.length 0 lo)).take (HT.sIx xs.length xs.length hi - HT.sIx xs.length 0 lo)
theorem cutV_length (xs : List V) (lo hi : Option Int) : (cutV xs lo hi).length <= xs.length := by
 unfold cutV
 rw [List.length_take, List.length_drop]
 omega
def rSlT (K : PySem.W.Frag) : V -> Option Int -> Option Int -> Hp -> VK -> Prop := fun x lo hi H Q => ∃ a xs, x = .ref a /\ SqT K H a xs /\
 ¬ (HT.sIx xs.length 0 lo = 0 /\ HT.sIx xs.length xs.length hi = xs.length) /\ ∀ p, H p = none -> Q (.ref p) (upd H p (.tup (cutV xs lo hi)))
theorem sl_tup : SlR X (rSlT X.K) := by
 intro pins s σ H x v vl vu lo hi sl Q I rx hs pl pu h
 obtain ⟨a, xs, rfl, hx, hw, q⟩ := h
 cases rx
 obtain ⟨its, r, ht, hz⟩ := I.tuple hx
 have hlen : its.toArray.size = xs.length := by rw [List.size_toArray]; exact r.length.symm
 refine ⟨"tuple", _, PyProof.Rows.slot_tuple_getitem.lookup, ht.typeIs, ?_⟩
 refine HT.getItem_tuple_cut ht hs pl pu (by rw [hlen]; exact hw) ?_ (by rw [hlen]; exact hz)
 rw [hlen]
 refine ⟨.ref s.heap.objs.size, _, I.laid (t' := s.toks) (o := .tup (cutV xs lo hi)) (fun b ob q => Heap.get?_push_of_some _ q) (Nat.le_refl _) ?_, rfl, q _ (I.hok.fresh (Nat.le_refl _))⟩
 exact ⟨Nat.le_trans (cutV_length xs lo hi) hz, _, (r.drop (HT.sIx xs.length 0 lo)).take (HT.sIx xs.length xs.length hi - HT.sIx xs.length 0 lo), IsTup.new _ _⟩
def rLtT (K : PySem.W.Frag) : R2 := fun x y H Q => ∃ a b ns ms, x = .ref a /\ y = .ref b /\ SqT K H a (ns.map V.int) /\ SqT K H b (ms.map V.int) /\ Q (.bl (HT.lexLt ns ms)) H
theorem op_ltT (hu : X.A.units < cLine) : OpR X (compareOp .Lt) (rLtT X.K) := by
 intro pins s σ H x y v u Q I rx ry h
 obtain ⟨a, b, ns, ms, rfl, rfl, ha, hb, q⟩ := h
 cases rx
 cases ry
 obtain ⟨its, r1, p1, _⟩ := I.tuple ha
 obtain ⟨its2, r2, p2, _⟩ := I.tuple hb
 have i1 : IntsAre its.toArray.toList ns := intsAre_of r1
 have i2 : IntsAre its2.toArray.toList ms := intsAre_of r2
 exact HT.lt_tupInts p1 p2 i1 i2 hu ⟨.bl (HT.lexLt ns ms), H, I, rfl, q⟩
def rCatT (K : PySem.W.Frag) : R2 := fun x y H Q => ∃ a b xs ys, x = .ref a /\ y = .ref b /\ SqT K H a xs /\ SqT K H b ys /\ xs ≠ [] /\ xs.length + ys.length <= sizeLine /\
 (ys = [] -> Q (.ref a) H) /\ (ys ≠ [] -> ∀ p, H p = none -> Q (.ref p) (upd H p (.tup (xs ++ ys))))
theorem Vals.nil_iff {xs : List V} {us : List Value} (r : Vals xs us) : us = [] ↔ xs = [] := by
 cases r with
 | nil => simp
 | cons _ _ => simp
theorem op_catT : OpR X (binaryOp .Add) (rCatT X.K) := by
 intro pins s σ H x y v u Q I rx ry h
 obtain ⟨a, b, xs, ys, rfl, rfl, ha, hb, hx, hz, q1, q2⟩ := h
 cases rx
 cases ry
 obtain ⟨its, r1, p1, _⟩ := I.tuple ha
 obtain ⟨its2, r2, p2, _⟩ := I.tuple hb
 refine HT.cat_tup p1 p2 (fun z => hx (r1.nil_iff.mp z)) (fun z => ⟨.ref a, H, I, rfl, q1 (r2.nil_iff.mp z)⟩) (fun z => ?_) (by rw [<- r1.length, <- r2.length]; exact hz)
 refine ⟨.ref s.heap.objs.size, _, I.laid (t' := s.toks) (o := .tup (xs ++ ys)) (fun b ob q => Heap.get?_push_of_some _ q) (Nat.le_refl _) ?_, rfl, q2 (fun w => z (r2.nil_iff.mpr w)) _ (I.hok.fresh (Nat.le_refl _))⟩
 exact ⟨by rw [List.length_append]; exact hz, _, r1.append r2, IsTup.new _ _⟩
theorem call_tupleT : CallR X (.type "tuple") (fun xs H Q => ∃ a ys, xs = [.ref a] /\ SqT X.K H a ys /\ Q (.ref a) H) := by
 intro pins s σ H xs us Q I r h
 obtain ⟨a, ys, rfl, ha, q⟩ := h
 obtain ⟨u, rfl, ru⟩ := vals1 r
 cases ru
 obtain ⟨its, _, p1, _⟩ := I.tuple ha
 exact call_tuple_same (items := its.toArray) p1 ⟨.ref a, H, I, rfl, q⟩
end
end L2
namespace L2
open PySem PySem.Spec PyProof.Rows
def ixN (n : Nat) (i : Int) : Option Nat := if 0 <= i then (if i < n then some i.toNat else none) else if -(n : Int) <= i then some (i + n).toNat else none
def atI {α : Type} (xs : List α) (i : Int) : Option α := (ixN xs.length i).bind fun j => xs[j]?
theorem ixN_seq {n : Nat} {i : Int} {j : Nat} (h : ixN n i = some j) : seqIndex? i n = some j /\ j < n /\ -(n : Int) <= i /\ i < n := by
 unfold ixN at h
 by_cases h0 : 0 <= i
 · rw [if_pos h0] at h
   by_cases h1 : i < n
   · rw [if_pos h1] at h
     have e : i.toNat = j := Option.some.inj h
     exact ⟨by rw [seqIndex_of h0 h1, e], by omega, by omega, h1⟩
   · rw [if_neg h1] at h; cases h
 · rw [if_neg h0] at h
   by_cases h1 : -(n : Int) <= i
   · rw [if_pos h1] at h
     have e : (i + n).toNat = j := Option.some.inj h
     exact ⟨by rw [seqIndex_neg (by omega) h1, e], by omega, h1, by omega⟩
   · rw [if_neg h1] at h; cases h
theorem atI_get {α : Type} {xs : List α} {i : Int} {v : α} (h : atI xs i = some v) : ∃ j, seqIndex? i xs.length = some j /\ xs[j]? = some v /\ j < xs.length /\ -(xs.length : Int) <= i /\ i < xs.length := by
 unfold atI at h
 cases e : ixN xs.length i with
 | none => rw [e] at h; cases h
 | some j =>
   rw [e] at h
   obtain ⟨h1, h2, h3, h4⟩ := ixN_seq e
   exact ⟨j, h1, h, h2, h3, h4⟩
theorem atI_nat {α : Type} {xs : List α} {j : Nat} {v : α} (h : xs[j]? = some v) : atI xs (j : Int) = some v := by
 have hj : j < xs.length := (List.getElem?_eq_some_iff.mp h).1
 have e : ixN xs.length (j : Int) = some j := by
   unfold ixN
   rw [if_pos (by omega), if_pos (by omega)]; simp
 unfold atI; rw [e]; exact h
theorem atI_last {α : Type} (xs : List α) (v : α) : atI (xs ++ [v]) (-1) = some v := by
 have hl : (xs ++ [v]).length = xs.length + 1 := by simp
 have e : ixN (xs ++ [v]).length (-1) = some xs.length := by
   unfold ixN
   rw [hl, if_neg (by decide), if_pos (by omega)]
   congr 1
   omega
 unfold atI
 rw [e]
 show (xs ++ [v])[xs.length]? = some v
 simp
def PlainIx (b : Expr) : Prop := ∀ o i, subscripted b false o i = operate [o, i] (getItem o i)
def IxR (X : Cx) (r : R2) : Prop :=
 ∀ (value slice : Expr) (pins : List (Addr × Obj)) (s : Shared) (σ : St) (H : Hp) (x y : V) (v u : Value) (Q : VK), Inv X pins σ H s -> RelV x v -> RelV y u -> r x y H Q ->
   subscripted slice false v u = operate [v, u] (getItem v u) -> wpAny (model X.prog X.w) X.A (subscriptTail value slice v u) (EP X pins σ Q) X.xe s
def MtR (X : Cx) (id : String) (r : V -> List V -> Hp -> VK -> Prop) : Prop :=
 ∀ (pins : List (Addr × Obj)) (s : Shared) (σ : St) (H : Hp) (x : V) (xs : List V) (v : Value) (us : List Value) (Q : VK), Inv X pins σ H s -> RelV x v -> Vals xs us -> r x xs H Q ->
   wpAny (model X.prog X.w) X.A (call (.builtin id) (v :: us)) (EP X pins σ Q) X.xe s
section
variable {X : Cx} {a b : Expr} {ta tb : TE} {pos : Pos}
theorem IxR.or {r r' : R2} (h : IxR X r) (h' : IxR X r') : IxR X (fun x y H Q => r x y H Q ∨ r' x y H Q) := by
 intro value slice pins s σ H x y v u Q I rx ry q hs
 rcases q with q | q
 · exact h value slice pins s σ H x y v u Q I rx ry q hs
 · exact h' value slice pins s σ H x y v u Q I rx ry q hs
theorem MtR.or {id : String} {r r' : V -> List V -> Hp -> VK -> Prop} (h : MtR X id r) (h' : MtR X id r') : MtR X id (fun x xs H Q => r x xs H Q ∨ r' x xs H Q) := by
 intro pins s σ H x xs v us Q I rx rs q
 rcases q with q | q
 · exact h pins s σ H x xs v us Q I rx rs q
 · exact h' pins s σ H x xs v us Q I rx rs q
theorem pe_ix {r : R2} (hr : IxR X r) (ha : PE X a ta) (hb : PE X b tb) (hs : PlainIx b) : PE X (.Subscript a b pos) (tOp r ta tb) := by
 intro pins s σ H Q I h
 exact Subscript_ (binT ha hb I h fun v u s2 x y H2 I2 rx ry q => hr a b pins s2 σ H2 x y v u Q I2 rx ry q (hs _ _))
def rIxL (K : PySem.W.Frag) : R2 := fun x y H Q => ∃ p xs i v, x = .ref p /\ y = .int i /\ SqL K H p xs /\ atI xs i = some v /\ Q v H
def rIxT (K : PySem.W.Frag) : R2 := fun x y H Q => ∃ p xs i v, x = .ref p /\ y = .int i /\ SqT K H p xs /\ atI xs i = some v /\ Q v H
def rIxS : R2 := fun x y H Q => ∃ z i c, x = .str z /\ y = .int i /\ z.length <= sizeLine /\ atI z.cps.toList i = some c /\ Q (.str ⟨#[c]⟩) H
theorem ix_list : IxR X (rIxL X.K) := by
 intro value slice pins s σ H x y v u Q I rx ry h hs
 obtain ⟨p, xs, i, z, rfl, rfl, hq, he, q⟩ := h
 cases rx
 obtain ⟨t, rfl⟩ := ry
 obtain ⟨its, r, pl, hz⟩ := I.list hq
 obtain ⟨j, h1, h2, h3, h4, h5⟩ := atI_get he
 obtain ⟨w, ew, rw'⟩ := r.get h2
 have hl := r.length
 have hn := line63
 have fin : EP X pins σ Q w s := ⟨z, H, I, rw', q⟩
 by_cases h0 : 0 <= i
 · have hj : i.toNat = j := by
     rw [seqIndex_of h0 h5] at h1
     exact Option.some.inj h1
   exact item_listR pl.isList h0 (by omega) (by rw [hj]; simpa using ew) fin hs
 · have hj : (i + (its.toArray.size : Int)).toNat = j := by
     rw [seqIndex_neg (by omega) h4] at h1
     rw [List.size_toArray, <- hl]
     exact Option.some.inj h1
   exact subscriptTail_builtinR (x := w) pl.isList.typeIs slot_list_getitem.lookup
     (wpAny_getItem_list_neg (Q := fun r s' => r = w /\ EP X pins σ Q r s') pl.isList (by omega) (by rw [List.size_toArray] <;> omega) (by omega) (by rw [hj]; simpa using ew) ⟨rfl, fin⟩) hs
theorem ix_tup : IxR X (rIxT X.K) := by
 intro value slice pins s σ H x y v u Q I rx ry h hs
 obtain ⟨p, xs, i, z, rfl, rfl, hq, he, q⟩ := h
 cases rx
 obtain ⟨t, rfl⟩ := ry
 obtain ⟨its, r, pl, hz⟩ := I.tuple hq
 obtain ⟨j, h1, h2, h3, h4, h5⟩ := atI_get he
 obtain ⟨w, ew, rw'⟩ := r.get h2
 have hl := r.length
 have hn := line63
 have fin : EP X pins σ Q w s := ⟨z, H, I, rw', q⟩
 exact subscriptTail_builtinR (x := w) pl.typeIs slot_tuple_getitem.lookup
   (getItem_tuple (j := j) (Q := fun r s' => r = w /\ EP X pins σ Q r s') pl (by omega) (by omega) (by rw [List.size_toArray, <- hl]; exact h1) (by simpa using ew) ⟨rfl, fin⟩) hs
theorem ix_str : IxR X rIxS := by
 intro value slice pins s σ H x y v u Q I rx ry h hs
 obtain ⟨z, i, c, rfl, rfl, hz, he, q⟩ := h
 obtain ⟨t, rfl⟩ := rx
 obtain ⟨t', rfl⟩ := ry
 obtain ⟨j, h1, h2, h3, h4, h5⟩ := atI_get he
 have hl : z.cps.toList.length = z.length := by simp [Str.length]
 rw [hl] at h1 h4 h5
 have hn := line63
 exact tail_any (typeIs_str s z t) slot_str_getitem.lookup (getItem_str (c := c) (by
   have e1 : decide (i < -(2 ^ 63 : Int)) = false := decide_eq_false (by omega)
   have e2 : decide (i ≥ 2 ^ 63) = false := decide_eq_false (by omega)
   rw [e1, e2, Bool.or_false]) (by rw [h1]; simpa using h2) ⟨.str ⟨#[c]⟩, H, I.tok _, ⟨_, rfl⟩, q⟩) hs
def rIx (K : PySem.W.Frag) : R2 := fun x y H Q => rIxL K x y H Q ∨ rIxT K x y H Q ∨ rIxS x y H Q
theorem ix_seq : IxR X (rIx X.K) := ix_list.or (ix_tup.or ix_str)
theorem mapSeq_set (its : List Value) (n j : Nat) (u : Value) : Obj.mapSeq (·.setIfInBounds j u) { cls := .type "list", data := .seq its.toArray n } = { cls := .type "list", data := .seq (its.set j u).toArray n } := by
 simp [Obj.mapSeq]
theorem Inv.lst {pins : List (Addr × Obj)} {σ : St} {H : Hp} {s : Shared} {p : Addr} {xs : List V} (I : Inv X pins σ H s) (h : H p = some (.lst xs)) :
   ∃ (its : List Value) (n : Nat), Vals xs its /\ s.heap.get? p = some { cls := .type "list", data := .seq its.toArray n } /\ xs.length <= sizeLine := by
 obtain ⟨z, its, n, r, e⟩ := I.hok p _ h
 exact ⟨its, n, r, e, z⟩
theorem Inv.lstUpd {pins : List (Addr × Obj)} {σ : St} {H : Hp} {s : Shared} {p : Addr} {xs ys : List V} {its its' : List Value} {n n' : Nat} {f : Obj -> Obj} (I : Inv X pins σ H s) (h : H p = some (.lst xs))
   (ho : s.heap.get? p = some { cls := .type "list", data := .seq its.toArray n }) (hf : f { cls := .type "list", data := .seq its.toArray n } = { cls := .type "list", data := .seq its'.toArray n' }) (r : Vals ys its') (hz : ys.length <= sizeLine) (t : Nat) :
   Inv X pins σ (upd H p (.lst ys)) { s with heap := s.heap.update p f, toks := t } := by
 have e : (s.heap.update p f).get? p = some { cls := .type "list", data := .seq its'.toArray n' } := by
   rw [Heap.get?_update_self f ho (by rw [hf] <;> rfl), hf]
 refine I.write (x := p) (e := p) (by rw [h]; trivial) (.inl rfl) (fun b u hb q => (Heap.get?_update_other _ _ (Ne.symm hb)).trans q) ⟨_, e⟩ ?_
 exact ⟨hz, its', n', r, e⟩
def rSetL : V -> V -> V -> Hp -> (Hp -> Prop) -> Prop := fun o i v H Q => ∃ p xs k j, o = .ref p /\ i = .int k /\ H p = some (.lst xs) /\ ixN xs.length k = some j /\ Q (upd H p (.lst (xs.set j v)))
theorem set_list : PSet X rSetL := by
 intro pins s σ H o i v ov iv u Q I ro ri rv h
 obtain ⟨p, xs, k, j, rfl, rfl, hp, hj, q⟩ := h
 cases ro
 obtain ⟨t, rfl⟩ := ri
 obtain ⟨its, n, r, ho, hz⟩ := I.lst hp
 obtain ⟨h1, h2, h3, h4⟩ := ixN_seq hj
 have hl := r.length
 have hn := line63
 have I' : Inv X pins σ (upd H p (.lst (xs.set j v))) { s with heap := s.heap.update p (Obj.mapSeq (·.setIfInBounds j u)) } :=
   I.lstUpd hp ho (mapSeq_set its n j u) (r.set rv j) (by rw [List.length_set]; exact hz) s.toks
 by_cases h0 : 0 <= k
 · have hk : k.toNat = j := by
     rw [seqIndex_of h0 h4] at h1
     exact Option.some.inj h1
   exact PySem.W.ki_setAt ho h0 (by omega) (by rw [List.size_toArray, <- hl]; exact h4) (by rw [hk]; exact ⟨_, I', q⟩)
 · have hk : (k + (its.toArray.size : Int)).toNat = j := by
     rw [seqIndex_neg (by omega) h3] at h1
     rw [List.size_toArray, <- hl]
     exact Option.some.inj h1
   exact PySem.W.ki_setBack ho (by omega) (by rw [List.size_toArray, <- hl]; exact h3) (by omega) (by rw [hk]; exact ⟨_, I', q⟩)
theorem slice_bounds (lo hi : Option Int) (n : Nat) : (sliceBounds lo hi none n).1 = ((HT.sIx n 0 lo : Nat) : Int) /\ (sliceBounds lo hi none n).2.1 = ((HT.sIx n n hi : Nat) : Int) /\ (sliceBounds lo hi none n).2.2 = 1 := by
 refine ⟨?_, ?_, rfl⟩
 · cases lo with
   | none => simp [sliceBounds, HT.sIx]
   | some i =>
     simp only [sliceBounds, HT.sIx, Option.getD_none, show (1 : Int) > 0 by decide, if_true]
     by_cases h : i < 0
     · simp only [h, if_true] <;> omega
     · simp only [h, if_false] <;> omega
 · cases hi with
   | none => simp [sliceBounds, HT.sIx]
   | some i =>
     simp only [sliceBounds, HT.sIx, Option.getD_none, show (1 : Int) > 0 by decide, if_true]
     by_cases h : i < 0
     · simp only [h, if_true] <;> omega
     · simp only [h, if_false] <;> omega
theorem slicePick_cut (its : List Value) (lo hi : Option Int) : slicePick its.toArray lo hi none = ((its.drop (HT.sIx its.length 0 lo)).take (HT.sIx its.length its.length hi - HT.sIx its.length 0 lo)).toArray := by
 obtain ⟨h1, h2, h3⟩ := slice_bounds lo hi its.toArray.size
 unfold slicePick
 rw [h1, h2, h3]
 simp only [sliceRange_one, pick_run, List.size_toArray] <;> rfl
def rSlL (K : PySem.W.Frag) : V -> Option Int -> Option Int -> Hp -> VK -> Prop := fun x lo hi H Q => ∃ a xs, x = .ref a /\ SqL K H a xs /\ ∀ p, H p = none -> Q (.ref p) (upd H p (.lst (cutV xs lo hi)))
theorem sl_list : SlR X (rSlL X.K) := by
 intro pins s σ H x v vl vu lo hi sl Q I rx hs pl pu h
 obtain ⟨a, xs, rfl, hx, q⟩ := h
 cases rx
 obtain ⟨its, r, ht, hz⟩ := I.list hx
 have hlen := r.length
 refine ⟨"list", _, slot_list_getitem.lookup, ht.isList.typeIs, ?_⟩
 refine wpAny_getItem_list_slice ht.isList hs pl pu .none (by simp) ?_ (by rw [List.size_toArray] <;> omega)
 rw [slicePick_cut, <- hlen]
 refine ⟨.ref s.heap.objs.size, _, I.laid (t' := s.toks) (o := .lst (cutV xs lo hi)) (fun b ob q => Heap.get?_push_of_some _ q) (Nat.le_refl _) ?_, rfl, q _ (I.hok.fresh (Nat.le_refl _))⟩
 exact ⟨Nat.le_trans (cutV_length xs lo hi) hz, _, 0, (r.drop (HT.sIx xs.length 0 lo)).take (HT.sIx xs.length xs.length hi - HT.sIx xs.length 0 lo), Heap.get?_push_size _ rfl⟩
def flatV : V -> Bool
 | .non => true
 | .bl _ => true
 | .int _ => true
 | .str _ => true
 | _ => false
def eqV : V -> V -> Bool
 | .non, .non => true
 | .bl a, .bl b => a == b
 | .bl a, .int b => (if a then 1 else 0) == b
 | .int a, .bl b => a == (if b then 1 else 0)
 | .int a, .int b => a == b
 | .str a, .str b => a == b
 | _, _ => false
theorem eqAt_V {A : Around} {s : Shared} {y x : V} {u v : Value} (ry : RelV y u) (rx : RelV x v) (fy : flatV y = true) (fx : flatV x = true) : SeqAt.EqAt A s u v (eqV y x) := by
 cases y with
 | non =>
   cases ry
   cases x with
   | non => cases rx; exact SeqAt.EqAt.same _
   | bl b => cases rx; exact SeqAt.EqAt.none_bool b
   | int b => obtain ⟨t, rfl⟩ := rx; exact SeqAt.EqAt.none_int b t
   | str b => obtain ⟨t, rfl⟩ := rx; exact SeqAt.EqAt.none_str b t
   | _ => exact absurd (show false = true from fx) Bool.false_ne_true
 | bl a =>
   cases ry
   cases x with
   | non => cases rx; exact SeqAt.EqAt.bool_none a
   | bl b => cases rx; exact SeqAt.EqAt.bool_bool a b
   | int b => obtain ⟨t, rfl⟩ := rx; exact SeqAt.EqAt.bool_int a b t
   | str b => obtain ⟨t, rfl⟩ := rx; exact SeqAt.EqAt.bool_str a b t
   | _ => exact absurd (show false = true from fx) Bool.false_ne_true
 | int a =>
   obtain ⟨t', rfl⟩ := ry
   cases x with
   | non => cases rx; exact SeqAt.EqAt.int_none a t'
   | bl b => cases rx; exact SeqAt.EqAt.int_bool a t' b
   | int b => obtain ⟨t, rfl⟩ := rx; exact SeqAt.EqAt.int_int a t' b t
   | str b => obtain ⟨t, rfl⟩ := rx; exact SeqAt.EqAt.int_str a t' b t
   | _ => exact absurd (show false = true from fx) Bool.false_ne_true
 | str a =>
   obtain ⟨t', rfl⟩ := ry
   cases x with
   | non => cases rx; exact SeqAt.EqAt.str_none a t'
   | bl b => cases rx; exact SeqAt.EqAt.str_bool a t' b
   | int b => obtain ⟨t, rfl⟩ := rx; exact SeqAt.EqAt.str_int a t' b t
   | str b => obtain ⟨t, rfl⟩ := rx; exact SeqAt.EqAt.str_str a t' b t
   | _ => exact absurd (show false = true from fx) Bool.false_ne_true
 | _ => exact absurd (show false = true from fy) Bool.false_ne_true
def eqU (x : V) (u : Value) : Bool := match u with
 | .none => eqV .non x
 | .bool b => eqV (.bl b) x
 | .int i _ => eqV (.int i) x
 | .str z _ => eqV (.str z) x
 | _ => false
theorem eqU_of {x y : V} {u : Value} (r : RelV y u) (f : flatV y = true) : eqU x u = eqV y x := by
 cases y with
 | non => cases r; rfl
 | bl b => cases r; rfl
 | int i => obtain ⟨t, rfl⟩ := r; rfl
 | str z => obtain ⟨t, rfl⟩ := r; rfl
 | _ => exact absurd (show false = true from f) Bool.false_ne_true
theorem any_eqU {x : V} : ∀ {xs : List V} {us : List Value}, Vals xs us -> xs.all flatV = true -> us.any (eqU x) = xs.any fun y => eqV y x
 | _, _, .nil, _ => rfl
 | y :: xs, u :: us, .cons r t, f => by
   rw [List.all_cons, Bool.and_eq_true] at f
   rw [List.any_cons, List.any_cons, eqU_of r f.1, any_eqU t f.2]
theorem mem_eqAt {A : Around} {s : Shared} {x : V} {v : Value} (rx : RelV x v) (fx : flatV x = true) : ∀ {xs : List V} {us : List Value}, Vals xs us -> xs.all flatV = true -> ∀ u ∈ us, SeqAt.EqAt A s u v (eqU x u)
 | _, _, .nil, _ => fun u hu => by cases hu
 | y :: xs, u :: us, .cons r t, f => fun u' hu => by
   rw [List.all_cons, Bool.and_eq_true] at f
   rcases List.mem_cons.mp hu with rfl | hu
   · rw [eqU_of r f.1]; exact eqAt_V r rx f.1 fx
   · exact mem_eqAt rx fx t f.2 u' hu
def inV (x : V) (xs : List V) : Bool := xs.any fun y => eqV y x
def rIn (K : PySem.W.Frag) (neg : Bool) : R2 := fun x y H Q => ∃ p xs, y = .ref p /\ (SqL K H p xs ∨ SqT K H p xs) /\ flatV x = true /\ xs.all flatV = true /\ Q (.bl (if neg then !inV x xs else inV x xs)) H
theorem op_in_seq : OpR X (compareOp .In) (rIn X.K false) := by
 intro pins s σ H x y v u Q I rx ry h
 obtain ⟨p, xs, rfl, hq, fx, fs, q⟩ := h
 cases ry
 rcases hq with hq | hq
 · obtain ⟨its, r, pl, hz⟩ := I.list hq
   refine SeqAt.in_listAt (eqU x) pl.isList (fun w hw => mem_eqAt rx fx r fs w (by simpa using hw)) ⟨.bl _, H, I, rfl, ?_⟩
   rw [show its.toArray.any (eqU x) = its.any (eqU x) by simp, any_eqU r fs]
   exact q
 · obtain ⟨its, r, pl, hz⟩ := I.tuple hq
   refine SeqAt.in_tupleAt (eqU x) pl (fun w hw => mem_eqAt rx fx r fs w (by simpa using hw)) ⟨.bl _, H, I, rfl, ?_⟩
   rw [show its.toArray.any (eqU x) = its.any (eqU x) by simp, any_eqU r fs]
   exact q
theorem op_notIn_seq : OpR X (compareOp .NotIn) (rIn X.K true) := by
 intro pins s σ H x y v u Q I rx ry h
 obtain ⟨p, xs, rfl, hq, fx, fs, q⟩ := h
 cases ry
 rcases hq with hq | hq
 · obtain ⟨its, r, pl, hz⟩ := I.list hq
   refine SeqAt.notIn_listAt (eqU x) pl.isList (fun w hw => mem_eqAt rx fx r fs w (by simpa using hw)) ⟨.bl _, H, I, rfl, ?_⟩
   rw [show its.toArray.any (eqU x) = its.any (eqU x) by simp, any_eqU r fs]
   exact q
 · obtain ⟨its, r, pl, hz⟩ := I.tuple hq
   refine SeqAt.notIn_tupleAt (eqU x) pl (fun w hw => mem_eqAt rx fx r fs w (by simpa using hw)) ⟨.bl _, H, I, rfl, ?_⟩
   rw [show its.toArray.any (eqU x) = its.any (eqU x) by simp, any_eqU r fs]
   exact q
theorem op_notIn_str : OpR X (compareOp .NotIn) (fun x y H Q => ∃ i j, x = .str i /\ y = .str j /\ Q (.bl (!(!(Builtin.Str.occurrences j i 0 j.length 1).isEmpty))) H) := by
 intro pins s σ H x y v u Q I rx ry h
 obtain ⟨i, j, rfl, rfl, q⟩ := h
 obtain ⟨t, rfl⟩ := rx
 obtain ⟨t', rfl⟩ := ry
 exact notIn_str ⟨.bl _, H, I, rfl, q⟩
theorem call_len_seq : CallR X (.builtin "len") (fun xs H Q => ∃ p ys, xs = [.ref p] /\ (SqL X.K H p ys ∨ SqT X.K H p ys) /\ Q (.int ys.length) H) := by
 intro pins s σ H xs us Q I r h
 obtain ⟨p, ys, rfl, hq, q⟩ := h
 obtain ⟨u, rfl, rx⟩ := vals1 r
 cases rx
 have hn := line63
 rcases hq with hq | hq
 · obtain ⟨its, r', pl, hz⟩ := I.list hq
   have hlen := r'.length
   exact Calls.call_len_list pl.isList (by simp only [List.size_toArray] <;> omega) ⟨.int ys.length, H, I.tok _, ⟨s.toks + 1, by rw [List.size_toArray, hlen]⟩, q⟩
 · obtain ⟨its, r', pl, hz⟩ := I.tuple hq
   have hlen := r'.length
   exact len_tuple pl (by simp only [List.size_toArray] <;> omega) ⟨.int ys.length, H, I.tok _, ⟨s.toks + 1, by rw [List.size_toArray, hlen]⟩, q⟩
theorem call_len_str : CallR X (.builtin "len") (fun xs H Q => ∃ z, xs = [.str z] /\ z.length <= sizeLine /\ Q (.int z.length) H) := by
 intro pins s σ H xs us Q I r h
 obtain ⟨z, rfl, hz, q⟩ := h
 obtain ⟨u, rfl, t, rfl⟩ := vals1 r
 have hn := line63
 exact len_str (by omega) ⟨.int z.length, H, I.tok _, ⟨_, rfl⟩, q⟩
theorem CallR.or {f : Value} {r r' : List V -> Hp -> VK -> Prop} (h : CallR X f r) (h' : CallR X f r') : CallR X f (fun xs H Q => r xs H Q ∨ r' xs H Q) := by
 intro pins s σ H xs us Q I rs q
 rcases q with q | q
 · exact h pins s σ H xs us Q I rs q
 · exact h' pins s σ H xs us Q I rs q
theorem call_list_of : CallR X (.type "list") (fun xs H Q => ∃ p ys, xs = [.ref p] /\ (SqL X.K H p ys ∨ SqT X.K H p ys) /\ ∀ l, H l = none -> Q (.ref l) (upd H l (.lst ys))) := by
 intro pins s σ H xs us Q I r h
 obtain ⟨p, ys, rfl, hq, q⟩ := h
 obtain ⟨u, rfl, rx⟩ := vals1 r
 cases rx
 have fin : ∀ (its : List Value), Vals ys its -> ys.length <= sizeLine -> ∀ (h' : Heap) (c' : Nat), (∀ b o', s.heap.get? b = some o' -> h'.get? b = some o') ->
     h'.get? s.heap.objs.size = some { cls := .type "list", dict := none, data := .seq its.toArray c', slots := #[] } -> EP X pins σ Q (.ref s.heap.objs.size) { s with heap := h' } := fun its r' hz h' c' kp e =>
   ⟨.ref s.heap.objs.size, _, I.laid (t' := s.toks) kp (Nat.le_refl _) (show ObjOk X.prog X.w _ h' _ (.lst ys) from ⟨hz, its, c', r', e⟩), rfl, q _ (I.hok.fresh (Nat.le_refl _))⟩
 rcases hq with hq | hq
 · obtain ⟨its, r', pl, hz⟩ := I.list hq
   have hlen := r'.length
   obtain ⟨o, ho, hc, n, hd⟩ := pl.isList
   exact call_list_seq p (.inl rfl) ho hc hd (fun h' c' kp e => fin its r' hz h' c' kp e) (by simp only [List.size_toArray] <;> omega)
 · obtain ⟨its, r', pl, hz⟩ := I.tuple hq
   have hlen := r'.length
   obtain ⟨o, ho, hc, n, hd⟩ := pl
   exact call_list_seq p (.inr rfl) ho hc hd (fun h' c' kp e => fin its r' hz h' c' kp e) (by simp only [List.size_toArray] <;> omega)
theorem call_tuple_of : CallR X (.type "tuple") (fun xs H Q => ∃ p ys, xs = [.ref p] /\ ((SqL X.K H p ys /\ ∀ l, H l = none -> Q (.ref l) (upd H l (.tup ys))) ∨ (SqT X.K H p ys /\ Q (.ref p) H))) := by
 intro pins s σ H xs us Q I r h
 obtain ⟨p, ys, rfl, h⟩ := h
 obtain ⟨u, rfl, rx⟩ := vals1 r
 cases rx
 rcases h with ⟨hq, q⟩ | ⟨hq, q⟩
 · obtain ⟨its, r', pl, hz⟩ := I.list hq
   have hlen := r'.length
   refine call_tuple_list pl.isList (fun h' kp => ?_) (by simp only [List.size_toArray] <;> omega)
   have I1 : Inv X pins σ H { s with heap := h' } := I.kept (t' := s.toks) kp
   have I2 : Inv X pins σ (upd H h'.objs.size (.tup ys)) { s with heap := h'.push { cls := .type "tuple", data := .seq its.toArray } } :=
     I1.laid (t' := s.toks) (fun b o e => Heap.get?_push_of_some _ e) (Nat.le_refl _) (show ObjOk X.prog X.w _ _ _ (.tup ys) from ⟨hz, its, r', IsTup.new _ _⟩)
   exact ⟨.ref h'.objs.size, _, I2, rfl, q _ (I1.hok.fresh (Nat.le_refl _))⟩
 · obtain ⟨its, r', pl, hz⟩ := I.tuple hq
   exact call_tuple_same pl ⟨.ref p, H, I, rfl, q⟩
def tyV (K : PySem.W.Frag) (T : String) (x : V) (H : Hp) : Prop := match x with
 | .str _ => T = "str"
 | .int _ => T = "int"
 | .ref p => (T = "list" /\ ∃ xs, SqL K H p xs) ∨ (T = "tuple" /\ ∃ o, K.lookup p = some o /\ o.cls = .type "tuple" /\ o.dict = none) ∨
     (T = "dict" /\ ((∃ kvs, H p = some (.dK kvs)) ∨ ∃ kvs, H p = some (.dT kvs))) ∨ (T = "set" /\ ∃ S n, H p = some (.set S n))
 | _ => False
theorem tyV_is {pins : List (Addr × Obj)} {σ : St} {H : Hp} {s : Shared} {T : String} {x : V} {v : Value} (I : Inv X pins σ H s) (r : RelV x v) (ty : tyV X.K T x H) :
   s.TypeIs v T /\ ∀ a, v = .ref a -> ∃ ob, s.heap.get? a = some ob /\ ob.dict = none := by
 cases x with
 | str z =>
   obtain ⟨t, rfl⟩ := r
   cases (show T = "str" from ty)
   exact ⟨typeIs_str s z t, fun _ e => nomatch e⟩
 | int i =>
   obtain ⟨t, rfl⟩ := r
   cases (show T = "int" from ty)
   exact ⟨typeIs_int s i t, fun _ e => nomatch e⟩
 | ref p =>
   cases r
   rcases ty with ⟨rfl, xs, hq⟩ | ⟨rfl, o, hk, hc, hd⟩ | ⟨rfl, hk⟩ | ⟨rfl, S, n, hk⟩
   · obtain ⟨its, _, pl, _⟩ := I.list hq
     refine ⟨pl.isList.typeIs, fun a e => ?_⟩
     cases e
     obtain ⟨o, n, e, c, hd, _⟩ := pl
     exact ⟨o, e, hd⟩
   · refine ⟨⟨o, I.kIn p o hk, hc⟩, fun a e => ?_⟩
     cases e
     exact ⟨o, I.kIn _ o hk, hd⟩
   · have z : ∃ o, s.heap.get? p = some o /\ o.ExactDict := by
       rcases hk with ⟨kvs, hk⟩ | ⟨kvs, hk⟩
       · obtain ⟨_, _, _, _, o, _, _, e, ex, _⟩ := I.hok p _ hk
         exact ⟨o, e, ex⟩
       · obtain ⟨_, _, _, _, o, _, _, e, ex, _⟩ := I.hok p _ hk
         exact ⟨o, e, ex⟩
     obtain ⟨o, e, ex⟩ := z
     refine ⟨⟨o, e, ex.1⟩, fun a e2 => ?_⟩
     cases e2
     exact ⟨o, e, ex.2.1⟩
   · obtain ⟨o, _, _, _, e, ex, _⟩ := I.hok p _ hk
     refine ⟨⟨o, e, ex.1⟩, fun a e2 => ?_⟩
     cases e2
     exact ⟨o, e, ex.2.1⟩
 | _ => exact False.elim ty
def tBM0 (K : PySem.W.Frag) (T : String) (r : V -> List V -> Hp -> VK -> Prop) (to : TE) : TE := fun σ H Q => to σ H fun x H1 => tyV K T x H1 /\ r x [] H1 Q
def tBM (K : PySem.W.Frag) (T : String) (r : V -> List V -> Hp -> VK -> Prop) (to : TE) (t : TA) : TE := fun σ H Q => to σ H fun x H1 => tyV K T x H1 /\ t σ H1 fun xs H2 => r x xs H2 Q
variable {o e : Expr} {es : List Expr} {to : TE} {t : TA} {name : Str} {apos cpos : Pos} {T id : String} {r : V -> List V -> Hp -> VK -> Prop}
theorem pe_bm0 (pa : PlainAttrs T) (slot : Slot T name id) (hty : typeOf (.builtin id) = pure (.type "method_descriptor")) (hm : MtR X id r) (ho : PE X o to)
   (hbase : attributeBase o name X.env (eval o X.env) = eval o X.env := by rfl) (hline : (apos.endLine == cpos.line) = true := by rfl) : PE X (.Call (.Attribute o name apos) [] [] cpos) (tBM0 X.K T r to) := by
 intro pins s σ H Q I h
 refine wpAny_Call_method0_late hbase hline (thn (ho pins s σ H _ I h) fun v s1 ⟨x, H1, I1, r1, ty, q1⟩ => ?_)
 obtain ⟨h1, h2⟩ := tyV_is I1 r1 ty
 exact ⟨T, id, pa, slot, hty, h1, h2, Calls.callWith_builtin rfl (PySem.evalArgs_none (hm pins s1 σ H1 x [] v [] Q I1 r1 .nil q1))⟩
theorem pe_bm (pa : PlainAttrs T) (slot : Slot T name id) (hty : typeOf (.builtin id) = pure (.type "method_descriptor")) (hm : MtR X id r) (ho : PE X o to) (ha : PA X (e :: es) t)
   (hbase : attributeBase o name X.env (eval o X.env) = eval o X.env := by rfl)
   (hfew : ((backTo cpos (starEach (e :: es) X.env)).all (fun x => !x.1) && (backToKw cpos (keywordEach [] X.env)).all (fun x => x.1.isSome)
     && decide ((e :: es).length + ([] : List Keyword).length + (if ([] : List Keyword).isEmpty then 0 else 1) < 30)) = true := by rfl)
   (hline : (apos.endLine == cpos.line) = true := by rfl) (hs : starEach (e :: es) X.env = (false, eval e X.env) :: starEach es X.env := by rfl) (hplain : (backTo cpos (starEach es X.env)).any (·.1) = false := by rfl) :
   PE X (.Call (.Attribute o name apos) (e :: es) [] cpos) (tBM X.K T r to t) := by
 intro pins s σ H Q I h
 refine wpAny_Call_method_late hbase hfew hline rfl (thn (ho pins s σ H _ I h) fun v s1 ⟨x, H1, I1, r1, ty, q1⟩ => ?_)
 obtain ⟨h1, h2⟩ := tyV_is I1 r1 ty
 refine ⟨T, id, pa, slot, hty, h1, h2, ?_⟩
 have hA := ha cpos pins s1 σ H1 _ I1 q1
 rw [hs] at hA ⊢
 refine Calls.callWith_builtin (by show (false || (backTo cpos (starEach es X.env)).any (·.1)) = false; rw [hplain] <;> rfl) (Calls.evalArgs_plain ?_)
 exact thn hA fun us s2 ⟨vs, H2, I2, r2, q2⟩ => hm pins s2 σ H2 x vs v us Q I2 r1 r2 q2
end
end L2
namespace L2
open PySem PySem.Spec PyProof.Rows
def MtM (X : Cx) (id : String) (r : V -> List V -> Hp -> VK -> Prop) : Prop :=
 ∀ (pins : List (Addr × Obj)) (s : Shared) (σ : St) (H : Hp) (x : V) (xs : List V) (v : Value) (us : List Value) (Q : VK), Inv X pins σ H s -> RelV x v -> Vals xs us -> r x xs H Q ->
   wpAny (model X.prog X.w) X.A (call (.builtin id) (v :: us)) (EP X pins σ Q) X.xe s
theorem Vals.one : ∀ {x : V} {us : List Value}, Vals [x] us -> ∃ u, us = [u] /\ RelV x u
 | _, _, .cons r .nil => ⟨_, rfl, r⟩
theorem Vals.two : ∀ {x y : V} {us : List Value}, Vals [x, y] us -> ∃ u v, us = [u, v] /\ RelV x u /\ RelV y v
 | _, _, _, .cons r (.cons q .nil) => ⟨_, _, rfl, r, q⟩
theorem Vals.zero : ∀ {us : List Value}, Vals [] us -> us = []
 | _, .nil => rfl
theorem Vals.dropLast {xs : List V} {us : List Value} (h : Vals xs us) : Vals xs.dropLast us.dropLast := by
 induction h with
 | nil => exact .nil
 | cons r t ih =>
   cases t with
   | nil => exact .nil
   | cons q t' => exact .cons r ih
theorem Vals.eraseIdx : ∀ {xs : List V} {us : List Value} (i : Nat), Vals xs us -> Vals (xs.eraseIdx i) (us.eraseIdx i)
 | _, _, _, .nil => .nil
 | _, _, 0, .cons _ t => t
 | _, _, i + 1, .cons r t => .cons r (Vals.eraseIdx i t)
theorem Vals.reverse {xs : List V} {us : List Value} (h : Vals xs us) : Vals xs.reverse us.reverse := by
 induction h with
 | nil => exact .nil
 | cons r t ih => rw [List.reverse_cons, List.reverse_cons]; exact Vals.append ih (.cons r .nil)
theorem Vals.rep {xs : List V} {us : List Value} (h : Vals xs us) : ∀ k : Nat, Vals (List.replicate k xs).flatten (List.replicate k us).flatten
 | 0 => .nil
 | k + 1 => by
   rw [List.replicate_succ, List.replicate_succ, List.flatten_cons, List.flatten_cons]
   exact Vals.append h (Vals.rep h k)
theorem erase_last {α : Type} (l : List α) : l.eraseIdx (l.length - 1) = l.dropLast := by
 induction l with
 | nil => rfl
 | cons a r ih =>
   cases r with
   | nil => rfl
   | cons b r =>
     have e : (a :: b :: r).length - 1 = ((b :: r).length - 1) + 1 := by
       have h1 : (a :: b :: r).length = r.length + 2 := rfl
       have h2 : (b :: r).length = r.length + 1 := rfl
       omega
     rw [e, List.eraseIdx_cons_succ, ih]
     all_goals rfl
theorem len_erase {α : Type} : ∀ (l : List α) (i : Nat), (l.eraseIdx i).length <= l.length
 | [], _ => Nat.le_refl _
 | _ :: _, 0 => Nat.le_succ _
 | _ :: r, i + 1 => Nat.succ_le_succ (len_erase r i)
theorem foldl_rep (its : List Value) : ∀ (k : Nat) (acc : List Value),
   List.foldl (fun x1 x2 => x1 ++ x2) acc.toArray (List.replicate k its.toArray) = (acc ++ (List.replicate k its).flatten).toArray
 | 0, acc => by simp
 | k + 1, acc => by
   have e : acc.toArray ++ its.toArray = (acc ++ its).toArray := by simp
   have e2 : (acc ++ its) ++ (List.replicate k its).flatten = acc ++ (List.replicate (k + 1) its).flatten := by
     rw [List.replicate_succ, List.flatten_cons, List.append_assoc]
   rw [<- e2, <- foldl_rep its k (acc ++ its), <- e, List.replicate_succ, List.foldl_cons]
section
variable {X : Cx} {pins : List (Addr × Obj)} {σ : St} {H : Hp} {s : Shared} {l b : Addr} {xs ys zs : List V}
theorem Inv.lset {its its' : List Value} {n : Nat} {f : Array Value -> Array Value} {t' : Nat} (I : Inv X pins σ H s) (hH : H l = some (.lst xs))
   (e : s.heap.get? l = some { cls := .type "list", data := .seq its.toArray n }) (hf : f its.toArray = its'.toArray) (hv : Vals ys its') (hz : ys.length <= sizeLine) :
   Inv X pins σ (upd H l (.lst ys)) { s with heap := s.heap.update l (Obj.mapSeq f), toks := t' } := by
 have q := PySem.IsL.update e f
 rw [hf] at q
 refine I.write (x := l) (e := l) (by rw [hH]; exact trivial) (.inl rfl) (fun b' u hb hu => (Heap.get?_update_other s.heap (Obj.mapSeq f) (Ne.symm hb)).trans hu) ⟨_, q⟩ ?_
 exact ⟨hz, its', _, hv, q⟩
theorem Inv.lnew {its : List Value} {t' : Nat} (I : Inv X pins σ H s) (hv : Vals ys its) (hz : ys.length <= sizeLine) :
   Inv X pins σ (upd H s.heap.objs.size (.lst ys)) { s with heap := s.heap.push { cls := .type "list", data := .seq its.toArray }, toks := t' } :=
 I.laid (fun _ _ q => Heap.get?_push_of_some _ q) (Nat.le_refl _) ⟨hz, its, 0, hv, Heap.get?_push_size _ rfl⟩
theorem Inv.fresh (I : Inv X pins σ H s) : H s.heap.objs.size = none := I.hok.fresh (Nat.le_refl _)
theorem Inv.lstM (I : Inv X pins σ H s) (hH : H l = some (.lst xs)) : xs.length <= sizeLine /\ ∃ (its : List Value) (n : Nat), Vals xs its /\ xs.length = its.length /\ s.heap.get? l = some { cls := .type "list", data := .seq its.toArray n } := by
 obtain ⟨z, its, n, r, e⟩ := I.hok l _ hH
 exact ⟨z, its, n, r, r.length, e⟩
theorem notLongL {n : Nat} (h : n <= sizeLine) : Builtin.List.listTooLong n = false := by
 unfold Builtin.List.listTooLong
 exact decide_eq_false (by omega)
end
section
variable {X : Cx}
def rAppend : V -> List V -> Hp -> VK -> Prop := fun x vs H Q => ∃ l xs y, x = .ref l /\ vs = [y] /\ H l = some (.lst xs) /\ xs.length < sizeLine /\ Q .non (upd H l (.lst (xs ++ [y])))
theorem mt_append : MtM X "list.append" rAppend := by
 intro pins s σ H x vs v us Q I rx rv h
 obtain ⟨l, xs, y, rfl, rfl, hH, hz, q⟩ := h
 cases rx
 obtain ⟨u, rfl, ru⟩ := rv.one
 obtain ⟨z, its, n, r, hl, e⟩ := I.lstM hH
 refine call_meets F.slot_list_append ⟨_, e, rfl⟩ F.entry_list_append (F.args_list_append_2 _ _) (PySem.list_append l its.toArray n u (by rw [List.size_toArray]; omega)) ⟨e, ?_⟩
 refine ⟨.non, _, I.lset (its' := its ++ [u]) hH e (by simp) (r.append (.cons ru .nil)) ?_, rfl, q⟩
 rw [List.length_append, List.length_singleton]
 omega
def rExtend : V -> List V -> Hp -> VK -> Prop := fun x vs H Q => ∃ l b xs zs, x = .ref l /\ vs = [.ref b] /\ H l = some (.lst xs) /\ H b = some (.lst zs) /\ xs.length + zs.length <= sizeLine /\ Q .non (upd H l (.lst (xs ++ zs)))
theorem mt_extend : MtM X "list.extend" rExtend := by
 intro pins s σ H x vs v us Q I rx rv h
 obtain ⟨l, b, xs, zs, rfl, rfl, hH, hB, hz, q⟩ := h
 cases rx
 obtain ⟨u, rfl, ru⟩ := rv.one
 cases ru
 obtain ⟨z, its, n, r, hl, e⟩ := I.lstM hH
 obtain ⟨z2, its2, n2, r2, hl2, e2⟩ := I.lstM hB
 have hsz : its.toArray.size + its2.toArray.size <= sizeLine := by rw [List.size_toArray, List.size_toArray]; omega
 have hlong : ¬ (!its.toArray.isEmpty && Builtin.List.listTooLong (its.toArray.size + its2.toArray.size)) = true := by
   rw [notLongL hsz, Bool.and_false]
   exact Bool.false_ne_true
 refine call_meets F.slot_list_extend ⟨_, e, rfl⟩ F.entry_list_extend (F.args_list_extend_2 _ _)
   (AutoSeq1.list_extend_list_list_0 l its.toArray n b its2.toArray n2 hlong (by rw [List.size_toArray]; omega) (by omega)) ⟨e, e2, ?_⟩
 refine ⟨.non, _, I.lset (its' := its ++ its2) hH e (by simp) (r.append r2) ?_, rfl, q⟩
 rw [List.length_append]
 omega
def rPop : V -> List V -> Hp -> VK -> Prop := fun x vs H Q => ∃ l xs y, x = .ref l /\ vs = [] /\ H l = some (.lst xs) /\ xs[xs.length - 1]? = some y /\ Q y (upd H l (.lst xs.dropLast))
theorem mt_pop : MtM X "list.pop" rPop := by
 intro pins s σ H x vs v us Q I rx rv h
 obtain ⟨l, xs, y, rfl, rfl, hH, hy, q⟩ := h
 cases rx
 have hus := rv.zero
 subst hus
 obtain ⟨z, its, n, r, hl, e⟩ := I.lstM hH
 obtain ⟨u, hu, ru⟩ := r.get hy
 have hy' : its.toArray[its.toArray.size - 1]? = some u := by
   show its.toArray[its.length - 1]? = some u
   rw [<- Array.getElem?_toList, <- hl]
   exact hu
 refine call_meets F.slot_list_pop ⟨_, e, rfl⟩ F.entry_list_pop (F.args_list_pop_1 _) (MeetsSeq.list_pop_last l its.toArray n u hy' (by rw [List.size_toArray]; omega)) ⟨e, ?_⟩
 refine ⟨y, _, I.lset (its' := its.dropLast) hH e ?_ r.dropLast ?_, ru, q⟩
 · show its.toArray.eraseIdxIfInBounds (its.toArray.size - 1) = its.dropLast.toArray
   rw [List.size_toArray, List.eraseIdxIfInBounds_toArray, erase_last]
 · rw [List.length_dropLast]
   omega
def rPopAt : V -> List V -> Hp -> VK -> Prop := fun x vs H Q => ∃ l xs i k y, x = .ref l /\ vs = [.int i] /\ H l = some (.lst xs) /\ -(2 ^ 63) <= i /\ i < 2 ^ 63 /\ seqIndex? i xs.length = some k /\ xs[k]? = some y /\ Q y (upd H l (.lst (xs.eraseIdx k)))
theorem mt_popAt : MtM X "list.pop" rPopAt := by
 intro pins s σ H x vs v us Q I rx rv h
 obtain ⟨l, xs, i, k, y, rfl, rfl, hH, h1, h2, hk, hy, q⟩ := h
 cases rx
 obtain ⟨u, rfl, ru⟩ := rv.one
 obtain ⟨t, rfl⟩ := ru
 obtain ⟨z, its, n, r, hl, e⟩ := I.lstM hH
 obtain ⟨w, hw, rw'⟩ := r.get hy
 refine call_meets F.slot_list_pop ⟨_, e, rfl⟩ F.entry_list_pop (F.args_list_pop_2 _ _)
   (MeetsSeq.list_pop_at l its.toArray n i t k w (fitsIndex_both h1 h2) (by rw [List.size_toArray, <- hl]; exact hk) (by rw [<- Array.getElem?_toList]; exact hw) (by rw [List.size_toArray]; omega)) ⟨e, ?_⟩
 refine ⟨y, _, I.lset (its' := its.eraseIdx k) hH e ?_ (r.eraseIdx k) ?_, rw', q⟩
 · show its.toArray.eraseIdxIfInBounds k = (its.eraseIdx k).toArray
   rw [List.eraseIdxIfInBounds_toArray]
 · have := len_erase xs k
   omega
def rReverse : V -> List V -> Hp -> VK -> Prop := fun x vs H Q => ∃ l xs, x = .ref l /\ vs = [] /\ H l = some (.lst xs) /\ Q .non (upd H l (.lst xs.reverse))
theorem mt_reverse : MtM X "list.reverse" rReverse := by
 intro pins s σ H x vs v us Q I rx rv h
 obtain ⟨l, xs, rfl, rfl, hH, q⟩ := h
 cases rx
 have hus := rv.zero
 subst hus
 obtain ⟨z, its, n, r, hl, e⟩ := I.lstM hH
 refine call_meets F.slot_list_reverse ⟨_, e, rfl⟩ F.entry_list_reverse (F.args_list_reverse_1 _) (AutoSeq1.list_reverse_list_0 l its.toArray n (by rw [List.size_toArray]; omega)) ⟨e, ?_⟩
 refine ⟨.non, _, I.lset (its' := its.reverse) hH e (by simp) r.reverse ?_, rfl, q⟩
 rw [List.length_reverse]
 omega
def rClear : V -> List V -> Hp -> VK -> Prop := fun x vs H Q => ∃ l xs, x = .ref l /\ vs = [] /\ H l = some (.lst xs) /\ Q .non (upd H l (.lst []))
theorem mt_clear : MtM X "list.clear" rClear := by
 intro pins s σ H x vs v us Q I rx rv h
 obtain ⟨l, xs, rfl, rfl, hH, q⟩ := h
 cases rx
 have hus := rv.zero
 subst hus
 obtain ⟨z, its, n, r, hl, e⟩ := I.lstM hH
 refine call_meets F.slot_list_clear ⟨_, e, rfl⟩ F.entry_list_clear (F.args_list_clear_1 _) (AutoSeq1.list_clear_list_0 l its.toArray n (by rw [List.size_toArray]; omega)) ⟨e, ?_⟩
 exact ⟨.non, _, I.lset (its' := []) (ys := []) hH e rfl .nil (Nat.zero_le _), rfl, q⟩
def rCat : R2 := fun x y H Q => ∃ l b xs zs, x = .ref l /\ y = .ref b /\ H l = some (.lst xs) /\ H b = some (.lst zs) /\ xs.length + zs.length <= sizeLine /\ ∀ p, H p = none -> Q (.ref p) (upd H p (.lst (xs ++ zs)))
theorem op_cat : OpR X (binaryOp .Add) rCat := by
 intro pins s σ H x y v u Q I rx ry h
 obtain ⟨l, b, xs, zs, rfl, rfl, hH, hB, hz, q⟩ := h
 cases rx
 cases ry
 obtain ⟨z, its, n, r, hl, e⟩ := I.lstM hH
 obtain ⟨z2, its2, n2, r2, hl2, e2⟩ := I.lstM hB
 refine PySem.P.add_list e e2 ?_ (by rw [List.size_toArray, List.size_toArray]; omega)
 have ea : its.toArray ++ its2.toArray = (its ++ its2).toArray := by simp
 rw [ea]
 exact ⟨.ref _, _, I.lnew (t' := s.toks) (r.append r2) (by rw [List.length_append]; omega), rfl, q _ I.fresh⟩
def rRep : R2 := fun x y H Q => ∃ l k xs, x = .ref l /\ y = .int k /\ H l = some (.lst xs) /\ -(2 ^ 63) <= k /\ k < 2 ^ 63 /\ xs.length * k.toNat <= sizeLine /\
 ∀ p, H p = none -> Q (.ref p) (upd H p (.lst (List.replicate k.toNat xs).flatten))
theorem len_rep {α : Type} (xs : List α) (k : Nat) : (List.replicate k xs).flatten.length = k * xs.length := by
 induction k with
 | zero => simp
 | succ k ih => rw [List.replicate_succ, List.flatten_cons, List.length_append, ih, Nat.succ_mul, Nat.add_comm]
theorem op_rep : OpR X (binaryOp .Mult) rRep := by
 intro pins s σ H x y v u Q I rx ry h
 obtain ⟨l, k, xs, rfl, rfl, hH, h1, h2, hz, q⟩ := h
 cases rx
 obtain ⟨t, rfl⟩ := ry
 obtain ⟨z, its, n, r, hl, e⟩ := I.lstM hH
 have hlen : its.toArray.size * k.toNat <= sizeLine := by rw [List.size_toArray, <- hl]; exact hz
 have hcap : ¬ its.toArray.size * k.toNat > (2 ^ 63 - 1) / 8 := by
   have : (sizeLine : Nat) <= (2 ^ 63 - 1) / 8 := by decide
   omega
 have hfit : ¬ (!Builtin.List.listFitsIndex k) = true := by
   rw [fitsIndex_both h1 h2]
   exact Bool.false_ne_true
 have hlong : ¬ Builtin.List.listTooLong (its.toArray.size * k.toNat) = true := by
   rw [notLongL hlen]
   exact Bool.false_ne_true
 have hnew : List.foldl (fun x1 x2 => x1 ++ x2) #[] (List.replicate (if its.toArray.isEmpty = true then 0 else k.toNat) its.toArray) = (List.replicate k.toNat its).flatten.toArray := by
   have f0 : ∀ m : Nat, List.foldl (fun x1 x2 => x1 ++ x2) #[] (List.replicate m its.toArray) = (List.replicate m its).flatten.toArray := fun m => by
     have := foldl_rep its m []
     rw [List.nil_append] at this
     exact this
   rw [f0]
   cases its with
   | nil => simp
   | cons a r' => rw [if_neg (by simp)]
 refine wpAny_binaryOp_repeat_ref (T := "list") (U := "int") (by decide) ⟨_, e, rfl⟩ (fun s' => typeIs_int s' k t) noFill_list_mul F.fills_int_mul F.slot_int_rmul repeat_list F.slot_int_index.lookup
   (call_meets F.slot_int_rmul (typeIs_int s k t) F.entry_int_rmul (F.args_int_rmul_2 _ _) (int___rmul___int_list k t l its.toArray n)
     ⟨e, rfl, ⟨_, e, rfl⟩, call_meets F.slot_list_mul ⟨_, e, rfl⟩ F.entry_list_mul (F.args_list_mul_2 _ _) (AutoListH.list___mul___list_int_3 l its.toArray n k t hfit hcap hlong) ⟨e, ?_⟩⟩)
 rw [hnew]
 exact ⟨.ref _, _, I.lnew (t' := s.toks) (r.rep k.toNat) (by rw [len_rep, Nat.mul_comm]; exact hz), rfl, q _ I.fresh⟩
theorem del_list {pins : List (Addr × Obj)} {s : Shared} {σ : St} {H : Hp} {l : Addr} {xs : List V} {i : Int} {t : Tok} {k : Nat} {Q : Unit -> Shared -> Prop} (I : Inv X pins σ H s) (hH : H l = some (.lst xs))
   (h1 : -(2 ^ 63) <= i) (h2 : i < 2 ^ 63) (hk : seqIndex? i xs.length = some k) (h : ∀ s', Inv X pins σ (upd H l (.lst (xs.eraseIdx k))) s' -> Q () s') :
   wpAny (model X.prog X.w) X.A (delItem (.ref l) (.int i t)) Q X.xe s := by
 obtain ⟨z, its, n, r, hl, e⟩ := I.lstM hH
 refine PySem.P.delItem_list (k := k) e (fitsIndex_both h1 h2) (by rw [List.size_toArray, <- hl]; exact hk) (h _ ?_) (by rw [List.size_toArray]; omega)
 refine I.lset (its' := its.eraseIdx k) (t' := s.toks) hH e ?_ (r.eraseIdx k) ?_
 · show its.toArray.eraseIdxIfInBounds k = (its.eraseIdx k).toArray
   rw [List.eraseIdxIfInBounds_toArray]
 · have := len_erase xs k
   omega
end
section
variable {prog : Program} {w : World} {A : Around} {E : Value -> Shared -> Prop} {s : Shared}
theorem splice_eq (its its2 : List Value) (a c : Nat) : its.toArray.extract 0 a ++ its2.toArray ++ its.toArray.extract c its.toArray.size = (its.take a ++ its2 ++ its.drop c).toArray := by
 apply Array.toList_inj.mp
 first
   | (simp
      exact List.take_of_length_le (by simp))
   | simp [List.take_of_length_le]
   | simp
theorem bounds_run {a c n : Nat} (hac : a <= c) (hc : c <= n) : sliceBounds (some (a : Int)) (some (c : Int)) none n = ((a : Int), (c : Int), 1) := by
 simp only [sliceBounds, Option.getD_none]
 have h1 : ¬ ((a : Int) < 0) := by omega
 have h2 : ¬ ((c : Int) < 0) := by omega
 simp only [h1, h2, if_false, show (1 : Int) > 0 by decide, if_true]
 congr 1
 · omega
 · congr 1; omega
set_option maxRecDepth 100000 in
theorem setItem_slice {l b sl : Addr} {items new : Array Value} {n n2 : Nat} {vl vu : Value} {a c : Nat} {Q : Unit -> Shared -> Prop}
   (e : s.heap.get? l = some { cls := .type "list", data := .seq items n }) (e2 : s.heap.get? b = some { cls := .type "list", data := .seq new n2 }) (hne : l ≠ b)
   (hs : s.heap.IsSliceOf sl vl vu .none) (pl : IsPart vl (some (a : Int))) (pu : IsPart vu (some (c : Int))) (hac : a <= c) (hc : c <= items.size)
   (hsz : items.size + new.size <= sizeLine) (h : Q () { s with heap := s.heap.update l (Obj.mapSeq fun xs => xs.extract 0 a ++ new ++ xs.extract c xs.size) }) :
   wpAny (model prog w) A (setItem (.ref l) (.ref sl) (.ref b)) Q E s := by
 have hl : s.heap.IsList l items := PySem.IsL.isList e
 have hb : s.heap.IsList b new := PySem.IsL.isList e2
 obtain ⟨os, hos, hcs, hds⟩ := id hs
 have hTs : s.TypeIs (.ref sl) "slice" := ⟨os, hos, hcs⟩
 have hstep : ¬ ((rawPart none == rawInt 0) = true) := Bool.false_ne_true
 have hsame : Builtin.List.listSameRef (.ref l) (.ref b) = false := by
   unfold Builtin.List.listSameRef
   exact beq_eq_false_iff_ne.mpr hne
 have hmax : (max (a : Int) (c : Int)).toNat = c := by omega
 have hz' : ((fun xs : Array Value => xs.extract 0 a ++ new ++ xs.extract c xs.size) items).size <= sizeLine + 1 := by
   simp only [Array.size_append, Array.size_extract]
   omega
 unfold setItem
 try with_reducible refine wpAny_holding ?_
 first | refine wpAny_bind (wpAny_pure ?_) | skip
 refine wpAny_bind (wpAny_sequenceKey hl.typeIs (by decide) ?_)
 refine wpAny_bind (wpAny_callSpecial?_slot (name := Str.ofString "__setitem__") hl.typeIs slot_list_setitem
   (wpAny_call_entry slot_list_setitem hl.typeIs entry_list_setitem ?_ (args_list_setitem _ _ _)))
 show wpAny _ _ (Builtin.List.listSubscript? (.ref sl) >>= _) _ _ s
 refine wpAny_bind ?_
 unfold Builtin.List.listSubscript?
 refine wpAny_bind (wpAny_specialOf hTs slice_no_index ?_)
 simp only [Option.isNone_none, if_true]
 refine wpAny_pure ?_
 show wpAny _ _ (typeOf (.ref sl) >>= _) _ _ s
 refine wpAny_bind (wpAny_typeOf hTs ?_)
 first
   | rw [if_neg (by decide)]
   | refine PySem.W.KFB.if_not (by decide) ?_
 rw [listSliceParts_eq]
 refine wpAny_bind (wpAny_bind (wpAny_field hos hds (x := .none) rfl (wpAny_bind (wpAny_listPart .none ?_))))
 rw [if_neg hstep]
 refine wpAny_bind (wpAny_field hos hds (x := vl) rfl (wpAny_bind (wpAny_listPart pl ?_)))
 refine wpAny_bind (wpAny_field hos hds (x := vu) rfl (wpAny_bind (wpAny_listPart pu (wpAny_pure ?_))))
 first
   | simp only [hsame, Bool.false_eq_true, if_false]
   | refine PySem.W.KFB.if_not hsame ?_
   | (dsimp only
      rw [if_neg (by rw [hsame]; exact Bool.false_ne_true)])
 refine wpAny_bind (m := Builtin.List.listAllItems (.ref b) "must assign iterable to extended slice") ?_
 unfold Builtin.List.listAllItems
 refine wpAny_bind (wpAny_typeOf hb.typeIs ?_)
 first
   | refine PySem.W.KFB.if_so (by decide) ?_
   | rw [if_pos (by decide)]
   | simp only [beq_self_eq_true, Bool.true_or, if_true]
 unfold Builtin.List.listItems
 refine wpAny_bind (wpAny_seqItems e2 rfl (wpAny_pure ?_))
 refine wpAny_bind (wpAny_bind (wpAny_seqItems e rfl (wpAny_pure ?_)))
 refine wpAny_bind (wpAny_of_eq ((sliceIndices_raw (some (a : Int)) (some (c : Int)) none items.size (by simp)).trans (congrArg (pure : Int × Int × Int -> Sem (Int × Int × Int)) (bounds_run hac hc))) ?_)
 show wpAny _ _ (if ((1 : Int) == 1) = true then _ else _) _ _ s
 rw [if_pos (by decide)]
 refine wpAny_bind (wpAny_rule ?_)
 first
   | simp only [notLongL hsz, Bool.false_eq_true, if_false]
   | refine PySem.W.KFB.if_not (notLongL hsz) ?_
 first | refine wpAny_bind (wpAny_pure ?_) | skip
 show wpAny _ _ (updateSeq l (fun xs => xs.extract 0 ((a : Int)).toNat ++ new ++ xs.extract (max (a : Int) (c : Int)).toNat xs.size) >>= _) _ _ s
 rw [hmax, Int.toNat_natCast]
 refine wpAny_bind (wpAny_updateSeq (hz := Nat.le_trans (Nat.le_add_right _ _) hsz) (_hz' := hz') e rfl ?_)
 refine wpAny_bind (wpAny_letGo ?_)
 first
   | exact wpAny_bind (wpAny_pure (wpAny_pure ⟨.none, rfl, wpAny_pure h⟩))
   | exact wpAny_pure ⟨.none, rfl, wpAny_pure h⟩
end
section
variable {X : Cx}
theorem set_slice {pins : List (Addr × Obj)} {s : Shared} {σ : St} {H : Hp} {l b sl : Addr} {xs ys : List V} {a c : Int} {vl vu : Value} {Q : Unit -> Shared -> Prop} (I : Inv X pins σ H s)
   (hH : H l = some (.lst xs)) (hB : H b = some (.lst ys)) (hne : l ≠ b) (hs : s.heap.IsSliceOf sl vl vu .none) (ra : RelV (.int a) vl) (rc : RelV (.int c) vu) (h0 : 0 <= a) (hac : a <= c) (hc : c <= xs.length)
   (hz : xs.length + ys.length <= sizeLine) (h : ∀ s', Inv X pins σ (upd H l (.lst (xs.take a.toNat ++ ys ++ xs.drop c.toNat))) s' -> Q () s') :
   wpAny (model X.prog X.w) X.A (setItem (.ref l) (.ref sl) (.ref b)) Q X.xe s := by
 obtain ⟨ta, rfl⟩ := ra
 obtain ⟨tc, rfl⟩ := rc
 obtain ⟨z, its, n, r, hl, e⟩ := I.lstM hH
 obtain ⟨z2, its2, n2, r2, hl2, e2⟩ := I.lstM hB
 obtain ⟨a', rfl⟩ := Int.eq_ofNat_of_zero_le h0
 obtain ⟨c', rfl⟩ := Int.eq_ofNat_of_zero_le (Int.le_trans h0 hac)
 simp only [Int.toNat_natCast] at h
 refine setItem_slice (a := a') (c := c') e e2 hne hs (.int _ _) (.int _ _) (by omega) (by rw [List.size_toArray]; omega) (by rw [List.size_toArray, List.size_toArray]; omega) (h _ ?_)
 refine I.lset (its' := its.take a' ++ its2 ++ its.drop c') (t' := s.toks) hH e ?_ (Vals.append (Vals.append (r.take _) r2) (r.drop _)) ?_
 · exact splice_eq its its2 a' c'
 · rw [List.length_append, List.length_append, List.length_take, List.length_drop]
   omega
end
end L2
namespace Att
open PySem PySem.W PySem.Calls PyProof.Rows
theorem ints_of_wellAll {P : Params} {h : Heap} : ∀ (ns : List Int) (vs : List Value), WellAll P h vs (ns.map WData.int) -> IntsAre vs ns := by
 intro ns
 induction ns with
 | nil =>
   intro vs w
   rw [List.map_nil] at w
   cases w
   exact .nil
 | cons n ns ih =>
   intro vs w
   rw [List.map_cons] at w
   cases w with
   | cons a b =>
     cases a
     exact .cons _ _ (ih _ b)
theorem script_of {l : OpenLaw} {n : Nat} (hn : l.most = some n) {P : Params} {h : Heap} {args : List WData} {vals : List Value}
   (hpre : l.row.toRowW.claim.pre args = true) (hwl : WellAll P h vals args) :
   ∃ a vs ns, vals = [Value.ref a] /\ args = [WData.list (ns.map WData.int)] /\ h.get? a = some { cls := .type "list", data := .seq vs.toArray } /\ IntsAre vs ns /\ ns.length <= n := by
 have hsh : WShape.hasAll [] args [.list .int] = true := (pre_splitW hpre).1
 have hc : l.pre.holds [] { args := args } = true := (pre_splitW hpre).2
 obtain ⟨d, r, rfl, h1, h2⟩ := hasAllW_cons hsh
 obtain rfl := hasAllW_nil h2
 obtain ⟨xs, rfl, h3⟩ := hasW_list h1
 obtain ⟨ns, rfl⟩ := items_int h3
 have hlen : ns.length <= n := by
   unfold OpenLaw.pre at hc
   have h4 : (WTm.not (.lt (.lit (.int (n : Int))) (.len (.arg 0)))).holds [] { args := [.list (ns.map .int)] } = true := by
     have h4 := (holds_andW hc).1
     rw [hn] at h4
     exact h4
   have h5 := condW_of h4 (w_not (w_lt w_lit (w_len_list (w_arg rfl))))
   rw [List.length_map] at h5
   refine Nat.le_of_not_lt fun q => ?_
   have q' : (n : Int) < ((ns.length : Nat) : Int) := by omega
   first
     | (rw [decide_eq_true q'] at h5; exact absurd h5 (by decide))
     | (simp at h5; omega)
 cases hwl with
 | cons w1 w2 =>
   cases w2
   cases w1 with
   | list ho hall => exact ⟨_, _, ns, rfl, rfl, ho, ints_of_wellAll ns _ hall, hlen⟩
theorem post_true (l : OpenLaw) (args : List WData) : l.row.toRowW.claim.post args (.bool true) args = true :=
 postW_of (r := l.row.toRowW) (X := (true == true))
   (show WShape.has [] (.bool true) .bool = true by first | rfl | decide | simp [WShape.has, WShape.arms, WShape.armsAll])
   (show (WTm.eq .res (.lit (.bool true))).value [] { args := args, res := some (.bool true), after := args } = some (.bool (true == true)) from w_eq_bool (w_res rfl) w_lit) rfl
theorem attach {l : OpenLaw} {n : Nat} {q : Program} {loose : List Str} {XP : (Str -> Option Value) -> Heap -> Prop} {YP : World -> Heap -> Prop} {d : DefRec} {x : Str}
   (hn : l.most = some n) (hdf : d.params.defaults = [])
   (hbind : ∀ pm cd doc v : Value, bindArgs (docDef d.name d.params d.body d.scope pm cd doc) ⟨[v], []⟩ = pure [(x, v)])
   (hx : d.scope.names.lookup x = some .local ∨ d.scope.names.lookup x = some .cell)
   (hk : d.scope.kind = .function) (hco : d.scope.isCoroutine = false) (hgen : d.scope.isGenerator = false)
   (body : ∀ (w : World) (s₀ s₁ s : Shared) (mg mb : Str -> Option Value) (fa : Addr) (o : Obj) (pm cd doc : Value) (a : Addr) (vs : List Value) (ns : List Int),
     Ground q loose [] XP w s₀ mg mb s₁.heap -> YP w s₁.heap ->
     s₁.heap.get? fa = some o -> o.data = .func (docDef d.name d.params d.body d.scope pm cd doc) -> s₁.heap.CodeRec cd d.name -> mg d.name = some (.ref fa) ->
     s₁.heap.get? a = some { cls := .type "list", data := .seq vs.toArray } -> IntsAre vs ns -> ns.length <= n ->
     s.gens = #[] -> s.os = s₁.os ->
     Fr s₁.heap s₁.heap.objs.size s.heap (bindL (envOfC d.name d.scope s₁.heap.objs.size fa cd).kindOf [(x, .ref a)] fun _ => none) ->
     Cl s₁.heap.objs.size (cellsFrom (s₁.heap.objs.size + 1) d.scope.names []) s.heap (bindC (envOfC d.name d.scope s₁.heap.objs.size fa cd).kindOf [(x, .ref a)] fun _ => none) ->
     wpAny (model l.prog w) (callerA.deeper (envOfC d.name d.scope s₁.heap.objs.size fa cd)) (execs d.body (envOfC d.name d.scope s₁.heap.objs.size fa cd))
       (fun f s' => f = .ret (.bool true) /\ OldK s₁.heap s'.heap /\ s'.os = s₁.os /\ AllBare s'.gens) (fun _ _ => False) s) :
   WalkO q loose XP YP l.row.toRowW d [] (fun f vs => PySem.call f vs) := by
 intro w s₀ s₁ mg mb G Y fa o pm cd doc dV kV ho hd hcd hD hmg hg args vals as hpre hlay hrd hwl hlo
 obtain rfl : dV = .none := Dflts.none hD hdf
 obtain rfl : kV = .none := Dflts.noKw hD
 obtain ⟨a, vs, ns, rfl, rfl, hobj, hints, hlen⟩ := script_of hn hpre hwl
 refine enter_call ?_
 refine call_cells_ret (o := o) (by rw [depth_caller]; decide) ho (fd_plain hd) G.T.nolimit hcd (hbind pm cd doc (.ref a)) (fun y hy => ?_) (fun h₁ tk F X => ?_) hco hgen hk
 · obtain rfl : y = (x, Value.ref a) := List.mem_singleton.mp hy
   rcases hx with e | e
   · exact .inl e
   · exact .inr ⟨e, cellsFrom_some _ _ _ (.inl e)⟩
 · refine wpAny_mono (body w s₀ s₁ { s₁ with heap := h₁, toks := tk } mg mb fa o pm cd doc a vs ns G Y ho (fd_plain hd) hcd hmg hobj hints hlen hg rfl F X) (fun f s' hq => ?_) (fun _ _ hq => hq)
   obtain ⟨rfl, h2, h3, h4⟩ := hq
   exact ⟨.inl ⟨.bool true, .bool true, [], rfl, fun _ => rfl, .bool true, post_true l _, fun _ => ⟨List.Pairwise.nil, fun _ hm => (nomatch hm)⟩⟩, h2, h3, h4⟩
theorem attach_call {l : OpenLaw} {n : Nat} {q : Program} {loose : List Str} {XP : (Str -> Option Value) -> Heap -> Prop} {YP : World -> Heap -> Prop} {d : DefRec}
   (hn : l.most = some n) (hdf : d.params.defaults = [])
   (call : ∀ (w : World) (s₀ s₁ : Shared) (mg mb : Str -> Option Value) (fa : Addr) (o : Obj) (pm cd doc : Value) (a : Addr) (vs : List Value) (ns : List Int),
     Ground q loose [] XP w s₀ mg mb s₁.heap -> YP w s₁.heap ->
     s₁.heap.get? fa = some o -> o.data = .func (docDef d.name d.params d.body d.scope pm cd doc) -> s₁.heap.CodeRec cd d.name -> mg d.name = some (.ref fa) ->
     s₁.heap.get? a = some { cls := .type "list", data := .seq vs.toArray } -> IntsAre vs ns -> ns.length <= n -> s₁.gens = #[] ->
     codeAny (model l.prog w) callerA (.call (.ref fa) ⟨[.ref a], []⟩) (fun r s' => r = .ok (.ret (.bool true)) /\ OldK s₁.heap s'.heap /\ s'.os = s₁.os /\ AllBare s'.gens) s₁) :
   WalkO q loose XP YP l.row.toRowW d [] (fun f vs => PySem.call f vs) := by
 intro w s₀ s₁ mg mb G Y fa o pm cd doc dV kV ho hd hcd hD hmg hg args vals as hpre hlay hrd hwl hlo
 obtain rfl : dV = .none := Dflts.none hD hdf
 obtain rfl : kV = .none := Dflts.noKw hD
 obtain ⟨a, vs, ns, rfl, rfl, hobj, hints, hlen⟩ := script_of hn hpre hwl
 refine enter_call (codeAny_mono (call w s₀ s₁ mg mb fa o pm cd doc a vs ns G Y ho (fd_plain hd) hcd hmg hobj hints hlen hg) fun r s' hq => ?_)
 obtain ⟨rfl, h2, h3, h4⟩ := hq
 exact ⟨.inl ⟨.bool true, .bool true, [], rfl, fun _ => rfl, .bool true, post_true l _, fun _ => ⟨List.Pairwise.nil, fun _ hm => (nomatch hm)⟩⟩, h2, h3, h4⟩
theorem attachN {l : OpenLaw} {n : Nat} {q : Program} {loose : List Str} {XP : (Str -> Option Value) -> Heap -> Prop} {YP : World -> Heap -> Prop} {d : DefRec} {x : Str}
   (hn : l.most = some n) (hdf : d.params.defaults = [])
   (hbind : ∀ pm cd doc v : Value, bindArgs (docDef d.name d.params d.body d.scope pm cd doc) ⟨[v], []⟩ = pure [(x, v)])
   (hx : d.scope.names.lookup x = some .local ∨ d.scope.names.lookup x = some .cell)
   (hk : d.scope.kind = .function) (hco : d.scope.isCoroutine = false) (hgen : d.scope.isGenerator = false)
   (body : ∀ (w : World) (s₀ s₁ s : Shared) (mg mb : Str -> Option Value) (fa : Addr) (o : Obj) (pm cd doc : Value) (a : Addr) (vs : List Value) (ns : List Int),
     Ground q loose [] XP w s₀ mg mb s₁.heap -> YP w s₁.heap ->
     s₁.heap.get? fa = some o -> o.data = .func (docDef d.name d.params d.body d.scope pm cd doc) -> s₁.heap.CodeRec cd d.name -> mg d.name = some (.ref fa) ->
     s₁.heap.get? a = some { cls := .type "list", data := .seq vs.toArray } -> IntsAre vs ns -> ns.length <= n ->
     s.gens = #[] -> s.os = s₁.os ->
     Fr s₁.heap s₁.heap.objs.size s.heap (bindL (envOfC d.name d.scope s₁.heap.objs.size fa cd).kindOf [(x, .ref a)] fun _ => none) ->
     Cl s₁.heap.objs.size (cellsFrom (s₁.heap.objs.size + 1) d.scope.names []) s.heap (bindC (envOfC d.name d.scope s₁.heap.objs.size fa cd).kindOf [(x, .ref a)] fun _ => none) ->
     wpAny (model l.prog w) (callerA.deeper (envOfC d.name d.scope s₁.heap.objs.size fa cd)) (execs d.body (envOfC d.name d.scope s₁.heap.objs.size fa cd))
       (fun f s' => f = .ret (.bool true) /\ (∀ b o, s₁.heap.get? b = some o -> s'.heap.get? b = some o) /\ s'.os = s₁.os /\ s'.gens = #[]) (fun _ _ => False) s) :
   WalkN q loose XP YP l.row.toRowW d [] (fun f vs => PySem.call f vs) := by
 intro w s₀ s₁ mg mb G Y fa o pm cd doc dV kV ho hd hcd hD hmg hg args vals as hpre hlay hrd hwl hlo
 obtain rfl : dV = .none := Dflts.none hD hdf
 obtain rfl : kV = .none := Dflts.noKw hD
 obtain ⟨a, vs, ns, rfl, rfl, hobj, hints, hlen⟩ := script_of hn hpre hwl
 refine enter_callW ?_
 refine call_cells_ret (o := o) (by rw [depth_caller]; decide) ho (fd_plain hd) G.T.nolimit hcd (hbind pm cd doc (.ref a)) (fun y hy => ?_) (fun h₁ tk F X => ?_) hco hgen hk
 · obtain rfl : y = (x, Value.ref a) := List.mem_singleton.mp hy
   rcases hx with e | e
   · exact .inl e
   · exact .inr ⟨e, cellsFrom_some _ _ _ (.inl e)⟩
 · refine wpAny_mono (body w s₀ s₁ { s₁ with heap := h₁, toks := tk } mg mb fa o pm cd doc a vs ns G Y ho (fd_plain hd) hcd hmg hobj hints hlen hg rfl F X) (fun f s' hq => ?_) (fun _ _ hq => hq)
   obtain ⟨rfl, h2, h3, h4⟩ := hq
   exact ⟨.inl ⟨.bool true, .bool true, [], rfl, fun _ => rfl, .bool true, post_true l _, fun _ => ⟨List.Pairwise.nil, fun _ hm => (nomatch hm)⟩⟩, h2, h3, h4⟩
section
variable {prog : Program} {w : World} {A : Around} {E : Value -> Shared -> Prop} {s : Shared} {K : Frag}
theorem call_fn {R : Result -> Shared -> Prop} {name qual : Str} {params : Arguments} {body : List Stmt} {scope : Scope} {dV kV doc pm cdv ct oc : Value} {an od : Option Addr} {osl : Array (Option Value)} {f : Addr} {args : Args} {binds : List (Str × Value)}
   (X : K.In s.heap) (hlim : s.heap.NoLimit) (ho : K.lookup f = some ⟨oc, od, .func (fnOf name qual params body scope dV kV doc pm an cdv ct), osl⟩) (hcd : codeIn K cdv qual = true) (hroom : A.depth < recursionLimit)
   (hbind : BindsTo s (fnOf name qual params body scope dV kV doc pm an cdv ct) args binds)
   (hkind : (binds.all fun y => scope.names.lookup y.1 == some .local || scope.names.lookup y.1 == some .cell) = true)
   (h : ∀ s₁, InCallC s s.heap.objs.size (bindL (envOfC qual scope s.heap.objs.size f cdv).kindOf binds fun _ => none) (cellsFrom (s.heap.objs.size + 1) scope.names [])
       (bindC (envOfC qual scope s.heap.objs.size f cdv).kindOf binds fun _ => none) s₁ ->
     wpAny (model prog w) (A.deeper (envOfC qual scope s.heap.objs.size f cdv)) (execs body (envOfC qual scope s.heap.objs.size f cdv))
       (fun fl s' => R (.ok (.ret (match fl with | .ret v => v | _ => .none))) s')
       (fun e s' => wpAny (model prog w) (A.deeper (envOfC qual scope s.heap.objs.size f cdv)) (leaving (envOfC qual scope s.heap.objs.size f cdv) e) (fun _ s'' => R (.error e) s'') (fun e' s'' => R (.error e') s'') s') s₁)
   (hco : scope.isCoroutine = false) (hgen : scope.isGenerator = false) (hk : scope.kind = .function) : codeAny (model prog w) A (.call (.ref f) args) R s := by
 refine codeAny_call_function hroom (X _ _ ho) rfl hco hgen rfl (codeRec_of X hcd) (hbind _ _ _ _ ?_)
 refine wpAny_newFunctionEnv_cells hk (kindsX hkind _) fun env he s₁ x => ?_
 subst he
 exact ⟨hlim.keeps x.toInCall.keep, codeAny_func (h s₁ x)⟩
theorem make_obj {R : Result -> Shared -> Prop} {C fI : Addr} {rest : List Value} {kw : List (Str × Value)}
   (X : K.In s.heap) (hm : makesIn K C = true) (hi : findIn K (.ref C) "__init__" = some (some (.ref fI))) (hf : isFn K (.ref fI) = true)
   (h : codeAny (model prog w) (A.under (.builtin "type.__call__" ⟨.ref C :: rest, kw⟩)) (.call (.ref fI) ⟨.ref (s.heap.objs.size + 1) :: rest, kw⟩) (InitBack (s.heap.objs.size + 1) R)
     { s with heap := (s.heap.push emptyDict).push (instObj C s.heap.objs.size) }) : codeAny (model prog w) A (.call (.ref C) ⟨rest, kw⟩) R s := by
 obtain ⟨hh, g, d, t, os⟩ := s
 exact make_core (makes_of X hm) (looks_findIn X hi) (fun self => bind_fn X self (beq_iff_eq.mp hf)) (.inl rfl) h
theorem get_field {x C : Addr} {ox : Obj} {es : List DictEntry} {n : Nat} {name : Str} {expr : Bool} {v : Value} {Q : Value -> Shared -> Prop}
   (X : K.In s.heap) (I : PySem.W.InstAt s.heap x ox C (some (dictOf es n))) (hg : plainGet K C name = true) (hh : hasDictIn K C = true) (ha : findIn K (.ref C) name = some none)
   (hl : getL name es = some (some v)) (hv : handedIn v = true) (h : Q v { s with toks := s.toks + 1 }) : wpAny (model prog w) A (getAttr (.ref x) name expr) Q E s :=
 get_value X I (plainGet_of hg).1 (findObj_own hh ha rfl hl) hv h
theorem get_method {x C f : Addr} {ox : Obj} {es : List DictEntry} {n : Nat} {name : Str} {pl : Sem Bool} {Q : Value × List Value -> Shared -> Prop}
   (X : K.In s.heap) (I : PySem.W.InstAt s.heap x ox C (some (dictOf es n))) (hg : plainGet K C name = true) (hf : findIn K (.ref C) name = some (some (.ref f))) (ht : isFn K (.ref f) = true)
   (hl : getL name es = some none) (h : Q (.ref f, [.ref x]) s) : wpAny (model prog w) A (getMethod (.ref x) name pl) Q E s :=
 method_fn X I (plainGet_of hg).1 (plainGet_of hg).2 hf (beq_iff_eq.mp ht) (by show (lookIn name (dictOf es n)).map _ = _; rw [lookIn_dict, hl]; rfl) h
def noObjs (h : Heap) : Heap := { h with objs := #[] }
theorem noObjs_get (h : Heap) (b : Addr) : (noObjs h).get? b = none := by
 cases e : (noObjs h).get? b with
 | none => rfl
 | some o => exact absurd (Heap.lt_size e) (Nat.not_lt_zero _)
def ledger (h : Heap) (L d : Addr) : List (Addr × Obj) := (List.range h.objs.size).filterMap fun a => if a = L ∨ a = d then none else (h.get? a).map fun o => (a, o)
theorem mem_ledger {h : Heap} {L d a : Addr} {o : Obj} : (a, o) ∈ ledger h L d ↔ a ≠ L /\ a ≠ d /\ h.get? a = some o := by
 unfold ledger
 rw [List.mem_filterMap]
 constructor
 · rintro ⟨b, _, e⟩
   split at e
   · cases e
   · rename_i hb
     obtain ⟨o', ho, e'⟩ := Option.map_eq_some_iff.mp e
     cases e'
     exact ⟨fun q => hb (.inl q), fun q => hb (.inr q), ho⟩
 · rintro ⟨n1, n2, ho⟩
   refine ⟨a, List.mem_range.mpr (Heap.lt_size ho), ?_⟩
   rw [if_neg (show ¬ (a = L ∨ a = d) from fun q => q.elim n1 n2), ho] <;> rfl
theorem news_ledger {h : Heap} {L d : Addr} {od : Obj} (hne : d ≠ L) (ho : h.get? d = some od) : News (noObjs h) L h ([] ++ (d, od) :: ledger h L d) := by
 rintro ⟨a, o⟩ hp
 rcases List.mem_cons.mp hp with e | hp
 · cases e
   exact ⟨ho, hne, noObjs_get _ _⟩
 · obtain ⟨n1, n2, e⟩ := mem_ledger.mp hp
   exact ⟨e, n1, noObjs_get _ _⟩
theorem fr_all {h : Heap} {L : Addr} {m : Str -> Option Value} (n : h.Ns L m) : Fr (noObjs h) L h m :=
 ⟨n, fun b o e => (by rw [noObjs_get] at e; cases e), Nat.zero_le _⟩
theorem upd_ledger {h : Heap} {L d : Addr} {o o' : Obj} : Upd d o o' ((d, o) :: ledger h L d) ((d, o') :: ledger h L d) :=
 .head fun ⟨_, _⟩ hp => (mem_ledger.mp hp).2.1
theorem set_field {x C dx L : Addr} {ox : Obj} {m : Str -> Option Value} {es es' : List DictEntry} {n n' : Nat} {name : Str} {v : Value} {Q : Unit -> Shared -> Prop}
   (X : K.In s.heap) (I : PySem.W.InstAt s.heap x ox C (some (dictOf es n))) (hd : ox.dict = some dx) (hL : s.heap.Ns L m) (hne : dx ≠ L)
   (hs : findIn K (.ref C) "__setattr__" = some (some (.builtin "object.__setattr__"))) (hp : plainOver K C = true) (ht : takerIn K C name = some none) (hh : hasDictIn K C = true) (hl : (getL name es).isSome = true)
   (e : (putL name (PyData.keyHash w.params name) (.str name (s.toks + 1)) v es, putN name es n) = (es', n')) (hz : es'.length <= 1000)
   (h : ∀ h' : Heap, h'.Ns L m -> h'.get? dx = some (dictOf es' n') -> (∀ b o, b ≠ dx -> b ≠ L -> s.heap.get? b = some o -> h'.get? b = some o) -> Q () { s with heap := h', toks := s.toks + 2 }) :
   wpAny (model prog w) A (setAttr (.ref x) name v) Q E s := by
 obtain ⟨e1, e2⟩ := Prod.mk.inj e
 have hdx : s.heap.get? dx = some (dictOf es n) := by
   have := I.dict
   rw [hd] at this
   exact this
 refine set_plain X I hs (osa_dict (s := { s with toks := s.toks + 1 }) (h₀ := noObjs s.heap) (L := L) (m := m) (od := dictOf es n) (od' := dictOf es' n') (es := es') (n := n') (pre := []) (post := ledger s.heap L dx)
   (fr_all hL) (news_ledger hne hdx) X I hd hp ht hh hl (fun _ q => nomatch q) (fun ⟨_, _⟩ q => (mem_ledger.mp q).2.1) (by rw [putName_dict, e1, e2]) rfl hz fun h' F' N' => ?_)
 exact h h' F'.ns (N'.get (List.Mem.head _)) fun b o n1 n2 ho => N'.get (List.Mem.tail _ (mem_ledger.mpr ⟨n2, n1, ho⟩))
end
end Att
namespace L2
open PySem PySem.Spec PyProof.Rows
theorem vals_ints : ∀ {vs : List Value} {ns : List Int}, IntsAre vs ns -> Vals (ns.map V.int) vs
 | _, _, .nil => .nil
 | _, _, .cons n t h => .cons ⟨t, rfl⟩ (vals_ints h)
def Only (H : Hp) : Prop := ∀ b, H b = none ∨ ∃ o xs, H b = some (.frz o (.lst xs))
theorem law_call {P : Program} {w : World} {K : PySem.W.Frag} {mg mb : Str -> Option Value} {CX : CXT} {k : Nat} {fa a : Addr} {fd : FuncData} {x : Str} {sp : Sp} {s₁ : Shared} {vs : List Value} {ns : List Int}
   (KX : K.In s₁.heap) (hns : s₁.heap.Ns mainGlobals mg) (hb : s₁.heap.Ns builtinsNs mb) (hbb : ∀ x : Str, x ≠ "__name__" -> mb x = bootBuiltins x) (hlim : s₁.heap.NoLimit) (hg : s₁.gens = #[])
   (ha : s₁.heap.get? a = some { cls := .type "list", data := .seq vs.toArray }) (hi : IntsAre vs ns) (hl : ns.length <= sizeLine) (hr : Room k callerA)
   (F : ∀ base : Heap, K.In base -> base.Ns mainGlobals mg -> FnOk P w K mg base CX k fa fd [x] sp) (hbind : ∀ (s : Shared) (u : Value), BindsTo s fd ⟨[u], []⟩ [(x, u)])
   (hsp : ∀ H : Hp, Only H -> SqL K H a (ns.map V.int) -> sp [.ref a] H (fun v _ => v = .bl true) fun _ _ _ => False)
   (hCX : ∀ H e s', CX [] H s₁ (fun _ _ _ => False) e s' -> False) :
   codeAny (model P w) callerA (.call (.ref fa) ⟨[.ref a], []⟩) (fun r s' => r = .ok (.ret (.bool true)) /\ OldK s₁.heap s'.heap /\ s'.os = s₁.os /\ AllBare s'.gens) s₁ := by
 have rv := vals_ints hi
 have lenV := hi.length
 have core : ∀ H : Hp, Only H -> SqL K H a (ns.map V.int) -> HOk P w H s₁.heap -> (∀ b, H b ≠ none -> b = a) -> (H a ≠ none -> K.lookup a = none) ->
     codeAny (model P w) callerA (.call (.ref fa) ⟨[.ref a], []⟩) (fun r s' => r = .ok (.ret (.bool true)) /\ OldK s₁.heap s'.heap /\ s'.os = s₁.os /\ AllBare s'.gens) s₁ := by
   intro H hO hS hok hA hK
   have base_of : ∀ {b : Addr} {o : Obj}, s₁.heap.get? b = some o -> H b = none -> (hidT s₁.heap H).get? b = some o := fun e n => hidT_get e n
   have noA : ∀ {b : Addr} {o : Obj} {es : Array DictEntry} {ep : Nat}, s₁.heap.get? b = some o -> o.data = .dict es ep -> H b = none := fun {b o es ep} e d => by
     cases q : H b with
     | none => rfl
     | some u =>
       have e' : b = a := hA b (by rw [q]; simp)
       subst e'
       rw [ha] at e; cases e
       have d' : Data.seq vs.toArray _ = Data.dict es ep := d
       cases d'
   have nsK : ∀ {b : Addr} {m : Str -> Option Value}, s₁.heap.Ns b m -> (hidT s₁.heap H).Ns b m := fun {b m} ⟨o, es, ep, e, d, r⟩ => ⟨o, es, ep, base_of e (noA e d), d, r⟩
   have hKb : K.In (hidT s₁.heap H) := fun b o e => base_of (KX b o e) (by
     cases q : H b with
     | none => rfl
     | some u =>
       have e' : b = a := hA b (by rw [q]; simp)
       subst e'
       rw [hK (by rw [q]; simp)] at e; cases e)
   have hM : Mod K mg (hidT s₁.heap H) := ⟨hKb, nsK hns, ⟨mb, nsK hb, hbb⟩, let ⟨mc, h1, h2⟩ := hlim; ⟨mc, nsK h1, h2⟩⟩
   have e0 : Env0 P w K mg (hidT s₁.heap H) callerA [] s₁ H := ⟨rfl, hM, fun b o e => of_hidT e, Nat.le_of_eq (hidT_size _ _), trivial, fun b hb => absurd (show b ∈ ([] : List Addr) from hb) (by simp), hok, .of_eq hg⟩
   refine codeAny_mono ((F _ hKb (nsK hns)).run callerA [] s₁ H ⟨[.ref a], []⟩ [.ref a] [.ref a] _ _ hr e0 (hbind s₁ (.ref a)) (.cons rfl .nil) (hsp H hO hS)) fun r s' h => ?_
   cases r with
   | error e => exact (hCX H e s' h).elim
   | ok fl =>
     cases fl with
     | next => exact False.elim h
     | brk => exact False.elim h
     | cont => exact False.elim h
     | ret u =>
       obtain ⟨v, H', os, bare, un, hok', r', q⟩ := h
       have q' : v = .bl true := q
       subst q'
       obtain rfl : u = Value.bool true := r'
       refine ⟨rfl, OldK.of_keep fun b o e => ?_, os, bare⟩
       cases q : H b with
       | none => exact un.keep b o e q (by intro z; exact absurd (show b ∈ ([] : List Addr) from z) (by simp)) (by simp)
       | some u =>
         rcases hO b with z | ⟨ob, xs, z⟩
         · rw [q] at z; cases z
         · have z2 := un.frzs b ob _ z
           obtain ⟨e1, _⟩ := hok b _ z
           obtain ⟨e2, _⟩ := hok' b _ z2
           rw [e] at e1; cases e1
           exact e2
 cases hk : K.lookup a with
 | some o =>
   have e := KX a o hk
   rw [ha] at e
   cases e
   refine core (fun _ => none) (fun _ => .inl rfl) (.inr ⟨_, vs.toArray, _, hk, rfl, rfl, rfl, by rw [List.size_toArray, lenV]; exact hl, by simpa using rv⟩) (fun b u z => by have z' : (none : Option HO) = some u := z; cases z') (fun b z => absurd rfl z) fun z => absurd rfl z
 | none =>
   refine core (fun b => if b = a then some (.frz { cls := .type "list", data := .seq vs.toArray } (.lst (ns.map V.int))) else none) (fun b => ?_) (.inl (.inr ⟨{ cls := .type "list", data := .seq vs.toArray }, if_pos rfl⟩)) (fun b u z => ?_) (fun b z => ?_) fun _ => hk
   · by_cases hb : b = a
     · exact .inr ⟨_, _, if_pos hb⟩
     · exact .inl (if_neg hb)
   · by_cases hb : b = a
     · have z' := (if_pos hb).symm.trans z
       cases z'
       subst hb
       exact ⟨ha, by rw [List.length_map]; exact hl, vs, _, rv, ha⟩
     · have z' := (if_neg hb).symm.trans z
       cases z'
   · by_cases hb : b = a
     · exact hb
     · exact absurd (if_neg hb) z
end L2
namespace L2
open PySem PySem.Spec PyProof.Rows
abbrev KOf {K : PySem.W.Frag} {h : Heap} (_ : K.In h) : PySem.W.Frag := K
theorem walk_of {l : PySem.W.OpenLaw} {n k : Nat} {q : Program} {loose : List Str} {XP : (Str -> Option Value) -> Heap -> Prop} {YP : World -> Heap -> Prop} {d : DefRec} {K : Params -> PySem.W.Frag} {CX : World -> CXT} {sp : World -> Sp} {x : Str}
   (hn : l.most = some n) (hn2 : n <= sizeLine) (hdf : d.params.defaults = []) (hr : Room k callerA)
   (hY : ∀ (w : World) (h : Heap), YP w h -> (K w.params).In h)
   (F : ∀ (w : World) (mg : Str -> Option Value) (fa : Addr) (h : Heap), (K w.params).In h -> h.Ns mainGlobals mg -> mg d.name = some (.ref fa) ->
     ∃ fd : FuncData, (∀ (s : Shared) (u : Value), BindsTo s fd ⟨[u], []⟩ [(x, u)]) /\
       ∀ base : Heap, (K w.params).In base -> base.Ns mainGlobals mg -> FnOk l.prog w (K w.params) mg base (CX w) k fa fd [x] (sp w))
   (hsp : ∀ (w : World) (H : Hp) (a : Addr) (ns : List Int), ns.length <= n -> Only H -> SqL (K w.params) H a (ns.map V.int) -> sp w [.ref a] H (fun v _ => v = .bl true) fun _ _ _ => False)
   (hCX : ∀ (w : World) (H : Hp) (s : Shared) (e : Value) (s' : Shared), CX w [] H s (fun _ _ _ => False) e s' -> False) :
   PySem.W.WalkO q loose XP YP l.row.toRowW d [] (fun f vs => PySem.call f vs) := by
 refine Att.attach_call hn hdf fun w s₀ s₁ mg mb fa o pm cd doc a vs ns G Y ho hd hcd hmg hobj hints hlen hg => ?_
 have KX := hY w _ Y
 obtain ⟨fd, hb, hF⟩ := F w mg fa _ KX G.T.g hmg
 exact law_call KX G.T.g G.T.b G.T.builtins G.T.nolimit hg hobj hints (Nat.le_trans hlen hn2) hr hF hb (fun H hO hS => hsp w H a ns hlen hO hS) fun H e s' => hCX w H s₁ e s'
theorem walk_ofK {l : PySem.W.OpenLaw} {n k : Nat} {q : Program} {loose : List Str} {XP : (Str -> Option Value) -> Heap -> Prop} {YP : World -> Heap -> Prop} {d : DefRec} {K : Params -> PySem.W.Frag} {CX : CXT} {sp : PySem.W.Frag -> Sp} {x : Str}
   (hn : l.most = some n) (hn2 : n <= sizeLine) (hdf : d.params.defaults = []) (hr : Room k callerA)
   (hY : ∀ (w : World) (h : Heap), YP w h -> (K w.params).In h)
   (F : ∀ (w : World) (mg : Str -> Option Value) (fa : Addr) (h : Heap), (K w.params).In h -> h.Ns mainGlobals mg -> mg d.name = some (.ref fa) ->
     ∃ fd : FuncData, (∀ (s : Shared) (u : Value), BindsTo s fd ⟨[u], []⟩ [(x, u)]) /\
       ∀ base : Heap, (K w.params).In base -> base.Ns mainGlobals mg -> FnOk l.prog w (K w.params) mg base CX k fa fd [x] (sp (K w.params)))
   (hsp : ∀ (K : PySem.W.Frag) (H : Hp) (a : Addr) (ns : List Int), ns.length <= n -> Only H -> SqL K H a (ns.map V.int) -> sp K [.ref a] H (fun v _ => v = .bl true) fun _ _ _ => False)
   (hCX : ∀ (H : Hp) (s : Shared) (e : Value) (s' : Shared), CX [] H s (fun _ _ _ => False) e s' -> False) :
   PySem.W.WalkO q loose XP YP l.row.toRowW d [] (fun f vs => PySem.call f vs) :=
 walk_of (K := K) (CX := fun _ => CX) (sp := fun w => sp (K w.params)) hn hn2 hdf hr hY F (fun w H a ns h1 h2 h3 => hsp (K w.params) H a ns h1 h2 h3) fun _ H s e s' => hCX H s e s'
end L2
namespace L2
open PySem PySem.Spec PyProof.Rows
def inClass (s : Stmt) (j : Nat) : Stmt := match s with
 | .ClassDef _ _ _ body _ _ _ _ _ _ _ => body.getD j (.Pass ⟨0, 0, 0, 0⟩)
 | _ => .Pass ⟨0, 0, 0, 0⟩
def defArgs (s : Stmt) : Arguments := match s with
 | .FunctionDef _ a _ _ _ _ _ _ _ _ => a
 | _ => { posonlyargs := [], args := [], vararg := none, kwonlyargs := [], kw_defaults := [], kwarg := none, defaults := [] }
def defBody (s : Stmt) : List Stmt := match s with
 | .FunctionDef _ _ b _ _ _ _ _ _ _ => b
 | _ => []
def defScope (s : Stmt) : Scope := match s with
 | .FunctionDef _ _ _ _ _ _ sc _ _ _ => sc
 | _ => { kind := .function, names := [], isGenerator := false, isCoroutine := false }
abbrev CX0 : CXT := fun _ _ _ _ _ _ => False
abbrev E0 : XK := fun _ _ _ => False
theorem pass0 {X : Cx} : Passes CX0 X E0 := fun _ _ _ _ _ _ _ h => h.elim
structure Fun (K : PySem.W.Frag) (x qual : Str) (st : Stmt) (f : Addr) (fd : FuncData) : Prop where
 ex : ∃ (oc : Value) (od : Option Addr) (kV doc pm : Value) (an : Option Addr) (cdv ct : Value) (osl : Array (Option Value)),
   fd = PySem.W.fnOf x qual (defArgs st) (defBody st) (defScope st) .none kV doc pm an cdv ct /\ K.lookup f = some ⟨oc, od, .func fd, osl⟩ /\ PySem.W.codeIn K cdv qual = true
 kp : PySem.W.keepIn K (.ref f) = true
section
variable {P : Program} {w : World} {K : PySem.W.Frag} {mg : Str -> Option Value} {base : Heap}
theorem Fun.ok {x qual : Str} {st : Stmt} {f : Addr} {fd : FuncData} {N ps : List Str} {k : Nat} {sp : Sp} (F : Fun K x qual st f fd) (S : FnScope N ps (defScope st)) (len : ∀ vs H Q E, sp vs H Q E -> vs.length = ps.length)
   (hbody : ∀ (cdv : Value) (A : Around) (outer : List Env) (s : Shared) (H : Hp) (vs : List V) (Q : VK) (E : XK), Room k (A.deeper (envOfC qual (defScope st) s.heap.objs.size f cdv)) -> sp vs H Q E ->
     ∃ t, PSs (cxOf CX0 P w K mg base N qual (defScope st) f cdv A outer s H E).nox (defBody st) t /\ t { nx := fun _ H' => Q .non H', rt := Q } (start N vs) H) : FnOk P w K mg base CX0 (k + 1) f fd ps sp := by
 obtain ⟨oc, od, kV, doc, pm, an, cdv, ct, osl, rfl, lk, hcd⟩ := F.ex
 refine fn_of lk hcd S len fun A outer s H vs Q E hr hsp => ?_
 obtain ⟨t, h, q⟩ := hbody cdv A outer s H vs Q E hr hsp
 exact ⟨t, h.nox, q⟩
theorem Fun.binds {x qual : Str} {st : Stmt} {f : Addr} {fd : FuncData} {ps : List Str} (F : Fun K x qual st f fd)
   (h : ∀ (kV doc pm : Value) (an : Option Addr) (cdv ct : Value) (us : List Value), us.length = ps.length -> bindArgs (PySem.W.fnOf x qual (defArgs st) (defBody st) (defScope st) .none kV doc pm an cdv ct) ⟨us, []⟩ = pure (ps.zip us)) : Binds K fd ps [] := by
 obtain ⟨oc, od, kV, doc, pm, an, cdv, ct, osl, rfl, lk, hcd⟩ := F.ex
 exact .all (h kV doc pm an cdv ct)
theorem fun_mk {x qual : Str} {st : Stmt} {f : Addr} {oc : Value} {od an : Option Addr} {osl : Array (Option Value)} {kV doc pm cdv ct : Value} (l : K.lookup f = some ⟨oc, od, .func (PySem.W.fnOf x qual (defArgs st) (defBody st) (defScope st) .none kV doc pm an cdv ct), osl⟩)
   (c : PySem.W.codeIn K cdv qual = true) (k : PySem.W.keepIn K (.ref f) = true) : Fun K x qual st f (PySem.W.fnOf x qual (defArgs st) (defBody st) (defScope st) .none kV doc pm an cdv ct) := ⟨⟨oc, od, kV, doc, pm, an, cdv, ct, osl, rfl, l, c⟩, k⟩
end
theorem hu_of {A : Around} {k : Nat} (hr : Room k A) : A.units + 1 < cLine := Nat.lt_of_le_of_lt (Nat.add_le_add_left (by decide : 1 <= 64) _) hr.units
theorem small1000 {n : Nat} (h : n <= 1000) : n < sizeLine := Nat.lt_of_le_of_lt h (by decide)
section
variable {X : Cx}
theorem pv (i : Nat) {x : Str} {pos : Pos} (hN : X.N[i]? = some x := by rfl) (hv : Vis X.env.scope x := by first | exact Or.inl rfl | exact Or.inr (Or.inl rfl) | exact Or.inr (Or.inr rfl)) (hd : (x == ("__debug__" : Str)) = false := by decide)
   (hcd : (x == ("__classdict__" : Str)) = false := by decide) : PE X (.Name x pos) (tVar i) := pe_var hN hv hd hcd
end
theorem iteF {A B : Prop} (h : B) : if false = true then A else B := by
 rw [if_neg Bool.false_ne_true]
 exact h
theorem iteT {A B : Prop} (h : A) : if true = true then A else B := by
 rw [if_pos rfl]
 exact h
theorem ite2 {c A B : Prop} [Decidable c] (h1 : c -> A) (h2 : ¬ c -> B) : if c then A else B := by
 by_cases h : c
 · rw [if_pos h]
   exact h1 h
 · rw [if_neg h]
   exact h2 h
theorem iteNS {c A B : Prop} [Decidable c] (hc : c) (h : B) : if (!decide c) = true then A else B := by
 rw [decide_eq_true hc]
 exact iteF h
def Same (H H' : Hp) : Prop := ∀ b o, H b = some o -> H' b = some o
theorem Same.refl (H : Hp) : Same H H := fun _ _ h => h
theorem Same.trans {H H1 H2 : Hp} (a : Same H H1) (b : Same H1 H2) : Same H H2 := fun c o h => b c o (a c o h)
theorem Same.free {H H' : Hp} (e : Same H H') {l : Addr} (h : H' l = Option.none) : H l = Option.none := by
 cases q : H l with
 | none => rfl
 | some o =>
   rw [e l o q] at h
   cases h
theorem Same.seq {K : PySem.W.Frag} {H H' : Hp} {a : Addr} {xs : List V} (e : Same H H') (h : SqL K H a xs) : SqL K H' a xs := by
 rcases h with (h | ⟨o, h⟩) | h
 · exact .inl (.inl (e _ _ h))
 · exact .inl (.inr ⟨o, e _ _ h⟩)
 · exact .inr h
end L2
namespace L2
open PySem PySem.Spec PyProof.Rows
def FpS (X : Cx) (pins : List (Addr × Obj)) (b : Addr) : Prop :=
 b ≠ X.env.locals /\ b ∉ X.fs /\ (b ∈ X.ex ∨ X.s₀.heap.objs.size <= b) /\ (∀ x c, X.env.cells.lookup x = some c -> c ≠ b) /\ ∀ p ∈ X.pn ++ pins, p.1 ≠ b
def lobj (its : List Value) (n : Nat) : Obj := { cls := .type "list", data := .seq its.toArray n }
def AccP (X : Cx) (pins : List (Addr × Obj)) (l : Addr) (Q : St -> Hp -> List V -> Prop) (s' : Shared) : Prop :=
 ∃ σ' H' acc its n, Inv X (pins ++ [(l, lobj its n)]) σ' H' s' /\ Vals acc its /\ acc.length <= sizeLine /\ Q σ' H' acc
abbrev TB := St -> Hp -> List V -> (St -> Hp -> List V -> Prop) -> Prop
def PB (X : Cx) (m : Value -> Sem Unit) (tb : TB) : Prop :=
 ∀ (pins : List (Addr × Obj)) (s : Shared) (σ : St) (H : Hp) (l : Addr) (acc : List V) (its : List Value) (n : Nat) (Q : St -> Hp -> List V -> Prop), Inv X (pins ++ [(l, lobj its n)]) σ H s -> FpS X pins l -> Vals acc its -> acc.length <= sizeLine -> tb σ H acc Q ->
   wpAny (model X.prog X.w) X.A (m (.ref l)) (fun _ s' => AccP X pins l Q s') X.xe s
def tEmit (te : TE) : TB := fun σ H acc Q => te σ H fun y H1 => acc.length < sizeLine /\ Q σ H1 (acc ++ [y])
section
variable {X : Cx}
theorem Inv.accUpd {pins : List (Addr × Obj)} {s : Shared} {σ : St} {H : Hp} {l : Addr} {its its' : List Value} {n n' : Nat} {h' : Heap} {t' : Nat} (I : Inv X (pins ++ [(l, lobj its n)]) σ H s) (hl : FpS X pins l)
   (sb : Heap.SameBut l s.heap h') (e : h'.get? l = some (lobj its' n')) : Inv X (pins ++ [(l, lobj its' n')]) σ H { s with heap := h', toks := t' } := by
 obtain ⟨p1, p2, p3, p4, p5⟩ := I.pin (l, lobj its n) (by simp)
 have I0 : Inv X pins σ H s := I.unpinned
 have I1 : Inv X pins σ H { s with heap := h', toks := t' } := I0.turned (it := l) (fun b o hb q => (sb.2 b hb).trans q) p2 hl.1 hl.2.2.1 hl.2.2.2.1 hl.2.2.2.2
 refine I1.pins_of fun p hp => ?_
 rcases List.mem_append.mp hp with hp | hp
 · exact I1.pin p (List.mem_append_right _ hp)
 · obtain rfl : p = (l, lobj its' n') := by simpa using hp
   exact ⟨e, p2, hl.1, hl.2.1, fun v z => by cases z⟩
theorem pb_emit {elt : Expr} {te : TE} (he : PE X elt te) : PB X (fun a => eval elt X.env >>= fun x => call (.builtin "list.append") [a, x] >>= fun _ => pure ()) (tEmit te) := by
 intro pins s σ H l acc its n Q I hl rv hz h
 refine wpAny_bind (thn (he _ s σ H _ I h) fun u s1 ⟨y, H1, I1, r1, hz1, q1⟩ => ?_)
 obtain ⟨p1, _⟩ := I1.pin (l, lobj its n) (by simp)
 refine wpAny_bind (wpAny_list_append_plain (items := its.toArray) ⟨n, p1⟩ (fun h' ⟨n', e'⟩ sb => wpAny_pure ?_) ?_)
 · have e2 : h'.get? l = some (lobj (its ++ [u]) n') := by rw [e']; simp [lobj]
   exact ⟨σ, H1, acc ++ [y], its ++ [u], n', I1.accUpd (t' := s1.toks) hl sb e2, rv.append (.cons r1 .nil), by rw [List.length_append]; exact hz1, q1⟩
 · have := rv.length
   simp; omega
def PIf (X : Cx) (ifs : List Expr) (tt : TT) : Prop :=
 ∀ (pins : List (Addr × Obj)) (s : Shared) (σ : St) (H : Hp) (Q : Bool -> Hp -> Prop), Inv X pins σ H s -> tt σ H Q ->
   wpAny (model X.prog X.w) X.A (forIn ifs true fun c r => if r = true then do let ok <- isTrue c X.env (eval c X.env); pure (ForInStep.yield ok) else pure (ForInStep.yield r)) (TP X pins σ Q) X.xe s
def tYes : TT := fun _ H Q => Q true H
theorem pif_nil : PIf X [] tYes := fun pins s σ H Q I h => wpAny_tests_nil ⟨H, I, h⟩
theorem pif_one {c : Expr} {tt : TT} (h : PT X c tt) : PIf X [c] tt := fun pins s σ H Q I hq => wpAny_tests_one (h pins s σ H Q I hq)
theorem mem_sw {α : Type} {a b c d : List α} {p : α} (h : p ∈ (a ++ b) ++ c) : p ∈ d ++ ((a ++ c) ++ b) := by
 simp only [List.mem_append] at h ⊢
 rcases h with (h | h) | h
 · exact .inr (.inl (.inl h))
 · exact .inr (.inr h)
 · exact .inr (.inl (.inr h))
theorem mem_dr {α : Type} {a b c d : List α} {p : α} (h : p ∈ a ++ c) : p ∈ d ++ ((a ++ b) ++ c) := by
 simp only [List.mem_append] at h ⊢
 rcases h with h | h
 · exact .inr (.inl (.inl h))
 · exact .inr (.inr h)
def lpW (g : TG) (tt : TT) (tb : TB) (J : It) : TB := fun σ H acc Q => ∃ W : Nat -> Nat -> St -> Hp -> List V -> Prop, (∃ m, W 0 m σ H acc) /\ ∀ i m σ H acc, W i m σ H acc ->
 (J.stop i H /\ Q σ H acc) ∨ (J.go i H /\ ∃ N : St -> Hp -> List V -> Prop, (∀ σ' H' acc', N σ' H' acc' -> ∃ m', m' < m /\ W (i + 1) m' σ' H' acc') /\
   ∀ x H', J.yld i H x H' -> g x σ H' fun σ2 H2 => tt σ2 H2 fun b H3 => if b = true then tb σ2 H3 acc N else N σ2 H3 acc)
def compT (tg iter : Expr) (ifs : List Expr) (env : Env) (m : Sem Unit) (c : Code) (it : Value) : Sem PySem.Fin := do
 standAt iter.pos
 match <- pyNext it with
 | none => pure (.done .next)
 | some v =>
   letOwnedTupleGo tg it v
   assign tg env v
   let mut ok := true
   for c in ifs do
     if ok then ok <- isTrue c env (eval c env)
   if ok then m
   again c
theorem loop_run {tg iter : Expr} {ifs : List Expr} {g : TG} {tt : TT} {tb : TB} {m : Value -> Sem Unit} {c : Value -> Value -> Code} (hx : X.xe = fun _ _ => False) (hcalm : X.calm = true) (hg : PG X tg g) (ht : PIf X ifs tt) (hb : PB X m tb)
   (hq : ∀ it acc, (c it acc).quiet = true) (hA : ∀ it acc, X.A.under (c it acc) = X.A) (hd : ∀ it acc, ∃ f, (model X.prog X.w).den (c it acc) = (compT tg iter ifs X.env (m acc) (c it acc) it).onRaise f)
   {pins : List (Addr × Obj)} {s : Shared} {σ : St} {H : Hp} {l : Addr} {acc : List V} {its : List Value} {n : Nat} {Q : St -> Hp -> List V -> Prop} {it : Addr} {fp : List Addr} {tn : Nat -> Heap -> Prop} {J : It}
   (I : Inv X (pins ++ [(l, lobj its n)]) σ H s) (hl : FpS X pins l) (rv : Vals acc its) (hz : acc.length <= sizeLine) (T : Turn X.prog X.w X.K tg J fp it tn) (st : tn 0 s.heap) (hf : ∀ b ∈ fp, FpOk X (pins ++ [(l, lobj its n)]) H b)
   (h : lpW g tt tb J σ H acc Q) : codeAny (model X.prog X.w) X.A (c (.ref it) (.ref l)) (fun r s' => r = .ok .next /\ AccP X pins l Q s') s := by
 obtain ⟨W, ⟨m0, w0⟩, turn⟩ := h
 have hlf : l ∉ fp := fun z => (hf l z).2.2.2.2.2 (l, lobj its n) (by simp) rfl
 have fpS : ∀ b ∈ fp, FpS X pins b := fun b hb => by
   obtain ⟨f0, f1, f2, f3, f4, f5⟩ := hf b hb
   exact ⟨f1, f2, f3, f4, fun p hp => f5 p (by rcases List.mem_append.mp hp with z | z <;> simp [z])⟩
 have stat : ∀ {H' : Hp} {its' : List Value} {n' : Nat}, (∀ b ∈ fp, H' b = none) -> ∀ b ∈ fp, FpOk X (pins ++ [(l, lobj its' n')]) H' b := fun {H' its' n'} hn b hb => by
   obtain ⟨f1, f2, f3, f4, f5⟩ := fpS b hb
   refine ⟨hn b hb, f1, f2, f3, f4, fun p hp => ?_⟩
   rcases List.mem_append.mp hp with z | z
   · exact f5 p (by simp [z])
   · rcases List.mem_append.mp z with z | z
     · exact f5 p (by simp [z])
     · obtain rfl : p = (l, lobj its' n') := by simpa using z
       exact fun e => hlf (by rw [show l = b from e]; exact hb)
 refine codeAny_loop (hq _ _) (fun k s' => ∃ i σ' H' acc' its' n', Inv X (pins ++ [(l, lobj its' n')]) σ' H' s' /\ Vals acc' its' /\ acc'.length <= sizeLine /\ tn i s'.heap /\ (∀ b ∈ fp, H' b = none) /\ W i k σ' H' acc') ?_ m0
   ⟨0, σ, H, acc, its, n, I, rv, hz, st, fun b hb => (hf b hb).1, w0⟩
 rintro k s3 ⟨i, σ3, H3, acc3, its3, n3, I3, rv3, hz3, st3, fr3, w3⟩
 rw [hA]
 obtain ⟨f, hf⟩ := hd (.ref it) (.ref l)
 rw [hf]
 refine wpAny_onRaise (wpAny_mono (E := fun _ _ => False) ?_ (fun _ _ q => q) fun _ _ z => z.elim)
 unfold compT
 refine wpAny_bind (wpAny_standAt (wpAny_bind ?_))
 have hxe : ∀ {α : Type} {t : Sem α} {Q' : α -> Shared -> Prop} {s' : Shared}, wpAny (model X.prog X.w) X.A t Q' X.xe s' -> wpAny (model X.prog X.w) X.A t Q' (fun _ _ => False) s' := fun h => by rw [hx] at h; exact h
 rcases turn i k σ3 H3 acc3 w3 with ⟨stop, qn⟩ | ⟨go, N, hN, step⟩
 · refine thn (T.done X rfl rfl rfl hcalm i _ s3 σ3 H3 _ I3 (stat fr3) st3 stop) fun r s4 ⟨hr, I4⟩ => ?_
   subst hr
   exact wpAny_pure ⟨rfl, σ3, H3, acc3, its3, n3, I4, rv3, hz3, qn⟩
 · refine thn (T.item X rfl rfl rfl hcalm i _ s3 σ3 H3 _ I3 (stat fr3) st3 go) fun r s4 ⟨u, hr, h4⟩ => ?_
   subst hr
   refine wpAny_bind (thn h4 fun _ s5 ⟨x, H5, I5, r5, y5, st5, fr5⟩ => ?_)
   have ob := T.obj _ _ st5
   have I5' : Inv X ((pins ++ pinsAt fp s5.heap) ++ [(l, lobj its3 n3)]) σ3 H5 s5 := by
     have J5 := I5.pinned (stat fr5) ob
     refine J5.pins_of fun p hp => J5.pin p ?_
     exact mem_sw hp
   have hlp : FpS X (pins ++ pinsAt fp s5.heap) l := by
     obtain ⟨f1, f2, f3, f4, f5⟩ := hl
     refine ⟨f1, f2, f3, f4, fun p hp => ?_⟩
     simp only [List.mem_append] at hp
     rcases hp with z | z | z
     · exact f5 p (by simp [z])
     · exact f5 p (by simp [z])
     · exact fun e => hlf (e ▸ (of_pinsAt z).1)
   refine wpAny_bind (thn (hxe (hg _ s5 σ3 H5 x u _ I5' r5 (step x H5 y5))) fun _ s6 ⟨σ6, H6, I6, q6⟩ => ?_)
   refine wpAny_bind (thn (hxe (ht _ s6 σ6 H6 _ I6 q6)) fun ok s7 ⟨H7, I7, q7⟩ => ?_)
   have again : ∀ {s8 : Shared} {σ8 : St} {H8 : Hp} {acc8 : List V} {its8 : List Value} {n8 : Nat}, Inv X ((pins ++ pinsAt fp s5.heap) ++ [(l, lobj its8 n8)]) σ8 H8 s8 -> Vals acc8 its8 -> acc8.length <= sizeLine -> N σ8 H8 acc8 ->
       ∃ m, m < k /\ ∃ i σ' H' acc' its' n', Inv X (pins ++ [(l, lobj its' n')]) σ' H' s8 /\ Vals acc' its' /\ acc'.length <= sizeLine /\ tn i s8.heap /\ (∀ b ∈ fp, H' b = none) /\ W i m σ' H' acc' := fun {s8 σ8 H8 acc8 its8 n8} I8 rv8 hz8 n8' => by
     obtain ⟨m', hm, w8⟩ := hN σ8 H8 acc8 n8'
     have pinOf : ∀ b o, b ∈ fp -> s5.heap.get? b = some o -> s8.heap.get? b = some o /\ H8 b = none := fun b o hb e => by
       have z := I8.pin (b, o) (by simp only [List.mem_append]; exact .inr (.inl (.inr (mem_pinsAt hb e))))
       exact ⟨z.1, z.2.1⟩
     refine ⟨m', hm, i + 1, σ8, H8, acc8, its8, n8, I8.pins_of fun p hp => I8.pin p ?_, rv8, hz8, T.keep _ _ _ st5 fun b hb o e => (pinOf b o hb e).1, fun b hb => ?_, w8⟩
     · exact mem_dr hp
     · obtain ⟨o, e, d⟩ := ob b hb
       exact (pinOf b o hb e).2
   cases ok with
   | false =>
     refine wpAny_bind (wpAny_pure (wpAny_pure ?_))
     exact ⟨rfl, again I7 rv3 hz3 q7⟩
   | true =>
     refine wpAny_bind (thn (hxe (hb _ s7 σ6 H7 l acc3 its3 n3 N I7 hlp rv3 hz3 q7)) fun _ s8 ⟨σ8, H8, acc8, its8, n8, I8, rv8, hz8, q8⟩ => wpAny_pure ?_)
     exact ⟨rfl, again I8 rv8 hz8 q8⟩
end
end L2
namespace L2
open PySem PySem.Spec PyProof.Rows
def closL (cells : List (Str × Addr)) : List (Str × NameKind) -> List (Str × Addr) -> List (Str × Addr)
 | [], cs => cs
 | (n, k) :: r, cs => closL cells r (if k == .free then (match cells.lookup n with | some c => (n, c) :: cs | none => cs) else cs)
theorem closL_sound {cells : List (Str × Addr)} {x : Str} {c : Addr} : ∀ {ns : List (Str × NameKind)} {cs : List (Str × Addr)}, (∀ y d, cs.lookup y = some d -> cells.lookup y = some d) -> (closL cells ns cs).lookup x = some c -> cells.lookup x = some c
 | [], cs, h, e => h x c e
 | (n, k) :: r, cs, h, e => by
   unfold closL at e
   refine closL_sound (ns := r) (cs := _) ?_ e
   intro y d hy
   split at hy
   · cases q : cells.lookup n with
     | none => rw [q] at hy; exact h y d hy
     | some c' =>
       rw [q] at hy
       simp only [List.lookup_cons] at hy
       split at hy
       · rename_i heq
         have e1 : y = n := by simpa using heq
         cases hy
         rw [e1]; exact q
       · exact h y d hy
   · exact h y d hy
theorem closL_keep {cells : List (Str × Addr)} {x : Str} : ∀ {ns : List (Str × NameKind)} {cs : List (Str × Addr)}, (∃ c, cs.lookup x = some c) -> ∃ c, (closL cells ns cs).lookup x = some c
 | [], cs, h => h
 | (n, k) :: r, cs, h => by
   unfold closL
   refine closL_keep (ns := r) ?_
   split
   · cases q : cells.lookup n with
     | none => exact h
     | some c' =>
       simp only [List.lookup_cons]
       split
       · exact ⟨_, rfl⟩
       · exact h
   · exact h
theorem closL_has {cells : List (Str × Addr)} {x : Str} {c : Addr} (hc : cells.lookup x = some c) : ∀ {ns : List (Str × NameKind)} {cs : List (Str × Addr)}, (x, NameKind.free) ∈ ns -> ∃ c, (closL cells ns cs).lookup x = some c
 | [], cs, h => by cases h
 | (n, k) :: r, cs, h => by
   unfold closL
   rcases List.mem_cons.mp h with e | h
   · cases e
     refine closL_keep ?_
     rw [hc]
     simp
   · exact closL_has hc h
theorem closureFor_eq {scope : Scope} {env : Env} (h : ∀ y ∈ scope.names, y.2 = .free -> ∃ c, env.cells.lookup y.1 = some c) : closureFor scope env = pure (closL env.cells scope.names []) := by
 have go : ∀ (ns : List (Str × NameKind)) (cs : List (Str × Addr)), (∀ y ∈ ns, y.2 = .free -> ∃ c, env.cells.lookup y.1 = some c) ->
     (forIn ns cs fun (x : Str × NameKind) r => match x with | (name, kind) => if (kind == .free) = true then do let a <- cellOf env name; pure (ForInStep.yield ((name, a) :: r)) else pure (ForInStep.yield r) : Sem _) = pure (closL env.cells ns cs) := by
   intro ns
   induction ns with
   | nil => intro cs _; rfl
   | cons x r ih =>
     intro cs hh
     obtain ⟨n, k⟩ := x
     rw [List.forIn_cons]
     by_cases hk : (k == NameKind.free) = true
     · have hk' : k = .free := by simpa using hk
       obtain ⟨c, hc⟩ := hh (n, k) List.mem_cons_self hk'
       have e1 : cellOf env n = pure c := by unfold cellOf; rw [show env.cells.lookup n = some c from hc]
       show (if (k == NameKind.free) = true then _ else _) >>= _ = _
       rw [if_pos hk, e1]
       refine Eq.trans (ih ((n, c) :: cs) fun y hy => hh y (List.mem_cons_of_mem _ hy)) ?_
       conv => rhs; unfold closL
       rw [if_pos hk, show env.cells.lookup n = some c from hc]
     · show (if (k == NameKind.free) = true then _ else _) >>= _ = _
       rw [if_neg hk]
       refine Eq.trans (ih cs fun y hy => hh y (List.mem_cons_of_mem _ hy)) ?_
       conv => rhs; unfold closL
       rw [if_neg hk]
 unfold closureFor
 have := go scope.names [] h
 refine Eq.trans (congrArg (fun m => m >>= fun cs => pure cs) this) rfl
def compCx (X : Cx) (scope : Scope) (ts : List Str) (ix : List Nat) (C : Addr) (s2 : Shared) (H2 : Hp) (fp : List Addr) : Cx where
 prog := X.prog
 w := X.w
 K := X.K
 mg := X.mg
 base := X.base
 A := X.A
 N := ts ++ ix.map fun j => X.N.getD j Str.empty
 s₀ := s2
 H₀ := H2
 env := compEnvC scope (closL X.env.cells scope.names []) C X.env
 outer := X.stack
 stack := X.stack
 ex := fp
 fn := fun _ => false
 calm := X.calm
 pn := []
 xe := fun _ _ => False
def cst (nt : Nat) (ix : List Nat) (σ : St) : St := List.replicate nt none ++ ix.map fun j => σ.getD j none
structure CompScope (X : Cx) (scope : Scope) (ts : List Str) (ix : List Nat) : Prop where
 kind : scope.kind = .function
 nocell : (scope.names.all fun y => y.2 != .cell) = true
 names : (scope.names.all fun y => y.2 != .local || scope.names.lookup y.1 == some .local) = true
 free : (scope.names.all fun y => y.2 != .free || (X.env.kindOf y.1 == some .cell || X.env.kindOf y.1 == some .free)) = true
 caps : (ix.all fun j => decide (j < X.N.length) && (scope.names.lookup (X.N.getD j Str.empty) == some .free)) = true
theorem lookup_relabel_free {env : Env} : ∀ {names : List (Str × NameKind)} {x : Str}, names.lookup x = some .free ->
   (names.map fun (n, k) => if (k == NameKind.free && env.scope.kind == .function && env.kindOf n == some .cell) then (n, NameKind.cell) else (n, k)).lookup x = some .cell ∨
   (names.map fun (n, k) => if (k == NameKind.free && env.scope.kind == .function && env.kindOf n == some .cell) then (n, NameKind.cell) else (n, k)).lookup x = some .free
 | [], _, h => by simp at h
 | (n, k) :: r, x, h => by
   have ih := @lookup_relabel_free env r x
   rw [List.map_cons]
   show List.lookup x ((if (k == NameKind.free && env.scope.kind == .function && env.kindOf n == some .cell) = true then (n, NameKind.cell) else (n, k)) :: _) = _ ∨ List.lookup x ((if (k == NameKind.free && env.scope.kind == .function && env.kindOf n == some .cell) = true then (n, NameKind.cell) else (n, k)) :: _) = _
   cases hx : x == n with
   | true =>
     simp only [List.lookup_cons, hx] at h
     cases h
     split <;> simp [List.lookup_cons, hx]
   | false =>
     simp only [List.lookup_cons, hx] at h
     split <;> (simp only [List.lookup_cons, hx]; exact ih h)
theorem lookup_relabel_back {env : Env} : ∀ {names : List (Str × NameKind)} {x : Str}, (∀ y ∈ names, y.2 ≠ .cell) ->
   ((names.map fun (n, k) => if (k == NameKind.free && env.scope.kind == .function && env.kindOf n == some .cell) then (n, NameKind.cell) else (n, k)).lookup x = some .cell ∨
   (names.map fun (n, k) => if (k == NameKind.free && env.scope.kind == .function && env.kindOf n == some .cell) then (n, NameKind.cell) else (n, k)).lookup x = some .free) -> (x, NameKind.free) ∈ names
 | [], _, _, h => by simp at h
 | (n, k) :: r, x, hn, h => by
   have ih := @lookup_relabel_back env r x fun y hy => hn y (List.mem_cons_of_mem _ hy)
   have hk := hn (n, k) List.mem_cons_self
   rw [List.map_cons] at h
   change List.lookup x ((if (k == NameKind.free && env.scope.kind == .function && env.kindOf n == some .cell) = true then (n, NameKind.cell) else (n, k)) :: _) = _ ∨ List.lookup x ((if (k == NameKind.free && env.scope.kind == .function && env.kindOf n == some .cell) = true then (n, NameKind.cell) else (n, k)) :: _) = _ at h
   cases hx : x == n with
   | true =>
     have e : x = n := by simpa using hx
     subst e
     have kf : k = .free := by
       split at h
       · rename_i hc
         simp only [Bool.and_eq_true, beq_iff_eq] at hc
         exact hc.1.1
       · simp only [List.lookup_cons, hx] at h
         rcases h with h | h
         · cases h; exact absurd rfl hk
         · cases h; rfl
     rw [kf]; exact List.mem_cons_self
   | false =>
     refine List.mem_cons_of_mem _ (ih ?_)
     split at h <;> (simp only [List.lookup_cons, hx] at h; exact h)
theorem mem_of_lookupL {α : Type} : ∀ {l : List (Str × α)} {x : Str} {a : α}, l.lookup x = some a -> (x, a) ∈ l := fun h => PySem.mem_of_lookup h
section
variable {X : Cx} {pins : List (Addr × Obj)} {σ : St} {H : Hp} {s : Shared} {scope : Scope} {ts : List Str} {ix : List Nat}
theorem comp_start {l C : Addr} {fp : List Addr} {h4 : Heap} {tk : Nat} (I : Inv X pins σ H s) (S : CompScope X scope ts ix) (hcalm : X.calm = true)
   (hf : ∀ b ∈ fp, FpOk X pins H b) (ho : ∀ b ∈ fp, ∃ o, s.heap.get? b = some o) (keep : ∀ b o, s.heap.get? b = some o -> h4.get? b = some o) (hl : h4.get? l = some (lobj [] 0)) (hls : s.heap.objs.size <= l) (hC : s.heap.objs.size <= C) (hlC : l ≠ C)
   (ns : h4.Ns C fun _ => none) : Inv (compCx X scope ts ix C s H fp) ([] ++ [(l, lobj [] 0)]) (cst ts.length ix σ) H { s with heap := h4, toks := tk } := by
 have nocell : ∀ y ∈ scope.names, y.2 ≠ .cell := fun y hy => by simpa using List.all_eq_true.mp S.nocell y hy
 have cl_in : ∀ {x c}, (closL X.env.cells scope.names []).lookup x = some c -> X.env.cells.lookup x = some c := fun {x c} e => closL_sound (fun y d z => by simp at z) e
 have fre : ∀ y ∈ scope.names, y.2 = .free -> X.env.kindOf y.1 = some .cell ∨ X.env.kindOf y.1 = some .free := fun y hy e => by
   have := List.all_eq_true.mp S.free y hy
   simpa [e] using this
 have fpsz : ∀ b ∈ fp, b < s.heap.objs.size := fun b hb => let ⟨o, e⟩ := ho b hb; Heap.lt_size e
 have freshH : ∀ b, s.heap.objs.size <= b -> H b = none := fun b hb => I.hok.fresh hb
 have ok' : (compCx X scope ts ix C s H fp).Ok := by
   refine ⟨I.ok.mod, S.kind, I.ok.glob, I.ok.blt, hC, fun x y c h1 h2 => I.ok.inj x y c (cl_in h1) (cl_in h2), fun x hx => ?_, fun x c z => (by cases z), I.ok.hd, I.ok.frames, .inl rfl, fun b hb => ⟨?_, fun x c e => ?_⟩, I.bs, Nat.le_trans I.ok.bsz I.sz, fun b o e hb => ?_, fun b hb hs => ?_, I.stack, I.stkFree⟩
   · have hm := lookup_relabel_back nocell hx
     obtain ⟨c, hc⟩ := I.ok.has x (fre _ hm rfl)
     exact closL_has hc hm
   · exact Nat.ne_of_lt (Nat.lt_of_lt_of_le (fpsz b hb) hC)
   · exact (hf b hb).2.2.2.2.1 x c (cl_in e)
   · rcases (hf b hb).2.2.2.1 with z | z
     · exact I.ok.noex b o e z
     · exact absurd (Nat.lt_of_lt_of_le (Heap.lt_size e) (Nat.le_trans I.ok.bsz z)) (Nat.lt_irrefl _)
   · rcases List.mem_cons.mp (I.stkSub b hs) with z | z
     · exact (hf b hb).2.1 z
     · exact (hf b hb).2.2.1 z
 refine ⟨ok', rfl, I.bare, Un.kept keep, ⟨_, ns, fun i x v e1 e2 e3 => ?_⟩, fun x c e => ?_, freshH C hC, fun x c e => I.freeC x c (cl_in e), fun p hp => ?_, I.hok.kept keep, ?_⟩
 · -- a captured name
   have e2' : (List.replicate ts.length (none : Option V) ++ ix.map fun j => σ.getD j none)[i]? = some (some v) := e2
   have e1' : (ts ++ ix.map fun j => X.N.getD j Str.empty)[i]? = some x := e1
   by_cases hi : i < ts.length
   · rw [List.getElem?_append_left (by simpa using hi)] at e2'
     rw [List.getElem?_replicate] at e2'
     rw [if_pos hi] at e2'
     cases e2'
   · rw [List.getElem?_append_right (by simpa using hi), List.length_replicate, List.getElem?_map] at e2'
     rw [List.getElem?_append_right (by omega), List.getElem?_map] at e1'
     cases hj : ix[i - ts.length]? with
     | none => rw [hj] at e1'; cases e1'
     | some j =>
       rw [hj] at e1' e2'
       have e1'' : X.N.getD j Str.empty = x := Option.some.inj e1'
       have e2'' : σ.getD j none = some v := Option.some.inj e2'
       have hcap := List.all_eq_true.mp S.caps j (List.mem_of_getElem? hj)
       simp only [Bool.and_eq_true, decide_eq_true_eq, beq_iff_eq] at hcap
       obtain ⟨hjl, hfree⟩ := hcap
       rw [e1''] at hfree
       have eN : X.N[j]? = some x := by rw [<- e1'']; simp [List.getD_eq_getElem?_getD, hjl]
       have eσ : σ[j]? = some (some v) := by
         rw [List.getD_eq_getElem?_getD] at e2''
         cases q : σ[j]? with
         | none => rw [q] at e2''; cases e2''
         | some z => rw [q] at e2''; exact congrArg some e2''
       have hm := mem_of_lookupL hfree
       have hk := fre _ hm rfl
       obtain ⟨m, hn, hlk⟩ := I.loc
       obtain ⟨u, r, lk⟩ := hlk j x v eN eσ (hk.elim (fun z => .inr (.inl z)) fun z => .inr (.inr z))
       refine ⟨u, r, .inr ⟨lookup_relabel_free hfree, ?_⟩⟩
       rcases lk with ⟨z, _⟩ | ⟨_, c, hc, cell⟩
       · rcases hk with k | k <;> · rw [show X.env.kindOf x = some .local from z] at k; cases k
       · obtain ⟨c', hc'⟩ := closL_has (cs := []) hc hm
         have : c' = c := Option.some.inj ((cl_in hc').symm.trans hc)
         subst this
         obtain ⟨o, eo, d⟩ := cell
         exact ⟨c', hc', o, keep _ _ eo, d⟩
 · obtain ⟨v, o, eo, d⟩ := I.cell x c (cl_in e)
   exact ⟨v, o, keep _ _ eo, d⟩
 · obtain rfl : p = (l, lobj [] 0) := by simpa [compCx] using hp
   refine ⟨hl, freshH l hls, hlC, fun z => ?_, fun v z => by cases z⟩
   rcases List.mem_cons.mp (I.stkSub l z) with e | e
   · exact absurd (Nat.lt_of_lt_of_le I.lt hls) (by rw [e]; exact Nat.lt_irrefl _)
   · exact I.nofs hls e
 · show (List.replicate ts.length none ++ ix.map _).length = (ts ++ ix.map _).length
   simp
theorem comp_end {l C : Addr} {fp : List Addr} {s' : Shared} {h' : Heap} {σ' : St} {H' : Hp} {acc : List V} {its : List Value} {n : Nat} (I : Inv X pins σ H s) (hf : ∀ b ∈ fp, FpOk X pins H b) (hls : s.heap.objs.size <= l) (hC : s.heap.objs.size <= C)
   (J : Inv (compCx X scope ts ix C s H fp) ([] ++ [(l, lobj its n)]) σ' H' s') (rv : Vals acc its) (hz : acc.length <= sizeLine) (sb : ∀ b, b ≠ C -> h'.get? b = s'.heap.get? b) :
   Inv X pins σ (upd H' l (.lst acc)) { s' with heap := h' } := by
 obtain ⟨p1, p2, p3, p4, p5⟩ := J.pin (l, lobj its n) (by simp)
 have p1 : s'.heap.get? l = some (lobj its n) := p1
 have p2 : H' l = none := p2
 have p3 : l ≠ C := p3
 have fC : H' C = none := J.free
 have Hl : H l = none := I.hok.fresh hls
 have old : ∀ {b o}, s.heap.get? b = some o -> b ≠ C /\ b ≠ l := fun {b o} e => ⟨Nat.ne_of_lt (Nat.lt_of_lt_of_le (Heap.lt_size e) hC), Nat.ne_of_lt (Nat.lt_of_lt_of_le (Heap.lt_size e) hls)⟩
 have B : Un (frs X.stack) fp H H' s.heap s'.heap := J.base
 refine I.call' (s' := { s' with heap := h' }) (ch := fp) J.os ⟨fun b o e n hb hx => ?_, fun b o e n hb hx => ?_, fun b o e n hx => ?_, fun b o e hx => ?_, fun b xs e => ?_, fun b o xs e => ?_, fun b ps e => ?_⟩ (fun b u e => ?_) J.bare fun b hb => ?_
 · exact (sb b (old e).1).trans (B.keep b o e n hb hx)
 · obtain ⟨sl, q⟩ := B.slot b o e n hb hx
   exact ⟨sl, (sb b (old e).1).trans q⟩
 · rw [upd_ne (old e).2]; exact B.free b o e n hx
 · obtain ⟨o', q⟩ := B.there b o e hx
   exact ⟨o', (sb b (old e).1).trans q⟩
 · have q := B.tups b xs e
   rw [upd_ne (ne_of_none q p2)]; exact q
 · have q := B.frzs b o xs e
   rw [upd_ne (ne_of_none q p2)]; exact q
 · obtain ⟨m, q⟩ := B.tbls b ps e
   exact ⟨m, by rw [upd_ne (ne_of_none q p2)]; exact q⟩
 · by_cases hb : b = l
   · subst hb
     rw [upd_same] at e
     cases e
     exact ⟨hz, its, n, rv, (sb b p3).trans p1⟩
   · rw [upd_ne hb] at e
     refine (J.hok b u e).stay (fun c v hc q => (sb c ?_).trans q) (fun c q => by rw [upd_ne (ne_of_none q p2)]; exact q) fun c xs q => by rw [upd_ne (ne_of_none q p2)]; exact q
     rcases hc with rfl | hc
     · exact ne_of_none e fC
     · exact ne_of_none hc fC
 · obtain ⟨f0, f1, f2, f3, f4, f5⟩ := hf b hb
   exact ⟨f3, f1, f4, f5⟩
end
end L2
namespace L2
open PySem PySem.Spec PyProof.Rows
theorem compStart_any {prog : Program} {w : World} {A : Around} {R : Result -> Shared -> Prop} {s : Shared} {elt : Expr} {gens : List Comprehension} {scope : Scope} {pos : Pos} {it acc : Value} {env : Env} {d : Nat} {g : Comprehension} (hg : gens[d]? = some g) (ha : g.is_async = 0)
   (h0 : codeAny (model prog w) A (.compLoop (.ListComp elt gens scope pos) d it acc env) R s)
   (h : wpAny (model prog w) A (pyIter it) (fun it' s' => codeAny (model prog w) A (.compLoop (.ListComp elt gens scope pos) d it' acc env) R s')
     (notedBy (model prog w) A env fun x s' => R (.error x) s') s) :
   codeAny (model prog w) A (.compStart (.ListComp elt gens scope pos) d it acc env) R s := by
 refine codeAny_of_tree ?_
 show wpAny _ _ ((compStart (.ListComp elt gens scope pos) d it acc env).onRaise (fun x => do noteFrame x env; standAt theWindowsPlace)) _ _ s
 refine wpAny_notedAt ?_
 have e : compStart (.ListComp elt gens scope pos) d it acc env = (do
     if (<- ask).params.followText "comprehension-iter-twice" then return <- again (.compLoop (.ListComp elt gens scope pos) d it acc env)
     rule "comprehension.iter-twice"
     standAt g.iter.pos
     again (.compLoop (.ListComp elt gens scope pos) d (<- pyIter it) acc env)) := by
   unfold compStart
   have e1 : ((clausesOf (.ListComp elt gens scope pos))[d]?).elim false (fun x => x.is_async != 0) = false := by
     show (gens[d]?).elim false _ = false
     rw [hg]
     simp [ha]
   have e2 : (clausesOf (.ListComp elt gens scope pos))[d]? = some g := hg
   rw [e1, e2]
   rfl
 rw [e]
 show wpAny _ _ (ask >>= _) _ _ s
 refine wpAny_bind (wpAny_askSetting (wpAny_ite ?_))
 split
 · first
     | exact wpAny_bind (wpAny_pure (wpAny_pure (And.intro rfl h0)))
     | exact wpAny_pure (And.intro rfl h0)
 · first
     | exact wpAny_bind (wpAny_rule (wpAny_bind (wpAny_standAt (wpAny_bind (wpAny_mono h (fun it' s' h' => wpAny_pure (And.intro rfl h')) fun _ _ x => x)))))
     | (refine wpAny_bind (wpAny_rule ?_); show wpAny _ _ (standAt g.iter.pos >>= _) _ _ s; exact wpAny_bind (wpAny_standAt (wpAny_bind (wpAny_mono h (fun it' s' h' => wpAny_pure (And.intro rfl h')) fun _ _ x => x))))
def tComp (nt : Nat) (ix : List Nat) (wi : TI) (lp : It -> TB) : TE := fun σ H Q => wi σ H fun J H1 => lp J (cst nt ix σ) H1 [] fun _ H2 acc => ∀ l, H2 l = none -> Q (.ref l) (upd H2 l (.lst acc))
def PLp (X : Cx) (scope : Scope) (ts : List Str) (ix : List Nat) (tg : Expr) (c : Env -> Value -> Value -> Code) (lp : It -> TB) : Prop :=
 ∀ (C : Addr) (s2 : Shared) (H2 : Hp) (fp : List Addr) (pins : List (Addr × Obj)) (s : Shared) (σ : St) (H : Hp) (l : Addr) (acc : List V) (its : List Value) (n : Nat) (Q : St -> Hp -> List V -> Prop) (it : Addr) (tn : Nat -> Heap -> Prop) (J : It) (fp' : List Addr),
   Inv (compCx X scope ts ix C s2 H2 fp) (pins ++ [(l, lobj its n)]) σ H s -> FpS (compCx X scope ts ix C s2 H2 fp) pins l -> Vals acc its -> acc.length <= sizeLine -> Turn X.prog X.w X.K tg J fp' it tn -> tn 0 s.heap -> (∀ b ∈ fp', FpOk (compCx X scope ts ix C s2 H2 fp) (pins ++ [(l, lobj its n)]) H b) ->
   lp J σ H acc Q -> codeAny (model X.prog X.w) X.A (c (compCx X scope ts ix C s2 H2 fp).env (.ref it) (.ref l)) (fun r s' => r = .ok .next /\ AccP (compCx X scope ts ix C s2 H2 fp) pins l Q s') s
def CompDone (X : Cx) (pins : List (Addr × Obj)) (σ : St) (Q : VK) (acc : Value) (C : Addr) (s' : Shared) : Prop :=
 ∃ l H', acc = .ref l /\ (∃ m, s'.heap.Ns C m) /\ H' C = none /\ FpS X pins C /\ Q (.ref l) H' /\ ∀ h' : Heap, (∀ b, b ≠ C -> h'.get? b = s'.heap.get? b) -> Inv X pins σ H' { s' with heap := h' }
section
variable {X : Cx} {tg iter elt : Expr} {ifs : List Expr} {gs : List Comprehension} {scope : Scope} {pos : Pos} {ts : List Str} {ix : List Nat} {wi : TI} {lp : It -> TB}
theorem comp_core {use : Option (Value -> Sem Unit)} {ps : Pos} {pins : List (Addr × Obj)} {s : Shared} {σ : St} {H : Hp} {Q : VK} {Q' : Value -> Shared -> Prop} (hc : X.calm = true) (S : CompScope X scope ts ix) (hi : PI X tg iter wi)
   (hlp : PLp X scope ts ix tg (fun env it acc => .compLoop (.ListComp elt (⟨tg, iter, ifs, 0⟩ :: gs) scope pos) 0 it acc env) lp) (hs : ∀ x, foldedSetIterable iter X.env x = pure x) (I : Inv X pins σ H s) (h : tComp ts.length ix wi lp σ H Q)
   (fin : ∀ acc C s', CompDone X pins σ Q acc C s' -> compPost (model X.prog X.w) X.A X.xe use Q' acc C (.ok .next) s') :
   wpAny (model X.prog X.w) X.A (comprehension (.ListComp elt (⟨tg, iter, ifs, 0⟩ :: gs) scope pos) scope X.env ps (newList []) false (eval iter X.env) use) Q' X.xe s := by
 have nocell : ∀ y ∈ scope.names, y.2 ≠ .cell := fun y hy => by simpa using List.all_eq_true.mp S.nocell y hy
 have names : ∀ y ∈ scope.names, y.2 = .local -> scope.names.lookup y.1 = some .local := fun y hy e => by
   have := List.all_eq_true.mp S.names y hy
   simpa [e] using this
 have fre : ∀ y ∈ scope.names, y.2 = .free -> ∃ c, X.env.cells.lookup y.1 = some c := fun y hy e => by
   have := List.all_eq_true.mp S.free y hy
   exact I.ok.has y.1 (by simpa [e] using this)
 refine wpAny_comprehension_free (g := ⟨tg, iter, ifs, 0⟩) (gs := gs) rfl hs (closureFor_eq fre) S.kind names ?_
 refine thn (hi pins s σ H _ I h) fun xv s1 h1 => thn h1 fun itv s2 h2 => ?_
 obtain ⟨it, fp, tn, J, H2, e, I2, T, st2, f2, q2⟩ := h2
 subst e
 refine wpAny_newObj_type (wpAny_newFunctionEnv nocell (by intro y hy; simp at hy) (fun h₁ hns₁ hsb₁ => ?_) S.kind)
 dsimp only at hns₁ hsb₁ ⊢
 generalize hH2 : s2.heap.push { cls := .type "list", dict := none, data := .seq ([] : List Value).toArray } = G2 at hns₁ hsb₁ ⊢
 have hC : G2.objs.size = s2.heap.objs.size + 1 := by rw [<- hH2, Heap.size_push]
 have hDC : s2.heap.objs.size ≠ G2.objs.size := by rw [hC]; exact Nat.ne_of_lt (Nat.lt_succ_self _)
 have hCle : s2.heap.objs.size <= G2.objs.size := by rw [hC]; exact Nat.le_succ _
 have below : ∀ b, b < s2.heap.objs.size -> b ≠ G2.objs.size := fun b hb => by rw [hC]; exact Nat.ne_of_lt (Nat.lt_succ_of_lt hb)
 have keep : ∀ b o, s2.heap.get? b = some o -> h₁.get? b = some o := fun b o e => hsb₁.extBut b o (below b (Heap.lt_size e)) (Heap.get?_push_of_some _ (hH2 ▸ Heap.get?_push_of_some _ e))
 have hl : h₁.get? s2.heap.objs.size = some (lobj [] 0) := hsb₁.extBut _ _ hDC (Heap.get?_push_of_some _ (hH2 ▸ Heap.get?_push_size _ rfl))
 have obf : ∀ b ∈ fp, ∃ o, s2.heap.get? b = some o := fun b hb => let ⟨o, e, _⟩ := T.obj _ _ st2 b hb; ⟨o, e⟩
 have ns : h₁.Ns G2.objs.size fun _ => none := by simpa using hns₁
 have I4 : Inv (compCx X scope ts ix G2.objs.size s2 H2 fp) ([] ++ [(s2.heap.objs.size, lobj [] 0)]) (cst ts.length ix σ) H2 { s2 with heap := h₁, toks := s2.toks + ([] : List (Str × Value)).length } :=
   comp_start I2 S hc f2 obf keep hl (Nat.le_refl _) hCle hDC ns
 have lS : FpS (compCx X scope ts ix G2.objs.size s2 H2 fp) [] s2.heap.objs.size := by
   refine ⟨hDC, fun z => ?_, .inr (Nat.le_refl _), fun x c e z => ?_, fun p hp => absurd hp (by simp [compCx])⟩
   · rcases List.mem_cons.mp (I2.stkSub _ z) with e | e
     · exact absurd I2.lt (by rw [<- e]; exact Nat.lt_irrefl _)
     · exact I2.nofs (Nat.le_refl _) e
   · obtain ⟨v, q⟩ := I2.cell x c (closL_sound (fun y d z => by simp at z) e)
     exact absurd q.lt (by rw [z]; exact Nat.lt_irrefl _)
 have stn : tn 0 h₁ := T.keep _ _ _ st2 fun b _ o e => keep b o e
 have fp4 : ∀ b ∈ fp, FpOk (compCx X scope ts ix G2.objs.size s2 H2 fp) ([] ++ [(s2.heap.objs.size, lobj [] 0)]) H2 b := fun b hb => by
   obtain ⟨f0, f1, f2', f3, f4, f5⟩ := f2 b hb
   obtain ⟨o, eo⟩ := obf b hb
   refine ⟨f0, below b (Heap.lt_size eo), fun z => ?_, .inl hb, fun x c e => f4 x c (closL_sound (fun y d z => by simp at z) e), fun p hp => ?_⟩
   · rcases List.mem_cons.mp (I2.stkSub b z) with e | e
     · exact f1 e
     · exact f2' e
   · obtain rfl : p = (s2.heap.objs.size, lobj [] 0) := by simpa [compCx] using hp
     exact Nat.ne_of_gt (Heap.lt_size eo)
 have run : ∀ s3 : Shared, s3 = { s2 with heap := h₁, toks := s2.toks + ([] : List (Str × Value)).length } ->
     codeAny (model X.prog X.w) X.A (.compLoop (.ListComp elt (⟨tg, iter, ifs, 0⟩ :: gs) scope pos) 0 (.ref it) (.ref s2.heap.objs.size) (compCx X scope ts ix G2.objs.size s2 H2 fp).env) (fun r s' => compPost (model X.prog X.w) X.A X.xe use Q' (.ref s2.heap.objs.size) G2.objs.size r s') s3 := by
   rintro s3 rfl
   refine codeAny_mono (hlp G2.objs.size s2 H2 fp [] _ _ H2 _ [] [] 0 _ it tn J fp I4 lS .nil (Nat.zero_le _) T stn fp4 q2) fun r s' hr => ?_
   obtain ⟨rfl, σ', H', acc, its, n, J', rv, hz, q⟩ := hr
   have pl := J'.pin (s2.heap.objs.size, lobj its n) (by simp)
   refine fin _ _ _ ⟨_, upd H' s2.heap.objs.size (.lst acc), rfl, let ⟨m, hn, _⟩ := J'.loc; ⟨m, hn⟩, by rw [upd_ne (Ne.symm hDC)]; exact J'.free, ?_, q _ pl.2.1, fun h' sb => comp_end I2 f2 (Nat.le_refl _) hCle J' rv hz sb⟩
   refine ⟨fun e => ?_, I2.nofs hCle, .inr (Nat.le_trans I2.sz hCle), fun x c e z => ?_, fun p hp z => ?_⟩
   · exact absurd (Nat.lt_of_lt_of_le I2.lt hCle) (by rw [e]; exact Nat.lt_irrefl _)
   · obtain ⟨v, q⟩ := I2.cell x c e
     exact absurd (Nat.lt_of_lt_of_le q.lt hCle) (by rw [z]; exact Nat.lt_irrefl _)
   · exact absurd (Nat.lt_of_lt_of_le (Heap.lt_size (I2.pin p hp).1) hCle) (by rw [z]; exact Nat.lt_irrefl _)
 exact compStart_any (g := ⟨tg, iter, ifs, 0⟩) rfl rfl (run _ rfl) (T.self _ 0 _ _ _ stn (run _ rfl))
theorem pe_compG (hc : X.calm = true) (S : CompScope X scope ts ix) (hi : PI X tg iter wi)
   (hlp : PLp X scope ts ix tg (fun env it acc => .compLoop (.ListComp elt (⟨tg, iter, ifs, 0⟩ :: gs) scope pos) 0 it acc env) lp) (hs : ∀ x, foldedSetIterable iter X.env x = pure x := by intro _; rfl) :
   PE X (.ListComp elt (⟨tg, iter, ifs, 0⟩ :: gs) scope pos) (tComp ts.length ix wi lp) := by
 intro pins s σ H Q I h
 rw [eval_ListComp]
 refine comp_core (use := none) (Q := Q) hc S hi hlp hs I h fun acc C s' ⟨l, H', e, ⟨m, hn⟩, _, _, q, back⟩ => ?_
 subst e
 exact ⟨m, hn, fun h' sb => ⟨.ref l, H', back h' fun b hb => sb.2 b hb, rfl, q⟩⟩
theorem ps_setCompG {i : Nat} {y : Str} {py sp : Pos} (hc : X.calm = true) (S : CompScope X scope ts ix) (hi : PI X tg iter wi)
   (hlp : PLp X scope ts ix tg (fun env it acc => .compLoop (.ListComp elt (⟨tg, iter, ifs, 0⟩ :: gs) scope pos) 0 it acc env) lp) (hN : X.N.Nodup) (hiN : X.N[i]? = some y) (hy : X.env.kindOf y = some .local)
   (hsw : swapsWith (.ListComp elt (⟨tg, iter, ifs, 0⟩ :: gs) scope pos) (some (.Name y py)) sp.line X.env = pure true := by rfl) (hs : ∀ x, foldedSetIterable iter X.env x = pure x := by intro _; rfl) :
   PS X (.Assign [.Name y py] (.ListComp elt (⟨tg, iter, ifs, 0⟩ :: gs) scope pos) sp) (tAsg (tComp ts.length ix wi lp) (gName i)) := by
 intro pins s σ H D I h
 rw [exec_Assign_Name_used _ _ _ _ hsw]
 refine wpAny_bind (wpAny_standAt (wpAny_bind ?_))
 show wpAny _ X.A (do let _ <- comprehension (.ListComp elt (⟨tg, iter, ifs, 0⟩ :: gs) scope pos) scope X.env _ (newList []) false (eval iter X.env) (some (assign (.Name y py) X.env))) _ _ s
 refine wpAny_bind (wpAny_mono (comp_core (use := some (assign (.Name y py) X.env)) (Q' := fun _ s' => SP X pins D .next s') hc S hi hlp hs I h fun acc C s' ⟨l, H', e, ⟨m, hn⟩, hCn, fC, q, back⟩ => ?_) (fun _ s' hq => wpAny_pure (wpAny_pure hq)) fun _ _ e => e)
 subst e
 show wpAny _ X.A (assign (.Name y py) X.env (.ref l)) _ _ _
 have J : Inv X pins σ H' s' := back s'.heap fun _ _ => rfl
 refine wpAny_assign_Name (store_ok2 J hN hiN (.inl hy) (show RelV (.ref l) (.ref l) from rfl) (fun s3 I3 ⟨a, sb, ha⟩ => ?_) (.inr hy))
 have aC : C ≠ a := by
   rcases ha with rfl | e
   · exact fC.1
   · exact fun z => fC.2.2.2.1 y a e z.symm
 refine ⟨m, hn.sameBut sb aC, fun h' sb' => ⟨_, H', ?_, q⟩⟩
 exact I3.turned (it := C) (t' := s3.toks) (fun b o hb e => (sb'.2 b hb).trans e) hCn fC.1 fC.2.2.1 fC.2.2.2.1 fC.2.2.2.2
end
section
variable {X : Cx} {tg iter elt tg2 iter2 : Expr} {ifs ifs2 : List Expr} {scope : Scope} {pos : Pos} {ts : List Str} {ix : List Nat} {g g2 : TG} {tt tt2 : TT} {te : TE} {wi2 : TI}
theorem plp_one (hc : X.calm = true) (hg : ∀ C s2 H2 fp, PG (compCx X scope ts ix C s2 H2 fp) tg g) (ht : ∀ C s2 H2 fp, PIf (compCx X scope ts ix C s2 H2 fp) ifs tt) (he : ∀ C s2 H2 fp, PE (compCx X scope ts ix C s2 H2 fp) elt te) :
   PLp X scope ts ix tg (fun env it acc => .compLoop (.ListComp elt [⟨tg, iter, ifs, 0⟩] scope pos) 0 it acc env) (lpW g tt (tEmit te)) := by
 intro C s2 H2 fp pins s σ H l acc its n Q it tn J fp' I hl rv hz T st hf h
 exact loop_run (X := compCx X scope ts ix C s2 H2 fp) (iter := iter) (c := fun it acc => .compLoop (.ListComp elt [⟨tg, iter, ifs, 0⟩] scope pos) 0 it acc (compCx X scope ts ix C s2 H2 fp).env) rfl hc (hg C s2 H2 fp) (ht C s2 H2 fp) (pb_emit (he C s2 H2 fp))
   (fun _ _ => rfl) (fun _ _ => rfl) (fun it acc => ⟨_, rfl⟩) I hl rv hz T st hf h
def inner2 (e : Expr) (iter2 : Expr) (env : Env) (a : Value) : Sem Unit := do
       let x <- eval iter2 env
       standAt iter2.pos
       let x <- foldedSetIterable iter2 env x
       let it2 <- holding [x] (pyIter x)
       let _ <- runOwn (.compStart e 1 it2 a env) env
       pure ()
theorem compTurn_two (elt tg iter tg2 iter2 : Expr) (ifs ifs2 : List Expr) (scope : Scope) (pos : Pos) (it acc : Value) (env : Env) :
   compTurn (.ListComp elt [⟨tg, iter, ifs, 0⟩, ⟨tg2, iter2, ifs2, 0⟩] scope pos) 0 it acc env =
   compT tg iter ifs env (inner2 (.ListComp elt [⟨tg, iter, ifs, 0⟩, ⟨tg2, iter2, ifs2, 0⟩] scope pos) iter2 env acc) (.compLoop (.ListComp elt [⟨tg, iter, ifs, 0⟩, ⟨tg2, iter2, ifs2, 0⟩] scope pos) 0 it acc env) it := by
 unfold compT inner2
 refine Eq.trans (b := standAt iter.pos >>= fun _ => pyNext it >>= fun r => match r with
   | none => pure (.done .next)
   | some v => letOwnedTupleGo tg it v >>= fun _ => assign tg env v >>= fun _ => (forIn ifs true fun c r => if r = true then do let ok <- isTrue c env (eval c env); pure (ForInStep.yield ok) else pure (ForInStep.yield r)) >>= fun ok =>
     if ok = true then eval iter2 env >>= fun x => standAt iter2.pos >>= fun _ => foldedSetIterable iter2 env x >>= fun x => holding [x] (pyIter x) >>= fun i2 => runOwn (.compStart (.ListComp elt [⟨tg, iter, ifs, 0⟩, ⟨tg2, iter2, ifs2, 0⟩] scope pos) 1 i2 acc env) env >>= fun _ => again (.compLoop (.ListComp elt [⟨tg, iter, ifs, 0⟩, ⟨tg2, iter2, ifs2, 0⟩] scope pos) 0 it acc env)
     else again (.compLoop (.ListComp elt [⟨tg, iter, ifs, 0⟩, ⟨tg2, iter2, ifs2, 0⟩] scope pos) 0 it acc env)) rfl ?_
 congr 1; funext _; congr 1; funext r
 cases r with
 | none => rfl
 | some v =>
   dsimp only
   congr 1; funext _; congr 1; funext _; congr 1; funext ok
   cases ok
   · rfl
   · simp only [if_true, bind_assoc, pure_bind]
def tIn (wi : TI) (lp : It -> TB) : TB := fun σ H acc Q => wi σ H fun J H1 => lp J σ H1 acc Q
theorem plp_two (hc : X.calm = true) (hg : ∀ C s2 H2 fp, PG (compCx X scope ts ix C s2 H2 fp) tg g) (ht : ∀ C s2 H2 fp, PIf (compCx X scope ts ix C s2 H2 fp) ifs tt)
   (hi2 : ∀ C s2 H2 fp, PI (compCx X scope ts ix C s2 H2 fp) tg2 iter2 wi2) (hg2 : ∀ C s2 H2 fp, PG (compCx X scope ts ix C s2 H2 fp) tg2 g2) (ht2 : ∀ C s2 H2 fp, PIf (compCx X scope ts ix C s2 H2 fp) ifs2 tt2) (he : ∀ C s2 H2 fp, PE (compCx X scope ts ix C s2 H2 fp) elt te)
   (hs2 : ∀ (C : Addr) (s2 : Shared) (H2 : Hp) (fp : List Addr) x, foldedSetIterable iter2 (compCx X scope ts ix C s2 H2 fp).env x = pure x := by intros; rfl) :
   PLp X scope ts ix tg (fun env it acc => .compLoop (.ListComp elt [⟨tg, iter, ifs, 0⟩, ⟨tg2, iter2, ifs2, 0⟩] scope pos) 0 it acc env) (lpW g tt (tIn wi2 (lpW g2 tt2 (tEmit te)))) := by
 intro C s2 H2 fp pins s σ H l acc its n Q it tn J fp' I hl rv hz T st hf h
 have inner : PB (compCx X scope ts ix C s2 H2 fp) (inner2 (.ListComp elt [⟨tg, iter, ifs, 0⟩, ⟨tg2, iter2, ifs2, 0⟩] scope pos) iter2 (compCx X scope ts ix C s2 H2 fp).env) (tIn wi2 (lpW g2 tt2 (tEmit te))) := by
   intro pins s σ H l acc its n Q I hl rv hz h
   refine wpAny_bind (thn (hi2 C s2 H2 fp _ s σ H _ I h) fun v s1 h1 => ?_)
   refine wpAny_bind (wpAny_standAt (wpAny_bind (wpAny_of_eq (hs2 C s2 H2 fp v) (wpAny_bind (wpAny_holding (thn h1 fun itv s3 h3 => ?_))))))
   obtain ⟨it, fp3, tn, J, H3, e, I3, T, st3, f3, q3⟩ := h3
   subst e
   refine wpAny_bind (wpAny_runOwn ?_)
   have run : codeAny (model X.prog X.w) X.A (.compLoop (.ListComp elt [⟨tg, iter, ifs, 0⟩, ⟨tg2, iter2, ifs2, 0⟩] scope pos) 1 (.ref it) (.ref l) (compCx X scope ts ix C s2 H2 fp).env) (fun r s' => r = .ok .next /\ AccP (compCx X scope ts ix C s2 H2 fp) pins l Q s') s3 :=
     loop_run (X := compCx X scope ts ix C s2 H2 fp) (iter := iter2) (c := fun it acc => .compLoop (.ListComp elt [⟨tg, iter, ifs, 0⟩, ⟨tg2, iter2, ifs2, 0⟩] scope pos) 1 it acc (compCx X scope ts ix C s2 H2 fp).env) rfl hc (hg2 C s2 H2 fp) (ht2 C s2 H2 fp) (pb_emit (he C s2 H2 fp))
       (fun _ _ => rfl) (fun _ _ => rfl) (fun it acc => ⟨_, rfl⟩) I3 hl rv hz T st3 f3 q3
   refine codeAny_mono (R := fun r s' => r = .ok .next /\ AccP (compCx X scope ts ix C s2 H2 fp) pins l Q s') ?_ fun r s' ⟨hr, z⟩ => by subst hr; exact wpAny_pure z
   exact compStart_any (g := ⟨tg2, iter2, ifs2, 0⟩) rfl rfl run (T.self _ 0 _ _ _ st3 run)
 exact loop_run (X := compCx X scope ts ix C s2 H2 fp) (iter := iter) (c := fun it acc => .compLoop (.ListComp elt [⟨tg, iter, ifs, 0⟩, ⟨tg2, iter2, ifs2, 0⟩] scope pos) 0 it acc (compCx X scope ts ix C s2 H2 fp).env) rfl hc (hg C s2 H2 fp) (ht C s2 H2 fp) inner
   (fun _ _ => rfl) (fun _ _ => rfl) (fun it acc => ⟨_, by rw [<- compTurn_two]; rfl⟩) I hl rv hz T st hf h
end
end L2
namespace L2
open PySem PySem.Spec PyProof.Rows
inductive D where
 | non | bl (b : Bool) | int (i : Int) | str (x : Str) | tup (l : List D) | lst (l : List D)
mutual
def Rep (K : PySem.W.Frag) (H : Hp) : D -> V -> Prop
 | .non, v => v = .non
 | .bl b, v => v = .bl b
 | .int i, v => v = .int i
 | .str x, v => v = .str x
 | .tup l, v => ∃ a xs, v = .ref a /\ SqT K H a xs /\ RepL K H l xs
 | .lst l, v => ∃ a xs, v = .ref a /\ SqL K H a xs /\ RepL K H l xs
def RepL (K : PySem.W.Frag) (H : Hp) : List D -> List V -> Prop
 | [], xs => xs = []
 | d :: ds, xs => ∃ x r, xs = x :: r /\ Rep K H d x /\ RepL K H ds r
end
mutual
def D.eq : D -> D -> Bool
 | .non, .non => true
 | .bl a, .bl b => a == b
 | .bl a, .int b => (if a then 1 else 0) == b
 | .int a, .bl b => a == (if b then 1 else 0)
 | .int a, .int b => a == b
 | .str a, .str b => a == b
 | .tup a, .tup b => D.eqL a b
 | .lst a, .lst b => D.eqL a b
 | _, _ => false
def D.eqL : List D -> List D -> Bool
 | [], [] => true
 | a :: r, b :: t => D.eq a b && D.eqL r t
 | _, _ => false
end
mutual
def D.depth : D -> Nat
 | .tup l => D.depthL l + 1
 | .lst l => D.depthL l + 1
 | _ => 0
def D.depthL : List D -> Nat
 | [] => 0
 | a :: r => max (D.depth a) (D.depthL r)
end
mutual
theorem D.eq_refl : ∀ d : D, D.eq d d = true
 | .non => rfl
 | .bl b => by simp [D.eq]
 | .int i => by simp [D.eq]
 | .str x => by simp [D.eq]
 | .tup l => by simp [D.eq, D.eqL_refl l]
 | .lst l => by simp [D.eq, D.eqL_refl l]
theorem D.eqL_refl : ∀ l : List D, D.eqL l l = true
 | [] => rfl
 | a :: r => by simp [D.eqL, D.eq_refl a, D.eqL_refl r]
end
theorem RepL.length {K : PySem.W.Frag} {H : Hp} : ∀ {l : List D} {xs : List V}, RepL K H l xs -> xs.length = l.length
 | [], xs, h => by rw [RepL] at h; subst h; rfl
 | d :: ds, xs, h => by
   rw [RepL] at h
   obtain ⟨x, r, rfl, _, t⟩ := h
   simp [RepL.length t]
theorem RepL.get {K : PySem.W.Frag} {H : Hp} : ∀ {l : List D} {xs : List V} {i : Nat} {d : D}, RepL K H l xs -> l[i]? = some d -> ∃ x, xs[i]? = some x /\ Rep K H d x
 | [], xs, i, d, h, e => by simp at e
 | d' :: ds, xs, 0, d, h, e => by
   rw [RepL] at h
   obtain ⟨x, r, rfl, p, _⟩ := h
   simp at e; subst e
   exact ⟨x, rfl, p⟩
 | d' :: ds, xs, i + 1, d, h, e => by
   rw [RepL] at h
   obtain ⟨x, r, rfl, _, t⟩ := h
   obtain ⟨y, h1, h2⟩ := RepL.get (i := i) t (by simpa using e)
   exact ⟨y, by simpa using h1, h2⟩
theorem RepL.nil {K : PySem.W.Frag} {H : Hp} : RepL K H [] [] := by rw [RepL]
theorem RepL.cons {K : PySem.W.Frag} {H : Hp} {d : D} {ds : List D} {x : V} {xs : List V} (h : Rep K H d x) (t : RepL K H ds xs) : RepL K H (d :: ds) (x :: xs) := by rw [RepL]; exact ⟨x, xs, rfl, h, t⟩
theorem RepL.append {K : PySem.W.Frag} {H : Hp} : ∀ {l m : List D} {xs ys : List V}, RepL K H l xs -> RepL K H m ys -> RepL K H (l ++ m) (xs ++ ys)
 | [], m, xs, ys, h, t => by rw [RepL] at h; subst h; exact t
 | d :: ds, m, xs, ys, h, t => by
   rw [RepL] at h
   obtain ⟨x, r, rfl, p, q⟩ := h
   exact .cons p (RepL.append q t)
def Stay (K : PySem.W.Frag) (H H' : Hp) : Prop := (∀ a xs, SqT K H a xs -> SqT K H' a xs) /\ ∀ a xs, SqL K H a xs -> SqL K H' a xs
theorem Same.stay {K : PySem.W.Frag} {H H' : Hp} (s : Same H H') : Stay K H H' := by
 refine ⟨fun a xs h => ?_, fun a xs h => s.seq h⟩
 rcases h with (h | ⟨o, h⟩) | h
 · exact .inl (.inl (s _ _ h))
 · exact .inl (.inr ⟨o, s _ _ h⟩)
 · exact .inr h
mutual
theorem Rep.stay {K : PySem.W.Frag} {H H' : Hp} (s : Stay K H H') : ∀ {d : D} {v : V}, Rep K H d v -> Rep K H' d v
 | .non, v, h => by rw [Rep] at h ⊢; exact h
 | .bl _, v, h => by rw [Rep] at h ⊢; exact h
 | .int _, v, h => by rw [Rep] at h ⊢; exact h
 | .str _, v, h => by rw [Rep] at h ⊢; exact h
 | .tup l, v, h => by
   rw [Rep] at h ⊢
   obtain ⟨a, xs, e, p, q⟩ := h
   exact ⟨a, xs, e, s.1 a xs p, RepL.stay s q⟩
 | .lst l, v, h => by
   rw [Rep] at h ⊢
   obtain ⟨a, xs, e, p, q⟩ := h
   exact ⟨a, xs, e, s.2 a xs p, RepL.stay s q⟩
theorem RepL.stay {K : PySem.W.Frag} {H H' : Hp} (s : Stay K H H') : ∀ {l : List D} {xs : List V}, RepL K H l xs -> RepL K H' l xs
 | [], xs, h => by rw [RepL] at h ⊢; exact h
 | d :: ds, xs, h => by
   rw [RepL] at h
   obtain ⟨x, r, rfl, p, q⟩ := h
   exact .cons (Rep.stay s p) (RepL.stay s q)
end
mutual
def D.imm : D -> Bool
 | .tup l => D.immL l
 | .lst _ => false
 | _ => true
def D.immL : List D -> Bool
 | [] => true
 | a :: r => D.imm a && D.immL r
end
def StayT (K : PySem.W.Frag) (H H' : Hp) : Prop := ∀ a xs, SqT K H a xs -> SqT K H' a xs
mutual
theorem Rep.stayT {K : PySem.W.Frag} {H H' : Hp} (s : StayT K H H') : ∀ {d : D} {v : V}, D.imm d = true -> Rep K H d v -> Rep K H' d v
 | .non, v, _, h => by rw [Rep] at h ⊢; exact h
 | .bl _, v, _, h => by rw [Rep] at h ⊢; exact h
 | .int _, v, _, h => by rw [Rep] at h ⊢; exact h
 | .str _, v, _, h => by rw [Rep] at h ⊢; exact h
 | .tup l, v, i, h => by
   rw [Rep] at h ⊢
   obtain ⟨a, xs, e, p, q⟩ := h
   exact ⟨a, xs, e, s a xs p, RepL.stayT s (by simpa [D.imm] using i) q⟩
 | .lst l, v, i, h => by simp [D.imm] at i
theorem RepL.stayT {K : PySem.W.Frag} {H H' : Hp} (s : StayT K H H') : ∀ {l : List D} {xs : List V}, D.immL l = true -> RepL K H l xs -> RepL K H' l xs
 | [], xs, _, h => by rw [RepL] at h ⊢; exact h
 | d :: ds, xs, i, h => by
   rw [RepL] at h
   obtain ⟨x, r, rfl, p, q⟩ := h
   simp only [D.immL, Bool.and_eq_true] at i
   exact .cons (Rep.stayT s i.1 p) (RepL.stayT s i.2 q)
end
section
variable {X : Cx} {pins : List (Addr × Obj)} {σ : St} {H : Hp} {s : Shared}
theorem Inv.list_ne_tuple (I : Inv X pins σ H s) {a : Addr} {xs ys : List V} (h : SqL X.K H a xs) (h' : SqT X.K H a ys) : False := by
 obtain ⟨its, _, ⟨o, n, e, c, _⟩, _⟩ := I.list h
 obtain ⟨its', _, ⟨o', e', c', _⟩, _⟩ := I.tuple h'
 rw [e] at e'; cases e'
 rw [c] at c'
 exact absurd c' (by decide)
mutual
theorem Rep.inj (I : Inv X pins σ H s) : ∀ {d e : D} {v : V}, Rep X.K H d v -> Rep X.K H e v -> d = e
 | .non, e, v, h, h' => by rw [Rep] at h; subst h; cases e <;> rw [Rep] at h' <;> first | rfl | (obtain ⟨_, _, z, _⟩ := h'; cases z; done) | (cases h'; done)
 | .bl b, e, v, h, h' => by rw [Rep] at h; subst h; cases e <;> rw [Rep] at h' <;> first | (cases h'; rfl) | (obtain ⟨_, _, z, _⟩ := h'; cases z; done) | (cases h'; done)
 | .int b, e, v, h, h' => by rw [Rep] at h; subst h; cases e <;> rw [Rep] at h' <;> first | (cases h'; rfl) | (obtain ⟨_, _, z, _⟩ := h'; cases z; done) | (cases h'; done)
 | .str b, e, v, h, h' => by rw [Rep] at h; subst h; cases e <;> rw [Rep] at h' <;> first | (cases h'; rfl) | (obtain ⟨_, _, z, _⟩ := h'; cases z; done) | (cases h'; done)
 | .tup l, e, v, h, h' => by
   rw [Rep] at h
   obtain ⟨a, xs, rfl, p, q⟩ := h
   cases e <;> rw [Rep] at h'
   case tup m =>
     obtain ⟨b, ys, z, p', q'⟩ := h'
     cases z
     have := I.tuple_inj p p'
     subst this
     rw [RepL.inj I q q']
   case lst m =>
     obtain ⟨b, ys, z, p', q'⟩ := h'
     cases z
     exact (I.list_ne_tuple p' p).elim
   all_goals cases h'
 | .lst l, e, v, h, h' => by
   rw [Rep] at h
   obtain ⟨a, xs, rfl, p, q⟩ := h
   cases e <;> rw [Rep] at h'
   case lst m =>
     obtain ⟨b, ys, z, p', q'⟩ := h'
     cases z
     have := I.list_inj p p'
     subst this
     rw [RepL.inj I q q']
   case tup m =>
     obtain ⟨b, ys, z, p', q'⟩ := h'
     cases z
     exact (I.list_ne_tuple p p').elim
   all_goals cases h'
theorem RepL.inj (I : Inv X pins σ H s) : ∀ {l m : List D} {xs : List V}, RepL X.K H l xs -> RepL X.K H m xs -> l = m
 | [], m, xs, h, h' => by
   rw [RepL] at h; subst h
   cases m with
   | nil => rfl
   | cons a r => rw [RepL] at h'; obtain ⟨_, _, z, _⟩ := h'; cases z
 | d :: ds, m, xs, h, h' => by
   rw [RepL] at h
   obtain ⟨x, r, rfl, p, q⟩ := h
   cases m with
   | nil => rw [RepL] at h'; cases h'
   | cons a t =>
     rw [RepL] at h'
     obtain ⟨_, _, z, p', q'⟩ := h'
     cases z
     rw [Rep.inj I p p', RepL.inj I q q']
end
end
def eqAtJ (l m : List D) (j : Nat) : Bool := match l[j]?, m[j]? with
 | some a, some b => D.eq a b
 | _, _ => true
theorem eqL_all : ∀ (l m : List D), ((List.range (min l.length m.length)).all (eqAtJ l m) && l.length == m.length) = D.eqL l m
 | [], [] => by simp [D.eqL]
 | [], b :: t => by simp [D.eqL]
 | a :: r, [] => by simp [D.eqL]
 | a :: r, b :: t => by
   rw [D.eqL, <- eqL_all r t]
   have e1 : min (a :: r).length (b :: t).length = min r.length t.length + 1 := by simp [Nat.succ_min_succ]
   rw [e1, List.range_succ_eq_map, List.all_cons, List.all_map]
   have e2 : (eqAtJ (a :: r) (b :: t) ∘ Nat.succ) = eqAtJ r t := by funext j; simp [eqAtJ]
   rw [e2]
   have e3 : eqAtJ (a :: r) (b :: t) 0 = D.eq a b := by simp [eqAtJ]
   rw [e3, Bool.and_assoc]
   congr 2
   simp
theorem eqL_len {l m : List D} (h : l.length ≠ m.length) : D.eqL l m = false := by
 rw [<- eqL_all l m]
 simp [h]
section
variable {X : Cx} {pins : List (Addr × Obj)} {σ : St} {H : Hp} {s : Shared}
open PySem.SeqAt
theorem depthL_get : ∀ {l : List D} {j : Nat} {d : D}, l[j]? = some d -> D.depth d <= D.depthL l
 | [], j, d, e => by simp at e
 | a :: r, 0, d, e => by simp at e; subst e; rw [D.depthL]; exact Nat.le_max_left _ _
 | a :: r, j + 1, d, e => by rw [D.depthL]; exact Nat.le_trans (depthL_get (l := r) (j := j) (by simpa using e)) (Nat.le_max_right _ _)
set_option maxHeartbeats 1000000 in
theorem eqFlat_non (I : Inv X pins σ H s) {A : Around} {e : D} {y : V} {v : Value} (hu : A.units < cLine) (re : Rep X.K H e y) (rv : RelV y v) :
   EqAt A s Value.none v (D.eq .non e) /\ RcAt A s Value.none v (D.eq .non e) := by
 cases e <;> rw [Rep] at re
 case non =>
   subst re
   cases rv
   exact ⟨EqAt.same _, RcAt.none_none⟩
 case bl c =>
   subst re
   cases rv
   exact ⟨EqAt.none_bool _, RcAt.none_bool _⟩
 case int c =>
   subst re
   obtain ⟨t', rfl⟩ := rv
   exact ⟨EqAt.none_int _ _, RcAt.none_int _ _⟩
 case str c =>
   subst re
   obtain ⟨t', rfl⟩ := rv
   exact ⟨EqAt.none_str _ _, RcAt.none_str _ _⟩
 case tup m =>
   obtain ⟨a, xs, rfl, p, q⟩ := re
   cases rv
   obtain ⟨its, r, pl, _⟩ := I.tuple p
   exact ⟨EqAt.none_tuple  pl hu, RcAt.none_tuple  pl hu⟩
 case lst m =>
   obtain ⟨a, xs, rfl, p, q⟩ := re
   cases rv
   obtain ⟨its, r, pl, _⟩ := I.list p
   exact ⟨EqAt.none_list  pl.isList hu, RcAt.none_list  pl.isList hu⟩
set_option maxHeartbeats 1000000 in
theorem eqFlat_bl (I : Inv X pins σ H s) {A : Around} {b : Bool} {e : D} {y : V} {v : Value} (hu : A.units < cLine) (re : Rep X.K H e y) (rv : RelV y v) :
   EqAt A s (.bool b) v (D.eq (.bl b) e) /\ RcAt A s (.bool b) v (D.eq (.bl b) e) := by
 cases e <;> rw [Rep] at re
 case non =>
   subst re
   cases rv
   exact ⟨EqAt.bool_none _, RcAt.bool_none _⟩
 case bl c =>
   subst re
   cases rv
   exact ⟨EqAt.bool_bool _ _, RcAt.bool_bool _ _⟩
 case int c =>
   subst re
   obtain ⟨t', rfl⟩ := rv
   exact ⟨EqAt.bool_int _ _ _, RcAt.bool_int _ _ _⟩
 case str c =>
   subst re
   obtain ⟨t', rfl⟩ := rv
   exact ⟨EqAt.bool_str _ _ _, RcAt.bool_str _ _ _⟩
 case tup m =>
   obtain ⟨a, xs, rfl, p, q⟩ := re
   cases rv
   obtain ⟨its, r, pl, _⟩ := I.tuple p
   exact ⟨EqAt.bool_tuple _ pl hu, RcAt.bool_tuple _ pl hu⟩
 case lst m =>
   obtain ⟨a, xs, rfl, p, q⟩ := re
   cases rv
   obtain ⟨its, r, pl, _⟩ := I.list p
   exact ⟨EqAt.bool_list _ pl.isList hu, RcAt.bool_list _ pl.isList hu⟩
set_option maxHeartbeats 1000000 in
theorem eqFlat_int (I : Inv X pins σ H s) {A : Around} {b : Int} {e : D} {y : V} {t : Tok} {v : Value} (hu : A.units < cLine) (re : Rep X.K H e y) (rv : RelV y v) :
   EqAt A s (.int b t) v (D.eq (.int b) e) /\ RcAt A s (.int b t) v (D.eq (.int b) e) := by
 cases e <;> rw [Rep] at re
 case non =>
   subst re
   cases rv
   exact ⟨EqAt.int_none _ _, RcAt.int_none _ _⟩
 case bl c =>
   subst re
   cases rv
   exact ⟨EqAt.int_bool _ _ _, RcAt.int_bool _ _ _⟩
 case int c =>
   subst re
   obtain ⟨t', rfl⟩ := rv
   exact ⟨EqAt.int_int _ _ _ _, RcAt.int_int _ _ _ _⟩
 case str c =>
   subst re
   obtain ⟨t', rfl⟩ := rv
   exact ⟨EqAt.int_str _ _ _ _, RcAt.int_str _ _ _ _⟩
 case tup m =>
   obtain ⟨a, xs, rfl, p, q⟩ := re
   cases rv
   obtain ⟨its, r, pl, _⟩ := I.tuple p
   exact ⟨EqAt.int_tuple _ _ pl hu, RcAt.int_tuple _ _ pl hu⟩
 case lst m =>
   obtain ⟨a, xs, rfl, p, q⟩ := re
   cases rv
   obtain ⟨its, r, pl, _⟩ := I.list p
   exact ⟨EqAt.int_list _ _ pl.isList hu, RcAt.int_list _ _ pl.isList hu⟩
set_option maxHeartbeats 1000000 in
theorem eqFlat_str (I : Inv X pins σ H s) {A : Around} {b : Str} {e : D} {y : V} {t : Tok} {v : Value} (hu : A.units < cLine) (re : Rep X.K H e y) (rv : RelV y v) :
   EqAt A s (.str b t) v (D.eq (.str b) e) /\ RcAt A s (.str b t) v (D.eq (.str b) e) := by
 cases e <;> rw [Rep] at re
 case non =>
   subst re
   cases rv
   exact ⟨EqAt.str_none _ _, RcAt.str_none _ _⟩
 case bl c =>
   subst re
   cases rv
   exact ⟨EqAt.str_bool _ _ _, RcAt.str_bool _ _ _⟩
 case int c =>
   subst re
   obtain ⟨t', rfl⟩ := rv
   exact ⟨EqAt.str_int _ _ _ _, RcAt.str_int _ _ _ _⟩
 case str c =>
   subst re
   obtain ⟨t', rfl⟩ := rv
   exact ⟨EqAt.str_str _ _ _ _, RcAt.str_str _ _ _ _⟩
 case tup m =>
   obtain ⟨a, xs, rfl, p, q⟩ := re
   cases rv
   obtain ⟨its, r, pl, _⟩ := I.tuple p
   exact ⟨EqAt.str_tuple _ _ pl hu, RcAt.str_tuple _ _ pl hu⟩
 case lst m =>
   obtain ⟨a, xs, rfl, p, q⟩ := re
   cases rv
   obtain ⟨its, r, pl, _⟩ := I.list p
   exact ⟨EqAt.str_list _ _ pl.isList hu, RcAt.str_list _ _ pl.isList hu⟩
set_option maxHeartbeats 4000000 in
theorem eqD (I : Inv X pins σ H s) : ∀ (n : Nat) (A : Around) (d e : D) (x y : V) (u v : Value), D.depth d <= n -> A.units + n < cLine -> Rep X.K H d x -> Rep X.K H e y -> RelV x u -> RelV y v -> EqAt A s u v (D.eq d e) /\ RcAt A s u v (D.eq d e) := by
 intro n
 induction n with
 | zero =>
   intro A d e x y u v hn hu rd re ru rv
   have hu : A.units < cLine := by omega
   cases d with
   | non => rw [Rep] at rd; subst rd; cases ru; exact eqFlat_non I hu re rv
   | bl b => rw [Rep] at rd; subst rd; cases ru; exact eqFlat_bl I hu re rv
   | int i => rw [Rep] at rd; subst rd; obtain ⟨t', rfl⟩ := ru; exact eqFlat_int I hu re rv
   | str i => rw [Rep] at rd; subst rd; obtain ⟨t', rfl⟩ := ru; exact eqFlat_str I hu re rv
   | tup l => rw [D.depth] at hn; omega
   | lst l => rw [D.depth] at hn; omega
 | succ n ih =>
   intro A d e x y u v hn hu rd re ru rv
   have hu0 : A.units < cLine := by omega
   have hu1 : A.in1.units + n < cLine := by show A.units + 1 + n < cLine; omega
   have flat : D.depth d = 0 -> EqAt A s u v (D.eq d e) /\ RcAt A s u v (D.eq d e) := fun z => ih A d e x y u v (by omega) (by omega) rd re ru rv
   have items : ∀ {l m : List D} {xs ys : List V} {its its' : List Value}, D.depthL l <= n -> RepL X.K H l xs -> RepL X.K H m ys -> Vals xs its -> Vals ys its' ->
       ∀ j (h1 : j < its.toArray.size) (h2 : j < its'.toArray.size), EqAt A.in1 s its.toArray[j] its'.toArray[j] (eqAtJ l m j) := by
     intro l m xs ys its its' hd rl rm r r' j h1 h2
     have L1 := r.length; have L2 := r'.length; have L3 := rl.length; have L4 := rm.length
     simp only [List.size_toArray] at h1 h2
     have j1 : j < l.length := by omega
     have j2 : j < m.length := by omega
     obtain ⟨x', hx', px⟩ := rl.get (i := j) (d := l[j]) (by simp [j1])
     obtain ⟨y', hy', py⟩ := rm.get (i := j) (d := m[j]) (by simp [j2])
     obtain ⟨u', hu', pu⟩ := r.get hx'
     obtain ⟨v', hv', pv'⟩ := r'.get hy'
     have e1 : its.toArray[j] = u' := by
       have := (List.getElem?_eq_some_iff.mp hu').2; simpa using this
     have e2 : its'.toArray[j] = v' := by
       have := (List.getElem?_eq_some_iff.mp hv').2; simpa using this
     have e3 : eqAtJ l m j = D.eq l[j] m[j] := by simp [eqAtJ, j1, j2]
     rw [e1, e2, e3]
     exact (ih A.in1 l[j] m[j] x' y' u' v' (Nat.le_trans (depthL_get (l := l) (j := j) (by simp [j1])) hd) hu1 px py pu pv').1
   cases d with
   | non => exact flat (by simp [D.depth])
   | bl b => exact flat (by simp [D.depth])
   | int i => exact flat (by simp [D.depth])
   | str i => exact flat (by simp [D.depth])
   | tup l =>
     have rd0 := rd
     rw [Rep] at rd
     obtain ⟨a, xs, rfl, p, q⟩ := rd
     cases ru
     obtain ⟨its, r, pl, _⟩ := I.tuple p
     have hdl : D.depthL l <= n := by rw [D.depth] at hn; omega
     have re0 := re
     cases e <;> rw [Rep] at re
     case non => subst re; cases rv; exact ⟨EqAt.tuple_none pl hu0, RcAt.tuple_none pl hu0⟩
     case bl b => subst re; cases rv; exact ⟨EqAt.tuple_bool _ pl hu0, RcAt.tuple_bool _ pl hu0⟩
     case int b => subst re; obtain ⟨t, rfl⟩ := rv; exact ⟨EqAt.tuple_int _ _ pl hu0, RcAt.tuple_int _ _ pl hu0⟩
     case str b => subst re; obtain ⟨t, rfl⟩ := rv; exact ⟨EqAt.tuple_str _ _ pl hu0, RcAt.tuple_str _ _ pl hu0⟩
     case lst m =>
       obtain ⟨b, ys, rfl, p', q'⟩ := re
       cases rv
       obtain ⟨its', r', pl', _⟩ := I.list p'
       exact ⟨EqAt.tuple_list pl pl'.isList hu0, RcAt.tuple_list pl pl'.isList hu0⟩
     case tup m =>
       obtain ⟨b, ys, rfl, p', q'⟩ := re
       cases rv
       obtain ⟨its', r', pl', _⟩ := I.tuple p'
       have L1 := r.length; have L2 := r'.length; have L3 := q.length; have L4 := q'.length
       have rc : RcAt A s (.ref a) (.ref b) (D.eq (.tup l) (.tup m)) := by
         have z := RcAt.tuples (e := eqAtJ l m) pl pl' hu0 (items hdl q q' r r')
         rw [D.eq, <- eqL_all l m]
         simp only [List.size_toArray] at z
         rw [<- L1, <- L2, L3, L4] at z
         exact z
       refine ⟨?_, rc⟩
       by_cases hab : a = b
       · subst hab
         rw [Rep.inj I rd0 re0, D.eq_refl]
         exact EqAt.same _
       · exact .of_refs hab rc
   | lst l =>
     have rd0 := rd
     rw [Rep] at rd
     obtain ⟨a, xs, rfl, p, q⟩ := rd
     cases ru
     obtain ⟨its, r, pl, _⟩ := I.list p
     have hdl : D.depthL l <= n := by rw [D.depth] at hn; omega
     have re0 := re
     cases e <;> rw [Rep] at re
     case non => subst re; cases rv; exact ⟨EqAt.list_none pl.isList hu0, RcAt.list_none pl.isList hu0⟩
     case bl b => subst re; cases rv; exact ⟨EqAt.list_bool _ pl.isList hu0, RcAt.list_bool _ pl.isList hu0⟩
     case int b => subst re; obtain ⟨t, rfl⟩ := rv; exact ⟨EqAt.list_int _ _ pl.isList hu0, RcAt.list_int _ _ pl.isList hu0⟩
     case str b => subst re; obtain ⟨t, rfl⟩ := rv; exact ⟨EqAt.list_str _ _ pl.isList hu0, RcAt.list_str _ _ pl.isList hu0⟩
     case tup m =>
       obtain ⟨b, ys, rfl, p', q'⟩ := re
       cases rv
       obtain ⟨its', r', pl', _⟩ := I.tuple p'
       exact ⟨EqAt.list_tuple pl.isList pl' hu0, RcAt.list_tuple pl.isList pl' hu0⟩
     case lst m =>
       obtain ⟨b, ys, rfl, p', q'⟩ := re
       cases rv
       obtain ⟨its', r', pl', _⟩ := I.list p'
       have L1 := r.length; have L2 := r'.length; have L3 := q.length; have L4 := q'.length
       have rc : RcAt A s (.ref a) (.ref b) (D.eq (.lst l) (.lst m)) := by
         rw [D.eq]
         by_cases hl : l.length = m.length
         · have z := RcAt.lists (e := eqAtJ l m) pl.isList pl'.isList (by simp; omega) hu0 (items hdl q q' r r')
           rw [<- eqL_all l m, hl]
           simp only [List.size_toArray] at z
           rw [<- L1, L3, hl] at z
           simpa using z
         · rw [eqL_len hl]
           exact RcAt.lists_lengths pl.isList pl'.isList (by simp; omega) hu0
       refine ⟨?_, rc⟩
       by_cases hab : a = b
       · subst hab
         rw [Rep.inj I rd0 re0, D.eq_refl]
         exact EqAt.same _
       · exact .of_refs hab rc
end
def rEqD (K : PySem.W.Frag) (n : Nat) : R2 := fun x y H Q => ∃ d e, Rep K H d x /\ Rep K H e y /\ D.depth d <= n /\ Q (.bl (D.eq d e)) H
def rNeD (K : PySem.W.Frag) (n : Nat) : R2 := fun x y H Q => ∃ d e, Rep K H d x /\ Rep K H e y /\ D.depth d <= n /\ Q (.bl (!D.eq d e)) H
section
variable {X : Cx}
theorem op_eqD {n : Nat} (hu : X.A.units + n < cLine) : OpR X (compareOp .Eq) (rEqD X.K n) := by
 intro pins s σ H x y v u Q I rx ry h
 obtain ⟨d, e, rd, re, hd, q⟩ := h
 exact (eqD I n X.A d e x y v u hd hu rd re rx ry).2 _ _ _ _ ⟨.bl _, H, I, rfl, q⟩
def rInD (K : PySem.W.Frag) (n : Nat) (neg : Bool) : R2 := fun x y H Q => ∃ d p xs l, y = .ref p /\ (SqL K H p xs ∨ SqT K H p xs) /\ Rep K H d x /\ RepL K H l xs /\ D.depthL l <= n /\ Q (.bl (if neg then !(l.any fun e => D.eq e d) else l.any fun e => D.eq e d)) H
open Classical in
theorem inD_pick (I : Inv X pins σ H s) {A : Around} {n : Nat} {d : D} {x : V} {u : Value} {l : List D} {xs : List V} {its : List Value} (hu : A.units + n < cLine) (rd : Rep X.K H d x) (ru : RelV x u) (rl : RepL X.K H l xs) (hd : D.depthL l <= n) (r : Vals xs its) :
   ∃ e : Value -> Bool, (∀ y ∈ its, SeqAt.EqAt A s y u (e y)) /\ its.any e = l.any fun e => D.eq e d := by
 refine ⟨fun y => if h : ∃ (j : Nat) (d' : D), l[j]? = some d' /\ its[j]? = some y then D.eq h.choose_spec.choose d else false, fun y hy => ?_, ?_⟩
 all_goals
   have L1 := r.length
   have L3 := rl.length
 · obtain ⟨j, hj, rfl⟩ := List.mem_iff_getElem.mp hy
   have hex : ∃ (j' : Nat) (d' : D), l[j']? = some d' /\ its[j']? = some its[j] := ⟨j, l[j]'(by omega), List.getElem?_eq_getElem _, by simp [hj]⟩
   dsimp only
   rw [dif_pos hex]
   have h1 := hex.choose_spec.choose_spec
   obtain ⟨x', hx', px⟩ := rl.get h1.1
   obtain ⟨u', hu', pu⟩ := r.get hx'
   rw [h1.2] at hu'
   cases hu'
   exact (eqD I n A _ d x' x _ u (Nat.le_trans (depthL_get h1.1) hd) hu px rd pu ru).1
 · have key : ∀ j (hj : j < its.length) (hl : j < l.length), (if h : ∃ (j' : Nat) (d' : D), l[j']? = some d' /\ its[j']? = some its[j] then D.eq h.choose_spec.choose d else false) = D.eq l[j] d := by
     intro j hj hl
     have hex : ∃ (j' : Nat) (d' : D), l[j']? = some d' /\ its[j']? = some its[j] := ⟨j, l[j], by simp [hl], by simp [hj]⟩
     rw [dif_pos hex]
     have h1 := hex.choose_spec.choose_spec
     obtain ⟨x', hx', px⟩ := rl.get h1.1
     obtain ⟨u', hu', pu⟩ := r.get hx'
     rw [h1.2] at hu'
     cases hu'
     obtain ⟨x2, hx2, px2⟩ := rl.get (i := j) (d := l[j]) (by simp [hl])
     obtain ⟨u2, hu2, pu2⟩ := r.get hx2
     have : u2 = its[j] := by have := (List.getElem?_eq_some_iff.mp hu2).2; exact this.symm
     subst this
     have : x' = x2 := by
       have z := eqD I n A
       exact RelV.inj pu pu2
     subst this
     rw [Rep.inj I px px2]
   rw [Bool.eq_iff_iff, List.any_eq_true, List.any_eq_true]
   constructor
   · rintro ⟨y, hy, hb⟩
     obtain ⟨j, hj, rfl⟩ := List.mem_iff_getElem.mp hy
     rw [key j hj (by omega)] at hb
     exact ⟨_, List.getElem_mem (by omega), hb⟩
   · rintro ⟨dd, hdm, hb⟩
     obtain ⟨j, hj, rfl⟩ := List.mem_iff_getElem.mp hdm
     refine ⟨its[j]'(by omega), List.getElem_mem _, ?_⟩
     rw [key j (by omega) hj]
     exact hb
theorem op_inD {n : Nat} (hu : X.A.units + n + 1 < cLine) : OpR X (compareOp .In) (rInD X.K n false) := by
 intro pins s σ H x y v u Q I rx ry h
 obtain ⟨d, p, xs, l, rfl, hq, rd, rl, hd, q⟩ := h
 cases ry
 have hu' : X.A.in1.units + n < cLine := by show X.A.units + 1 + n < cLine; omega
 rcases hq with hq | hq
 · obtain ⟨its, r, pl, hz⟩ := I.list hq
   obtain ⟨e, h1, h2⟩ := inD_pick I hu' rd rx rl hd r
   refine SeqAt.in_listAt e pl.isList (fun w hw => h1 w (by simpa using hw)) ⟨.bl _, H, I, rfl, ?_⟩
   rw [show its.toArray.any e = its.any e by simp, h2]
   exact q
 · obtain ⟨its, r, pl, hz⟩ := I.tuple hq
   obtain ⟨e, h1, h2⟩ := inD_pick I hu' rd rx rl hd r
   refine SeqAt.in_tupleAt e pl (fun w hw => h1 w (by simpa using hw)) ⟨.bl _, H, I, rfl, ?_⟩
   rw [show its.toArray.any e = its.any e by simp, h2]
   exact q
theorem op_notInD {n : Nat} (hu : X.A.units + n + 1 < cLine) : OpR X (compareOp .NotIn) (rInD X.K n true) := by
 intro pins s σ H x y v u Q I rx ry h
 obtain ⟨d, p, xs, l, rfl, hq, rd, rl, hd, q⟩ := h
 cases ry
 have hu' : X.A.in1.units + n < cLine := by show X.A.units + 1 + n < cLine; omega
 rcases hq with hq | hq
 · obtain ⟨its, r, pl, hz⟩ := I.list hq
   obtain ⟨e, h1, h2⟩ := inD_pick I hu' rd rx rl hd r
   refine SeqAt.notIn_listAt e pl.isList (fun w hw => h1 w (by simpa using hw)) ⟨.bl _, H, I, rfl, ?_⟩
   rw [show its.toArray.any e = its.any e by simp, h2]
   exact q
 · obtain ⟨its, r, pl, hz⟩ := I.tuple hq
   obtain ⟨e, h1, h2⟩ := inD_pick I hu' rd rx rl hd r
   refine SeqAt.notIn_tupleAt e pl (fun w hw => h1 w (by simpa using hw)) ⟨.bl _, H, I, rfl, ?_⟩
   rw [show its.toArray.any e = its.any e by simp, h2]
   exact q
theorem preSum_list (ns : List Int) : ∀ j, j <= ns.length -> preSum (fun i => ns.getD i 0) j = (ns.take j).sum
 | 0, _ => by simp [preSum]
 | j + 1, h => by
   rw [preSum, preSum_list ns j (by omega), List.take_add_one, List.sum_append]
   have e : ns[j]? = some (ns[j]'(by omega)) := List.getElem?_eq_getElem _
   simp [e, List.getD_eq_getElem?_getD]
theorem call_sumL (hc : X.calm = true) : CallR X (.builtin "sum") (fun xs H Q => ∃ (p : Addr) (ns : List Int), xs = [.ref p] /\ SqL X.K H p (ns.map V.int) /\ Q (.int ns.sum) H) := by
 intro pins s σ H xs us Q I r h
 obtain ⟨p, ns, rfl, hq, q⟩ := h
 obtain ⟨u, rfl, rx⟩ := vals1 r
 cases rx
 obtain ⟨its, r', pl, hz⟩ := I.list hq
 have hlen := r'.length
 rw [List.length_map] at hlen
 have hlt : p < s.heap.objs.size := by obtain ⟨_, _, e, _⟩ := pl; exact Heap.lt_size e
 refine call_sum_walkG (wpAny_pyIter_list pl.isList ⟨s.heap.objs.size, [s.heap.objs.size, p], [s.heap.objs.size], its.toArray.size, _, _, fun i => ns.getD i 0, rfl, Walks.list (A := X.A.in1) (show X.A.in1.handled = none from I.ok.hd hc) _ _ (Nat.ne_of_lt hlt) its.toArray, ⟨⟨_, Heap.get?_push_size _ rfl, rfl, rfl⟩, pl.isList.push _⟩, ?_, ?_, ?_⟩)
 · intro b hb
   show b < (s.heap.push _).objs.size
   rw [Heap.size_push]
   rcases List.mem_cons.mp hb with rfl | hb
   · exact Nat.lt_succ_self _
   · obtain rfl : b = p := by simpa using hb
     exact Nat.lt_succ_of_lt hlt
 · intro i v hv
   have hv' : its[i]? = some v := by simpa using hv
   have hi : i < its.length := (List.getElem?_eq_some_iff.mp hv').1
   obtain ⟨u', hu', ru⟩ := r'.get (i := i) (x := V.int (ns[i]'(by omega))) (by simp)
   rw [hv'] at hu'
   cases hu'
   obtain ⟨t, rfl⟩ := ru
   exact ⟨t, by simp [List.getD_eq_getElem?_getD, List.getElem?_eq_getElem (show i < ns.length by omega)]⟩
 · intro h' tk t' kk
   have e : preSum (fun i => ns.getD i 0) its.toArray.size = ns.sum := by
     rw [List.size_toArray, <- hlen, preSum_list ns _ (Nat.le_refl _), List.take_length]
   rw [e]
   refine ⟨.int ns.sum, H, I.kept (t' := tk) fun b o eo => kk b o (fun hb => ?_) (Heap.get?_push_of_some _ eo), ⟨t', rfl⟩, q⟩
   obtain rfl : b = s.heap.objs.size := by simpa using hb
   exact absurd (Heap.lt_size eo) (Nat.lt_irrefl _)
def tyN (H : Hp) : V -> String
 | .non => "NoneType"
 | .bl _ => "bool"
 | .int _ => "int"
 | .str _ => "str"
 | .ref a => match H a with
   | some (.lst _) => "list"
   | some (.frz _ (.lst _)) => "list"
   | some (.tup _) => "tuple"
   | _ => ""
 | _ => ""
def isiT (t c : String) : Bool := t == c || (t == "bool" && c == "int")
def kindsT : List String := ["NoneType", "bool", "int", "str", "list", "tuple"]
theorem kit_all (K : PySem.W.Frag) : ∀ t ∈ kindsT, ∀ c ∈ ["bool", "int", "str", "list", "tuple"], PySem.W.kitOne K (.type t) (.type c) = some (isiT t c) := by
 intro t ht c hc
 simp only [kindsT, List.mem_cons, List.not_mem_nil, or_false] at ht hc
 rcases ht with rfl | rfl | rfl | rfl | rfl | rfl <;> rcases hc with rfl | rfl | rfl | rfl | rfl <;> first | rfl | decide +kernel | (unfold PySem.W.kitOne; rfl)
theorem call_isi : CallR X (.builtin "isinstance") (fun xs H Q => ∃ x c, xs = [x, .ty c] /\ tyN H x ∈ kindsT /\ c ∈ ["bool", "int", "str", "list", "tuple"] /\ Q (.bl (isiT (tyN H x) c)) H) := by
 intro pins s σ H xs us Q I r h
 obtain ⟨x, c, rfl, hk, hc, q⟩ := h
 obtain ⟨u, u', rfl, rx, ry⟩ := vals2 r
 cases ry
 have ty : TyOf X.K H x (.type (tyN H x)) := by
   cases x with
   | non => exact .non
   | bl b => exact .bl b
   | int i => exact .int i
   | str i => exact .str i
   | ref a =>
     simp only [tyN] at hk ⊢
     cases e : H a with
     | none => rw [e] at hk; simp [kindsT] at hk
     | some o =>
       cases o with
       | lst xs => exact .lst e
       | tup xs => exact .tup e
       | frz ob u =>
         cases u with
         | lst xs => exact .frz e
         | _ => simp [e, kindsT] at hk
       | _ => simp [e, kindsT] at hk
   | _ => simp [tyN, kindsT] at hk
 exact isinst_ok I rx ty (kit_all X.K _ hk c hc) fun tk => ⟨.bl _, H, I.tok _, rfl, q⟩
end
end L2
namespace L2
open PySem PySem.Spec PyProof.Rows
structure FnG (P : Program) (w : World) (K : PySem.W.Frag) (mg : Str -> Option Value) (base : Heap) (x : Str) (k : Nat) (ps : List Str) (sp : Sp) : Prop where
 ex : ∃ (f : Addr) (fd : FuncData), FnOk P w K mg base CX0 k f fd ps sp /\ mg x = some (.ref f) /\ PySem.W.keepIn K (.ref f) = true /\ Binds K fd ps []
section
variable {X : Cx} {e : Expr} {es : List Expr} {t : TA} {p pos : Pos} {x : Str} {k : Nat} {ps : List Str} {sp : Sp}
theorem pe_callF (F : FnG X.prog X.w X.K X.mg X.base x k ps sp) (hr : Room k X.A) (hg : Gl X x) (ha : PA X (e :: es) t) (hdb : (x == ("__debug__" : Str)) = false := by decide) (he : starEach (e :: es) X.env = (false, eval e X.env) :: starEach es X.env := by rfl)
   (hpl : (backTo pos (starEach es X.env)).any (·.1) = false := by rfl) : PE X (.Call (.Name x p) (e :: es) [] pos) (tCall sp [] E0 t) := by
 obtain ⟨f, fd, F, hm, hk, hb⟩ := F.ex
 exact pe_call F hr hg hm hk hb .nil pass0 ha hdb he hpl
end
def rAddA (K : PySem.W.Frag) : R2 := fun x y H Q => match x, y with
 | .int i, .int j => Q (.int (i + j)) H
 | .int i, .bl k => Q (.int (i + b2i k)) H
 | .str i, .str j => i.length + j.length <= sizeLine /\ Q (.str (i ++ j)) H
 | .ref a, .ref b => rCatT K (.ref a) (.ref b) H Q ∨ rCat (.ref a) (.ref b) H Q
 | _, _ => False
def toD : V -> D
 | .non => .non
 | .bl b => .bl b
 | .int i => .int i
 | .str x => .str x
 | _ => .non
theorem rep_toD {K : PySem.W.Frag} {H : Hp} {x : V} (h : flatV x = true) : Rep K H (toD x) x := by
 cases x <;> first | (simp [flatV] at h; done) | (simp [toD, Rep])
theorem eq_toD {x y : V} (hx : flatV x = true) (hy : flatV y = true) : D.eq (toD x) (toD y) = eqV x y := by
 cases x <;> cases y <;> first | (simp [flatV] at hx; done) | (simp [flatV] at hy; done) | (simp [toD, D.eq, eqV])
def rEqA (K : PySem.W.Frag) (n : Nat) (neg : Bool) : R2 := fun x y H Q => match flatV x && flatV y with
 | true => Q (.bl (if neg then !eqV x y else eqV x y)) H
 | false => ∃ d e, Rep K H d x /\ Rep K H e y /\ D.depth d <= n /\ Q (.bl (if neg then !D.eq d e else D.eq d e)) H
def rIxA (K : PySem.W.Frag) : R2 := fun x y H Q => match x, y with
 | .str z, .int i => z.length <= sizeLine /\ ∃ c, atI z.cps.toList i = some c /\ Q (.str ⟨#[c]⟩) H
 | .ref p, .int i => ∃ xs v, (SqL K H p xs ∨ SqT K H p xs) /\ atI xs i = some v /\ Q v H
 | _, _ => False
def rMulA : R2 := fun x y H Q => match x, y with
 | .int i, .int j => CMul i j /\ Q (.int (i * j)) H
 | _, _ => False
def CDivB (j : Int) : Prop := 0 < j /\ j.natAbs.log2 < 9000
def rDivA : R2 := fun x y H Q => match x, y with
 | .int i, .int j => CDivB j /\ Q (.int (i / j)) H
 | _, _ => False
def rModA : R2 := fun x y H Q => match x, y with
 | .int i, .int j => 0 < j /\ Q (.int (i % j)) H
 | _, _ => False
def rSubA : R2 := fun x y H Q => match x, y with
 | .int i, .int j => Q (.int (i - j)) H
 | _, _ => False
def rPowA : R2 := fun x y H Q => match x, y with
 | .int i, .int j => CPow i j /\ Q (.int (i ^ j.toNat)) H
 | _, _ => False
def rCmpA (p : Int -> Int -> Bool) (q : Str -> Str -> Bool) : R2 := fun x y H Q => match x, y with
 | .int i, .int j => Q (.bl (p i j)) H
 | .str i, .str j => Q (.bl (q i j)) H
 | _, _ => False
section
variable {X : Cx}
theorem op_addA : OpR X (binaryOp .Add) (rAddA X.K) := by
 intro pins s σ H x y v u Q I rx ry h
 unfold rAddA at h
 split at h
 · exact op_add pins s σ H _ _ v u Q I rx ry ⟨_, _, rfl, rfl, h⟩
 · exact op_add_ib pins s σ H _ _ v u Q I rx ry ⟨_, _, rfl, rfl, h⟩
 · exact op_add_str pins s σ H _ _ v u Q I rx ry ⟨_, _, rfl, rfl, h.1, h.2⟩
 · rcases h with h | h
   · exact op_catT pins s σ H _ _ v u Q I rx ry h
   · exact op_cat pins s σ H _ _ v u Q I rx ry h
 · exact h.elim
theorem op_mulA : OpR X (binaryOp .Mult) rMulA := by
 intro pins s σ H x y v u Q I rx ry h
 unfold rMulA at h
 split at h
 · exact op_mul pins s σ H _ _ v u Q I rx ry ⟨_, _, rfl, rfl, h.1, h.2⟩
 · exact h.elim
theorem op_divA : OpR X (binaryOp .FloorDiv) rDivA := by
 intro pins s σ H x y v u Q I rx ry h
 unfold rDivA at h
 split at h
 · obtain ⟨t, rfl⟩ := rx
   obtain ⟨t', rfl⟩ := ry
   obtain ⟨⟨h1, h2⟩, q⟩ := h
   refine floordiv_int (by omega) ?_ (.inl (PyProof.noPylong_of_log2 h2))
   exact ⟨.int _, H, I.tok _, ⟨s.toks, by rw [Int.fdiv_eq_ediv_of_nonneg _ (Int.le_of_lt h1)]⟩, q⟩
 · exact h.elim
theorem op_modA : OpR X (binaryOp .Mod) rModA := by
 intro pins s σ H x y v u Q I rx ry h
 unfold rModA at h
 split at h
 · exact op_mod pins s σ H _ _ v u Q I rx ry ⟨_, _, rfl, rfl, h.1, h.2⟩
 · exact h.elim
theorem op_subA : OpR X (binaryOp .Sub) rSubA := by
 intro pins s σ H x y v u Q I rx ry h
 unfold rSubA at h
 split at h
 · exact op_sub pins s σ H _ _ v u Q I rx ry ⟨_, _, rfl, rfl, h⟩
 · exact h.elim
theorem op_powA : OpR X (binaryOp .Pow) rPowA := by
 intro pins s σ H x y v u Q I rx ry h
 unfold rPowA at h
 split at h
 · exact op_pow pins s σ H _ _ v u Q I rx ry ⟨_, _, rfl, rfl, h.1, h.2⟩
 · exact h.elim
theorem eqA_run {n : Nat} {neg : Bool} (hu : X.A.units + n < cLine) {pins : List (Addr × Obj)} {s : Shared} {σ : St} {H : Hp} {x y : V} {v u : Value} {Q : VK} (I : Inv X pins σ H s) (rx : RelV x v) (ry : RelV y u) (h : rEqA X.K n neg x y H Q) :
   ∃ b, SeqAt.RcAt X.A s v u b /\ Q (.bl (if neg then !b else b)) H := by
 unfold rEqA at h
 cases e : flatV x && flatV y with
 | true =>
   rw [e] at h
   rw [Bool.and_eq_true] at e
   have d0 : D.depth (toD x) <= n := by cases x <;> simp [toD, D.depth]
   have z := (eqD I n X.A (toD x) (toD y) x y v u d0 hu (rep_toD e.1) (rep_toD e.2) rx ry).2
   rw [eq_toD e.1 e.2] at z
   exact ⟨_, z, h⟩
 | false =>
   rw [e] at h
   obtain ⟨d, e, rd, re, hd, q⟩ := h
   exact ⟨_, (eqD I n X.A d e x y v u hd hu rd re rx ry).2, q⟩
theorem op_eqA {n : Nat} (hu : X.A.units + n < cLine) : OpR X (compareOp .Eq) (rEqA X.K n false) := by
 intro pins s σ H x y v u Q I rx ry h
 obtain ⟨b, r, q⟩ := eqA_run hu I rx ry h
 exact r _ _ _ _ ⟨.bl b, H, I, rfl, q⟩
theorem rIxA_of {K : PySem.W.Frag} {x y : V} {H : Hp} {Q : VK} (h : rIxA K x y H Q) : rIx K x y H Q := by
 unfold rIxA at h
 split at h
 · obtain ⟨h1, c, h2, q⟩ := h
   exact .inr (.inr ⟨_, _, c, rfl, rfl, h1, h2, q⟩)
 · obtain ⟨xs, w, h1 | h1, h2, q⟩ := h
   · exact .inl ⟨_, xs, _, w, rfl, rfl, h1, h2, q⟩
   · exact .inr (.inl ⟨_, xs, _, w, rfl, rfl, h1, h2, q⟩)
 · exact h.elim
theorem IxR.imp {r r' : R2} (h : IxR X r) (i : ∀ x y H Q, r' x y H Q -> r x y H Q) : IxR X r' := by
 unfold IxR at h ⊢
 intros
 apply h <;> first | assumption | (apply i; assumption)
theorem op_ixA : IxR X (rIxA X.K) := ix_seq.imp fun _ _ _ _ h => rIxA_of h
end
end L2
namespace L2
open PySem PySem.Spec PyProof.Rows
section
variable {X : Cx} {pins : List (Addr × Obj)} {σ : St} {H : Hp} {s : Shared}
theorem eqItems (I : Inv X pins σ H s) {n : Nat} {A : Around} (hu : A.units + n < cLine) {l m : List D} {xs ys : List V} {its its' : List Value} (hd : D.depthL l <= n) (rl : RepL X.K H l xs) (rm : RepL X.K H m ys) (r : Vals xs its) (r' : Vals ys its') :
   ∀ j (h1 : j < its.toArray.size) (h2 : j < its'.toArray.size), SeqAt.EqAt A s its.toArray[j] its'.toArray[j] (eqAtJ l m j) := by
 intro j h1 h2
 have L1 := r.length; have L2 := r'.length; have L3 := rl.length; have L4 := rm.length
 simp only [List.size_toArray] at h1 h2
 have j1 : j < l.length := by omega
 have j2 : j < m.length := by omega
 obtain ⟨x', hx', px⟩ := rl.get (i := j) (d := l[j]) (by simp [j1])
 obtain ⟨y', hy', py⟩ := rm.get (i := j) (d := m[j]) (by simp [j2])
 obtain ⟨u', hu', pu⟩ := r.get hx'
 obtain ⟨v', hv', pv'⟩ := r'.get hy'
 have e1 : its.toArray[j] = u' := by
   have := (List.getElem?_eq_some_iff.mp hu').2; simpa using this
 have e2 : its'.toArray[j] = v' := by
   have := (List.getElem?_eq_some_iff.mp hv').2; simpa using this
 have e3 : eqAtJ l m j = D.eq l[j] m[j] := by simp [eqAtJ, j1, j2]
 rw [e1, e2, e3]
 exact (eqD I n A l[j] m[j] x' y' u' v' (Nat.le_trans (depthL_get (l := l) (j := j) (by simp [j1])) hd) hu px py pu pv').1
set_option maxHeartbeats 4000000 in
theorem neD (I : Inv X pins σ H s) {n : Nat} {A : Around} {d e : D} {x y : V} {u v : Value} (hn : D.depth d <= n + 1) (hu : A.units + (n + 1) < cLine) (rd : Rep X.K H d x) (re : Rep X.K H e y) (ru : RelV x u) (rv : RelV y v) : SeqAt.RcNeAt A s u v (!D.eq d e) := by
 have hu0 : A.units < cLine := by omega
 have hu1 : A.in1.units + n < cLine := by show A.units + 1 + n < cLine; omega
 cases d <;> rw [Rep] at rd
 case non =>
   subst rd
   cases ru
   cases e <;> rw [Rep] at re
   case non =>
     subst re
     cases rv
     exact SeqAt.RcNeAt.none_none
   case bl c =>
     subst re
     cases rv
     exact SeqAt.RcNeAt.none_bool _
   case int c =>
     subst re
     obtain ⟨t', rfl⟩ := rv
     exact SeqAt.RcNeAt.none_int _ _
   case str c =>
     subst re
     obtain ⟨t', rfl⟩ := rv
     exact SeqAt.RcNeAt.none_str _ _
   case tup m =>
     obtain ⟨b', ys, rfl, p', q'⟩ := re
     cases rv
     obtain ⟨its', r', pl', _⟩ := I.tuple p'
     exact SeqAt.RcNeAt.none_tuple  pl' hu0
   case lst m =>
     obtain ⟨b', ys, rfl, p', q'⟩ := re
     cases rv
     obtain ⟨its', r', pl', _⟩ := I.list p'
     exact SeqAt.RcNeAt.none_list  pl'.isList hu0
 case bl b =>
   subst rd
   cases ru
   cases e <;> rw [Rep] at re
   case non =>
     subst re
     cases rv
     exact SeqAt.RcNeAt.bool_none _
   case bl c =>
     subst re
     cases rv
     exact SeqAt.RcNeAt.bool_bool _ _
   case int c =>
     subst re
     obtain ⟨t', rfl⟩ := rv
     exact SeqAt.RcNeAt.bool_int _ _ _
   case str c =>
     subst re
     obtain ⟨t', rfl⟩ := rv
     exact SeqAt.RcNeAt.bool_str _ _ _
   case tup m =>
     obtain ⟨b', ys, rfl, p', q'⟩ := re
     cases rv
     obtain ⟨its', r', pl', _⟩ := I.tuple p'
     exact SeqAt.RcNeAt.bool_tuple _ pl' hu0
   case lst m =>
     obtain ⟨b', ys, rfl, p', q'⟩ := re
     cases rv
     obtain ⟨its', r', pl', _⟩ := I.list p'
     exact SeqAt.RcNeAt.bool_list _ pl'.isList hu0
 case int b =>
   subst rd
   obtain ⟨t, rfl⟩ := ru
   cases e <;> rw [Rep] at re
   case non =>
     subst re
     cases rv
     exact SeqAt.RcNeAt.int_none _ _
   case bl c =>
     subst re
     cases rv
     exact SeqAt.RcNeAt.int_bool _ _ _
   case int c =>
     subst re
     obtain ⟨t', rfl⟩ := rv
     exact SeqAt.RcNeAt.int_int _ _ _ _
   case str c =>
     subst re
     obtain ⟨t', rfl⟩ := rv
     exact SeqAt.RcNeAt.int_str _ _ _ _
   case tup m =>
     obtain ⟨b', ys, rfl, p', q'⟩ := re
     cases rv
     obtain ⟨its', r', pl', _⟩ := I.tuple p'
     exact SeqAt.RcNeAt.int_tuple _ _ pl' hu0
   case lst m =>
     obtain ⟨b', ys, rfl, p', q'⟩ := re
     cases rv
     obtain ⟨its', r', pl', _⟩ := I.list p'
     exact SeqAt.RcNeAt.int_list _ _ pl'.isList hu0
 case str b =>
   subst rd
   obtain ⟨t, rfl⟩ := ru
   cases e <;> rw [Rep] at re
   case non =>
     subst re
     cases rv
     exact SeqAt.RcNeAt.str_none _ _
   case bl c =>
     subst re
     cases rv
     exact SeqAt.RcNeAt.str_bool _ _ _
   case int c =>
     subst re
     obtain ⟨t', rfl⟩ := rv
     exact SeqAt.RcNeAt.str_int _ _ _ _
   case str c =>
     subst re
     obtain ⟨t', rfl⟩ := rv
     exact SeqAt.RcNeAt.str_str _ _ _ _
   case tup m =>
     obtain ⟨b', ys, rfl, p', q'⟩ := re
     cases rv
     obtain ⟨its', r', pl', _⟩ := I.tuple p'
     exact SeqAt.RcNeAt.str_tuple _ _ pl' hu0
   case lst m =>
     obtain ⟨b', ys, rfl, p', q'⟩ := re
     cases rv
     obtain ⟨its', r', pl', _⟩ := I.list p'
     exact SeqAt.RcNeAt.str_list _ _ pl'.isList hu0
 case tup l =>
   obtain ⟨a, xs, rfl, p, q⟩ := rd
   cases ru
   obtain ⟨its, r, pl, _⟩ := I.tuple p
   cases e <;> rw [Rep] at re
   case non =>
     subst re
     cases rv
     exact SeqAt.RcNeAt.tuple_none  pl hu0
   case bl c =>
     subst re
     cases rv
     exact SeqAt.RcNeAt.tuple_bool _ pl hu0
   case int c =>
     subst re
     obtain ⟨t', rfl⟩ := rv
     exact SeqAt.RcNeAt.tuple_int _ _ pl hu0
   case str c =>
     subst re
     obtain ⟨t', rfl⟩ := rv
     exact SeqAt.RcNeAt.tuple_str _ _ pl hu0
   case tup m =>
     obtain ⟨b', ys, rfl, p', q'⟩ := re
     cases rv
     obtain ⟨its', r', pl', _⟩ := I.tuple p'
     have L1 := r.length; have L2 := r'.length; have L3 := q.length; have L4 := q'.length
     have hdl : D.depthL l <= n := by rw [D.depth] at hn; omega
     have it := eqItems I hu1 hdl q q' r r'
     have z := SeqAt.RcNeAt.tuples (e := eqAtJ l m) pl pl' hu0 it
     rw [D.eq, <- eqL_all l m]
     simp only [List.size_toArray] at z
     rw [<- L1, <- L2, L3, L4] at z
     exact z
   case lst m =>
     obtain ⟨b', ys, rfl, p', q'⟩ := re
     cases rv
     obtain ⟨its', r', pl', _⟩ := I.list p'
     exact SeqAt.RcNeAt.tuple_list  pl pl'.isList hu0
 case lst l =>
   obtain ⟨a, xs, rfl, p, q⟩ := rd
   cases ru
   obtain ⟨its, r, pl, _⟩ := I.list p
   cases e <;> rw [Rep] at re
   case non =>
     subst re
     cases rv
     exact SeqAt.RcNeAt.list_none  pl.isList hu0
   case bl c =>
     subst re
     cases rv
     exact SeqAt.RcNeAt.list_bool _ pl.isList hu0
   case int c =>
     subst re
     obtain ⟨t', rfl⟩ := rv
     exact SeqAt.RcNeAt.list_int _ _ pl.isList hu0
   case str c =>
     subst re
     obtain ⟨t', rfl⟩ := rv
     exact SeqAt.RcNeAt.list_str _ _ pl.isList hu0
   case tup m =>
     obtain ⟨b', ys, rfl, p', q'⟩ := re
     cases rv
     obtain ⟨its', r', pl', _⟩ := I.tuple p'
     exact SeqAt.RcNeAt.list_tuple  pl.isList pl' hu0
   case lst m =>
     obtain ⟨b', ys, rfl, p', q'⟩ := re
     cases rv
     obtain ⟨its', r', pl', _⟩ := I.list p'
     have L1 := r.length; have L2 := r'.length; have L3 := q.length; have L4 := q'.length
     have hdl : D.depthL l <= n := by rw [D.depth] at hn; omega
     have it := eqItems I hu1 hdl q q' r r'
     rw [D.eq]
     by_cases hl : l.length = m.length
     · have z := SeqAt.RcNeAt.lists (e := eqAtJ l m) pl.isList pl'.isList (by simp; omega) hu0 it
       rw [<- eqL_all l m, hl]
       simp only [List.size_toArray] at z
       rw [<- L1, L3, hl] at z
       simpa using z
     · rw [eqL_len hl]
       exact SeqAt.RcNeAt.lists_lengths pl.isList pl'.isList (by simp; omega) hu0
theorem op_neA {n : Nat} (hu : X.A.units + (n + 1) < cLine) : OpR X (compareOp .NotEq) (rEqA X.K (n + 1) true) := by
 intro pins s σ H x y v u Q I rx ry h
 unfold rEqA at h
 cases e : flatV x && flatV y with
 | true =>
   rw [e] at h
   rw [Bool.and_eq_true] at e
   have d0 : D.depth (toD x) <= n + 1 := by cases x <;> simp [toD, D.depth]
   have z := neD I (n := n) (A := X.A) d0 hu (rep_toD e.1) (rep_toD e.2) rx ry
   rw [eq_toD e.1 e.2] at z
   exact z _ _ _ _ ⟨.bl _, H, I, rfl, h⟩
 | false =>
   rw [e] at h
   obtain ⟨d, e, rd, re, hd, q⟩ := h
   exact neD I (n := n) (A := X.A) hd hu rd re rx ry _ _ _ _ ⟨.bl _, H, I, rfl, q⟩
def ltC (x y : Str) : Bool := decide (x.cps.toList < y.cps.toList)
theorem op_ltA : OpR X (compareOp .Lt) (rCmpA (fun i j => decide (i < j)) ltC) := by
 intro pins s σ H x y v u Q I rx ry h
 unfold rCmpA at h
 split at h
 · exact op_lt pins s σ H _ _ v u Q I rx ry ⟨_, _, rfl, rfl, h⟩
 · obtain ⟨t, rfl⟩ := rx; obtain ⟨t', rfl⟩ := ry
   exact PySem.P.lt_str ⟨.bl _, H, I, rfl, h⟩
 · exact h.elim
theorem op_leA : OpR X (compareOp .LtE) (rCmpA (fun i j => decide (i <= j)) (fun x y => !ltC y x)) := by
 intro pins s σ H x y v u Q I rx ry h
 unfold rCmpA at h
 split at h
 · exact op_le pins s σ H _ _ v u Q I rx ry ⟨_, _, rfl, rfl, h⟩
 · obtain ⟨t, rfl⟩ := rx; obtain ⟨t', rfl⟩ := ry
   exact PySem.P.le_str ⟨.bl _, H, I, rfl, h⟩
 · exact h.elim
theorem op_gtA : OpR X (compareOp .Gt) (rCmpA (fun i j => decide (j < i)) (fun x y => ltC y x)) := by
 intro pins s σ H x y v u Q I rx ry h
 unfold rCmpA at h
 split at h
 · exact op_gt pins s σ H _ _ v u Q I rx ry ⟨_, _, rfl, rfl, h⟩
 · obtain ⟨t, rfl⟩ := rx; obtain ⟨t', rfl⟩ := ry
   exact PySem.P.gt_str ⟨.bl _, H, I, rfl, h⟩
 · exact h.elim
theorem op_geA : OpR X (compareOp .GtE) (rCmpA (fun i j => decide (j <= i)) (fun x y => !ltC x y)) := by
 intro pins s σ H x y v u Q I rx ry h
 unfold rCmpA at h
 split at h
 · exact op_ge pins s σ H _ _ v u Q I rx ry ⟨_, _, rfl, rfl, h⟩
 · obtain ⟨t, rfl⟩ := rx; obtain ⟨t', rfl⟩ := ry
   exact PySem.P.ge_str ⟨.bl _, H, I, rfl, h⟩
 · exact h.elim
end
def posOf : List Str -> Str -> Nat
 | [], _ => 0
 | y :: r, x => if x == y then 0 else posOf r x + 1
def capIx (N : List Str) : List (Str × NameKind) -> List Nat
 | [] => []
 | (n, k) :: r => if k == .free then posOf N n :: capIx N r else capIx N r
section
variable {X : Cx} {iter elt iter2 : Expr} {ifs ifs2 : List Expr} {scope : Scope} {pos px px2 : Pos} {x x2 : Str} {tt tt2 : TT} {te : TE} {wi wi2 : TI}
theorem pe_comp1 (hc : X.calm = true) (S : CompScope X scope [x] (capIx X.N scope.names)) (hi : PI X (.Name x px) iter wi) (hx : scope.names.lookup x = some .local) (hN : ([x] ++ (capIx X.N scope.names).map fun j => X.N.getD j Str.empty).Nodup)
   (ht : ∀ C s2 H2 fp, PIf (compCx X scope [x] (capIx X.N scope.names) C s2 H2 fp) ifs tt) (he : ∀ C s2 H2 fp, PE (compCx X scope [x] (capIx X.N scope.names) C s2 H2 fp) elt te)
   (hs : ∀ x, foldedSetIterable iter X.env x = pure x := by intro _; rfl) :
   PE X (.ListComp elt [⟨.Name x px, iter, ifs, 0⟩] scope pos) (tComp 1 (capIx X.N scope.names) wi (lpW (gName 0) tt (tEmit te))) :=
 pe_compG (ts := [x]) hc S hi (plp_one hc (fun C s2 H2 fp => pg_name (i := 0) hN rfl (.inl (lookup_relabel_local hx)) (.inr (lookup_relabel_local hx))) ht he) hs
theorem ps_setComp1 {i : Nat} {y : Str} {py sp : Pos} (hc : X.calm = true) (S : CompScope X scope [x] (capIx X.N scope.names)) (hi : PI X (.Name x px) iter wi) (hx : scope.names.lookup x = some .local) (hN : ([x] ++ (capIx X.N scope.names).map fun j => X.N.getD j Str.empty).Nodup)
   (ht : ∀ C s2 H2 fp, PIf (compCx X scope [x] (capIx X.N scope.names) C s2 H2 fp) ifs tt) (he : ∀ C s2 H2 fp, PE (compCx X scope [x] (capIx X.N scope.names) C s2 H2 fp) elt te)
   (hN0 : X.N.Nodup) (hiN : X.N[i]? = some y) (hy : X.env.kindOf y = some .local)
   (hsw : swapsWith (.ListComp elt [⟨.Name x px, iter, ifs, 0⟩] scope pos) (some (.Name y py)) sp.line X.env = pure true := by rfl) (hs : ∀ x, foldedSetIterable iter X.env x = pure x := by intro _; rfl) :
   PS X (.Assign [.Name y py] (.ListComp elt [⟨.Name x px, iter, ifs, 0⟩] scope pos) sp) (tAsg (tComp 1 (capIx X.N scope.names) wi (lpW (gName 0) tt (tEmit te))) (gName i)) :=
 ps_setCompG (ts := [x]) hc S hi (plp_one hc (fun C s2 H2 fp => pg_name (i := 0) hN rfl (.inl (lookup_relabel_local hx)) (.inr (lookup_relabel_local hx))) ht he) hN0 hiN hy hsw hs
theorem pe_comp2 (hc : X.calm = true) (S : CompScope X scope [x, x2] (capIx X.N scope.names)) (hi : PI X (.Name x px) iter wi) (hx : scope.names.lookup x = some .local) (hx2 : scope.names.lookup x2 = some .local) (hN : ([x, x2] ++ (capIx X.N scope.names).map fun j => X.N.getD j Str.empty).Nodup)
   (ht : ∀ C s2 H2 fp, PIf (compCx X scope [x, x2] (capIx X.N scope.names) C s2 H2 fp) ifs tt) (hi2 : ∀ C s2 H2 fp, PI (compCx X scope [x, x2] (capIx X.N scope.names) C s2 H2 fp) (.Name x2 px2) iter2 wi2)
   (ht2 : ∀ C s2 H2 fp, PIf (compCx X scope [x, x2] (capIx X.N scope.names) C s2 H2 fp) ifs2 tt2) (he : ∀ C s2 H2 fp, PE (compCx X scope [x, x2] (capIx X.N scope.names) C s2 H2 fp) elt te)
   (hs : ∀ x, foldedSetIterable iter X.env x = pure x := by intro _; rfl) (hs2 : ∀ (C : Addr) (s2 : Shared) (H2 : Hp) (fp : List Addr) y, foldedSetIterable iter2 (compCx X scope [x, x2] (capIx X.N scope.names) C s2 H2 fp).env y = pure y := by intros; rfl) :
   PE X (.ListComp elt [⟨.Name x px, iter, ifs, 0⟩, ⟨.Name x2 px2, iter2, ifs2, 0⟩] scope pos) (tComp 2 (capIx X.N scope.names) wi (lpW (gName 0) tt (tIn wi2 (lpW (gName 1) tt2 (tEmit te))))) :=
 pe_compG (ts := [x, x2]) hc S hi (plp_two hc (fun C s2 H2 fp => pg_name (i := 0) hN rfl (.inl (lookup_relabel_local hx)) (.inr (lookup_relabel_local hx))) ht hi2
   (fun C s2 H2 fp => pg_name (i := 1) hN rfl (.inl (lookup_relabel_local hx2)) (.inr (lookup_relabel_local hx2))) ht2 he hs2) hs
theorem lp_range {lo : Int} {n : Nat} {g : TG} {tt : TT} {tb : TB} {σ : St} {H : Hp} {acc : List V} {Q : St -> Hp -> List V -> Prop} (Pv : Nat -> St -> Hp -> List V -> Prop) (h0 : Pv 0 σ H acc)
   (hs : ∀ i σ H acc, i < n -> Pv i σ H acc -> g (.int (lo + i)) σ H fun σ2 H2 => tt σ2 H2 fun b H3 => if b = true then tb σ2 H3 acc (Pv (i + 1)) else Pv (i + 1) σ2 H3 acc) (hd : ∀ σ H acc, Pv n σ H acc -> Q σ H acc) : lpW g tt tb (Itr lo n) σ H acc Q := by
 refine ⟨fun i m σ H acc => m = n - i /\ i <= n /\ Pv i σ H acc, ⟨n, by simp, Nat.zero_le _, h0⟩, ?_⟩
 rintro i m σ H acc ⟨rfl, hi, p⟩
 by_cases hlt : i < n
 · refine .inr ⟨hlt, Pv (i + 1), fun σ' H' a p' => ⟨n - (i + 1), by omega, rfl, hlt, p'⟩, fun x H' y => ?_⟩
   obtain ⟨e, y⟩ := y
   subst e y
   exact hs i σ _ acc hlt p
 · have e : i = n := by omega
   subst e
   exact .inl ⟨Nat.le_refl _, hd σ H acc p⟩
theorem lp_list {K : PySem.W.Frag} {a : Addr} {xs : List V} {g : TG} {tt : TT} {tb : TB} {σ : St} {H : Hp} {acc : List V} {Q : St -> Hp -> List V -> Prop} (Pv : Nat -> St -> Hp -> List V -> Prop) (h0 : Pv 0 σ H acc) (hl : ∀ i σ H acc, i <= xs.length -> Pv i σ H acc -> SqL K H a xs)
   (hs : ∀ i x σ H acc, xs[i]? = some x -> Pv i σ H acc -> g x σ H fun σ2 H2 => tt σ2 H2 fun b H3 => if b = true then tb σ2 H3 acc (Pv (i + 1)) else Pv (i + 1) σ2 H3 acc) (hd : ∀ σ H acc, Pv xs.length σ H acc -> Q σ H acc) : lpW g tt tb (Itl K a) σ H acc Q := by
 refine ⟨fun i m σ H acc => m = xs.length - i /\ i <= xs.length /\ Pv i σ H acc, ⟨xs.length, by simp, Nat.zero_le _, h0⟩, ?_⟩
 rintro i m σ H acc ⟨rfl, hi, p⟩
 have q := hl i σ H acc hi p
 by_cases hlt : i < xs.length
 · refine .inr ⟨⟨xs, xs[i], q, by simp [hlt]⟩, Pv (i + 1), fun σ' H' a p' => ⟨xs.length - (i + 1), by omega, rfl, hlt, p'⟩, fun x H' y => ?_⟩
   obtain ⟨e, y⟩ := y
   subst e
   exact hs i x σ _ acc (y xs q) p
 · have e : i = xs.length := by omega
   subst e
   exact .inl ⟨⟨xs, q, Nat.le_refl _⟩, hd σ H acc p⟩
theorem lp_tup {K : PySem.W.Frag} {a : Addr} {xs : List V} {g : TG} {tt : TT} {tb : TB} {σ : St} {H : Hp} {acc : List V} {Q : St -> Hp -> List V -> Prop} (Pv : Nat -> St -> Hp -> List V -> Prop) (h0 : Pv 0 σ H acc) (hl : ∀ i σ H acc, i <= xs.length -> Pv i σ H acc -> SqT K H a xs)
   (hs : ∀ i x σ H acc, xs[i]? = some x -> Pv i σ H acc -> g x σ H fun σ2 H2 => tt σ2 H2 fun b H3 => if b = true then tb σ2 H3 acc (Pv (i + 1)) else Pv (i + 1) σ2 H3 acc) (hd : ∀ σ H acc, Pv xs.length σ H acc -> Q σ H acc) : lpW g tt tb (Itt K a) σ H acc Q := by
 refine ⟨fun i m σ H acc => m = xs.length - i /\ i <= xs.length /\ Pv i σ H acc, ⟨xs.length, by simp, Nat.zero_le _, h0⟩, ?_⟩
 rintro i m σ H acc ⟨rfl, hi, p⟩
 have q := hl i σ H acc hi p
 by_cases hlt : i < xs.length
 · refine .inr ⟨⟨xs, xs[i], q, by simp [hlt]⟩, Pv (i + 1), fun σ' H' a p' => ⟨xs.length - (i + 1), by omega, rfl, hlt, p'⟩, fun x H' y => ?_⟩
   obtain ⟨e, y⟩ := y
   subst e
   exact hs i x σ _ acc (y xs q) p
 · have e : i = xs.length := by omega
   subst e
   exact .inl ⟨⟨xs, q, Nat.le_refl _⟩, hd σ H acc p⟩
end
def But (p : Addr) (H H' : Hp) : Prop := ∀ b o, b ≠ p -> H b = some o -> H' b = some o
theorem new_of {H : Hp} {o : HO} {Q : V -> Hp -> Prop} (h : ∀ l H', H l = none -> Same H H' -> H' l = some o -> Q (.ref l) H') : ∀ l, H l = none -> Q (.ref l) (upd H l o) := fun l hl =>
 h l _ hl (fun b u e => by rw [upd_ne (ne_of_none e hl)]; exact e) upd_same
theorem wr_of {H : Hp} {p : Addr} {o : HO} {Q : Hp -> Prop} (h : ∀ H', But p H H' -> H' p = some o -> Q H') : Q (upd H p o) := h _ (fun b u hb e => by rw [upd_ne hb]; exact e) upd_same
theorem Same.but {H H' : Hp} (s : Same H H') (p : Addr) : But p H H' := fun b o _ e => s b o e
theorem But.trans {p : Addr} {H H1 H2 : Hp} (a : But p H H1) (b : But p H1 H2) : But p H H2 := fun c o hc e => b c o hc (a c o hc e)
theorem But.refl (p : Addr) (H : Hp) : But p H H := fun _ _ _ e => e
end L2
namespace L2
open PySem PySem.Spec PyProof.Rows
def Its (z : Str) : It := ⟨fun i _ => i < z.cps.size, fun i H x H' => H' = H /\ ∃ c, z.cps.toList[i]? = some c /\ x = .str ⟨#[c]⟩, fun i _ => z.cps.size <= i⟩
section
variable {X : Cx} {tg : Expr}
theorem turn_str {P : Program} {w : World} {K : PySem.W.Frag} {tg : Expr} (z : Str) (it : Addr) (T : String) (tk0 : Tok) (hT : T = "str_ascii_iterator" ∨ T = "str_iterator") : Turn P w K tg (Its z) [it] it (fun i h => h.IsStrIter it T z tk0 i) where
 mem := by simp
 obj := fun i h st b hb => by
   have e : b = it := by simpa using hb
   subst e
   obtain ⟨o, e, c, d⟩ := st
   exact ⟨o, e, fun v z => by rw [d] at z; cases z⟩
 keep := fun i h h' ⟨o, e, r⟩ k => ⟨o, k it (by simp) o e, r⟩
 item := by
   intro X hP hw hK hc i pins s σ H E I hf st hg
   subst hP hw hK
   obtain ⟨f0, f1, f2, f3, f4, f5⟩ := hf it (by simp)
   have hi : i < z.cps.size := hg
   have hx : z.cps[i]? = some z.cps[i] := by simp [hi]
   have fin : ∀ h', h'.IsStrIter it T z tk0 (i + 1) -> Heap.SameBut it s.heap h' -> ∃ u, some (Value.str ⟨#[z.cps[i]]⟩ s.toks) = some u /\
       wpAny (model X.prog X.w) X.A (letOwnedTupleGo tg (.ref it) u) (fun _ s2 => ∃ x H', Inv X pins σ H' s2 /\ RelV x u /\ (Its z).yld i H x H' /\ s2.heap.IsStrIter it T z tk0 (i + 1) /\ ∀ b ∈ [it], H' b = none) E { s with heap := h', toks := s.toks + 1 } := fun h' st' sb => by
     have I1 : Inv X pins σ H { s with heap := h', toks := s.toks + 1 } := I.turned (fun b o hb e => (sb.2 b hb).trans e) f0 f1 f3 f4 f5
     obtain ⟨o, e, c, d⟩ := id st'
     refine ⟨_, rfl, go_of (s := { s with heap := h', toks := s.toks + 1 }) e c d (by rcases hT with rfl | rfl <;> decide) ⟨.str ⟨#[z.cps[i]]⟩, H, I1, ⟨s.toks, rfl⟩, ⟨rfl, _, by simp [hi], rfl⟩, st', fun b hb => (hf b hb).1⟩⟩
   rcases hT with rfl | rfl
   · exact wpAny_pyNext_ascii_item st hx fin
   · exact wpAny_pyNext_wide_item st hx fin
 done := by
   intro X hP hw hK hc i pins s σ H E I hf st hg
   subst hP hw hK
   obtain ⟨f0, f1, f2, f3, f4, f5⟩ := hf it (by simp)
   have hx : z.cps[i]? = none := by
     have : z.cps.size <= i := hg
     simp [this]
   rcases hT with rfl | rfl
   · exact wpAny_pyNext_ascii_end (I.ok.hd hc) st hx fun h' eb => ⟨rfl, I.turned (t' := s.toks) (fun b o hb e => eb b o hb e) f0 f1 f3 f4 f5⟩
   · exact wpAny_pyNext_wide_end (I.ok.hd hc) st hx fun h' eb => ⟨rfl, I.turned (t' := s.toks) (fun b o hb e => eb b o hb e) f0 f1 f3 f4 f5⟩
 self := fun _ _ _ _ _ st h => by
   rcases hT with rfl | rfl
   · exact wpAny_pyIter_striter_ascii st h
   · exact wpAny_pyIter_striter_wide st h
def iSeq (K : PySem.W.Frag) (tl : TE) : TI := fun σ H R => tl σ H fun x H1 => match x with
 | .str z => R (Its z) H1
 | .ref a => ((∃ xs, SqL K H1 a xs) /\ R (Itl K a) H1) ∨ ((∃ xs, SqT K H1 a xs) /\ R (Itt K a) H1)
 | _ => False
theorem pi_seq {l : Expr} {tl : TE} (hl : PE X l tl) : PI X tg l (iSeq X.K tl) := by
 intro pins s σ H R I h
 refine thn (hl pins s σ H _ I h) fun v s1 ⟨x, H1, I1, r1, q1⟩ => ?_
 dsimp only at q1
 split at q1
 · rename_i z
   obtain ⟨t, rfl⟩ := r1
   have fp : ∀ b ∈ [s1.heap.objs.size], FpOk X pins H1 b := fun b hb => by
     obtain rfl : b = s1.heap.objs.size := by simpa using hb
     exact I1.fpOk (Nat.le_refl _) (I1.hok.fresh (Nat.le_refl _))
   cases ha : z.cps.all (· < 128)
   · exact wpAny_pyIter_wide ha ⟨s1.heap.objs.size, [s1.heap.objs.size], _, _, H1, rfl, I1.kept (t' := s1.toks) fun b o e => Heap.get?_push_of_some _ e, turn_str z _ "str_iterator" t (.inr rfl), ⟨_, Heap.get?_push_size _ rfl, rfl, rfl⟩, fp, q1⟩
   · exact wpAny_pyIter_ascii ha ⟨s1.heap.objs.size, [s1.heap.objs.size], _, _, H1, rfl, I1.kept (t' := s1.toks) fun b o e => Heap.get?_push_of_some _ e, turn_str z _ "str_ascii_iterator" t (.inl rfl), ⟨_, Heap.get?_push_size _ rfl, rfl, rfl⟩, fp, q1⟩
 · rename_i a
   cases r1
   rcases q1 with ⟨⟨xs, hq⟩, q⟩ | ⟨⟨xs, hq⟩, q⟩
   · obtain ⟨its, rv, p, hz⟩ := I1.list hq
     refine wpAny_pyIter_list p.isList ⟨s1.heap.objs.size, [s1.heap.objs.size], _, _, H1, rfl, I1.kept (t' := s1.toks) fun b o e => Heap.get?_push_of_some _ e, turn_list a _, ⟨_, Heap.get?_push_size _ rfl, rfl, rfl⟩, fun b hb => ?_, q⟩
     obtain rfl : b = s1.heap.objs.size := by simpa using hb
     exact I1.fpOk (Nat.le_refl _) (I1.hok.fresh (Nat.le_refl _))
   · obtain ⟨its, rv, p, hz⟩ := I1.tuple hq
     refine wpAny_pyIter_tuple (show s1.heap.IsTuple a its.toArray from p) ⟨s1.heap.objs.size, [s1.heap.objs.size], _, _, H1, rfl, I1.kept (t' := s1.toks) fun b o e => Heap.get?_push_of_some _ e, turn_tuple a _, ⟨_, Heap.get?_push_size _ rfl, rfl, rfl⟩, fun b hb => ?_, q⟩
     obtain rfl : b = s1.heap.objs.size := by simpa using hb
     exact I1.fpOk (Nat.le_refl _) (I1.hok.fresh (Nat.le_refl _))
 · exact q1.elim
end
def rLen (K : PySem.W.Frag) (xs : List V) (H : Hp) (Q : VK) : Prop := ∃ x n, xs = [x] /\ LenV K x H n /\ Q (.int (n : Nat)) H
def rAbs (xs : List V) (H : Hp) (Q : VK) : Prop := ∃ i, xs = [.int i] /\ Q (.int (if i < 0 then -i else i)) H
def rIsi (xs : List V) (H : Hp) (Q : VK) : Prop := ∃ x c, xs = [x, .ty c] /\ tyN H x ∈ kindsT /\ c ∈ ["bool", "int", "str", "list", "tuple"] /\ Q (.bl (isiT (tyN H x) c)) H
def TyK (K : PySem.W.Frag) (H : Hp) : V -> String -> Prop
 | .non, T => T = "NoneType"
 | .bl _, T => T = "bool"
 | .int _, T => T = "int"
 | .str _, T => T = "str"
 | .ref p, T => (T = "tuple" /\ ∃ xs, SqT K H p xs) ∨ (T = "list" /\ ∃ xs, SqL K H p xs)
 | _, _ => False
def rIsiK (K : PySem.W.Frag) (xs : List V) (H : Hp) (Q : VK) : Prop := ∃ x c T, xs = [x, .ty c] /\ TyK K H x T /\ c ∈ ["bool", "int", "str", "list", "tuple"] /\ Q (.bl (isiT T c)) H
def rSum (K : PySem.W.Frag) (xs : List V) (H : Hp) (Q : VK) : Prop := ∃ (p : Addr) (ns : List Int), xs = [.ref p] /\ SqL K H p (ns.map V.int) /\ Q (.int ns.sum) H
def rListOf (K : PySem.W.Frag) (xs : List V) (H : Hp) (Q : VK) : Prop := ∃ p ys, xs = [.ref p] /\ (SqL K H p ys ∨ SqT K H p ys) /\ ∀ l, H l = none -> Q (.ref l) (upd H l (.lst ys))
def rTupOf (K : PySem.W.Frag) (xs : List V) (H : Hp) (Q : VK) : Prop := ∃ p ys, xs = [.ref p] /\ ((SqL K H p ys /\ ∀ l, H l = none -> Q (.ref l) (upd H l (.tup ys))) ∨ (SqT K H p ys /\ Q (.ref p) H))
def rInt1 (xs : List V) (H : Hp) (Q : VK) : Prop := (∃ i, xs = [.int i] /\ Q (.int i) H) ∨ ∃ k, xs = [.bl k] /\ Q (.int (if k then 1 else 0)) H
def rIsN : R2 := fun x y H Q => y = .non /\ Q (.bl (decide (x = .non))) H
def rNotN : R2 := fun x y H Q => y = .non /\ Q (.bl (!decide (x = .non))) H
section
variable {X : Cx}
theorem call_lenA : CallR X (.builtin "len") (rLen X.K) := call_len
theorem call_absA : CallR X (.builtin "abs") rAbs := call_abs
theorem call_isiA : CallR X (.builtin "isinstance") rIsi := call_isi
theorem call_isiKA : CallR X (.builtin "isinstance") (rIsiK X.K) := by
 intro pins s σ H xs us Q I r h
 obtain ⟨x, c, T, rfl, hk, hc, q⟩ := h
 obtain ⟨u, u', rfl, rx, ry⟩ := vals2 r
 cases ry
 have fin : ∀ tk, EP X pins σ Q (.bool (isiT T c)) { s with toks := tk } := fun tk => ⟨.bl _, H, I.tok _, rfl, q⟩
 cases x with
 | non => cases hk; exact isinst_ok I rx (.non : TyOf X.K H .non _) (kit_all X.K _ (by simp [kindsT]) c hc) fin
 | bl b => cases hk; exact isinst_ok I rx (.bl b : TyOf X.K H (.bl b) _) (kit_all X.K _ (by simp [kindsT]) c hc) fin
 | int i => cases hk; exact isinst_ok I rx (.int i : TyOf X.K H (.int i) _) (kit_all X.K _ (by simp [kindsT]) c hc) fin
 | str i => cases hk; exact isinst_ok I rx (.str i : TyOf X.K H (.str i) _) (kit_all X.K _ (by simp [kindsT]) c hc) fin
 | ref a =>
   cases rx
   rcases hk with ⟨rfl, xs, hq⟩ | ⟨rfl, xs, hq⟩
   · obtain ⟨its, _, ⟨o, h1, h2, _⟩, _⟩ := I.tuple hq
     exact PySem.W.kia_one PySem.W.kitx_tuple I.kIn ⟨o, h1, h2⟩ (kit_all X.K _ (by simp [kindsT]) c hc) (fun z => nomatch z) fin
   · obtain ⟨its, _, ⟨o, n, h1, h2, _⟩, _⟩ := I.list hq
     exact PySem.W.kia_one PySem.W.kitx_list I.kIn ⟨o, h1, h2⟩ (kit_all X.K _ (by simp [kindsT]) c hc) (fun z => nomatch z) fin
 | _ => exact hk.elim
theorem call_sumA (hc : X.calm = true) : CallR X (.builtin "sum") (rSum X.K) := call_sumL hc
theorem call_listA : CallR X (.type "list") (rListOf X.K) := call_list_of
theorem call_tupleA : CallR X (.type "tuple") (rTupOf X.K) := call_tuple_of
theorem call_intA : CallR X (.type "int") rInt1 := call_int1
theorem op_isNA : OpR X (compareOp .Is) rIsN := op_isN
theorem op_notNA : OpR X (compareOp .IsNot) rNotN := op_notN
end
section
variable {K : PySem.W.Frag} {σ : St} {H : Hp} {Q : VK} {QB : Bool -> Hp -> Prop} {D' : Ends} {ta tb : TE} {t u : TS} {tt tu : TT} {A B : Prop}
theorem g_seq (h : t { D' with nx := u D' } σ H) : tSeq t u D' σ H := h
theorem g_next (h : D'.nx σ H) : tNext D' σ H := h
theorem g_ifs (h : tt σ H fun b H1 => if b = true then t D' σ H1 else u D' σ H1) : tIfS tt t u D' σ H := h
theorem g_and (h : tt σ H fun c H1 => if c = true then tu σ H1 QB else QB false H1) : tAnd tt tu σ H QB := h
theorem g_or (h : tt σ H fun c H1 => if c = true then QB true H1 else tu σ H1 QB) : tOr tt tu σ H QB := h
theorem g_not (h : tt σ H fun c H1 => QB (!c) H1) : tNot tt σ H QB := h
theorem g_test (h : ta σ H fun x H' => ∃ k, x = .bl k /\ QB k H') : tTest ta σ H QB := h
theorem g_tb (h : ta σ H fun x H' => ∃ k, x = .bl k /\ QB k H') : tB ta σ H QB := h
theorem g_bl {b : Bool} {P : Bool -> Prop} (h : P b) : ∃ k, V.bl b = .bl k /\ P k := ⟨b, rfl, h⟩
theorem g_op {r : R2} (h : ta σ H fun x H1 => tb σ H1 fun y H2 => r x y H2 Q) : tOp r ta tb σ H Q := h
theorem g_un {r : V -> Hp -> VK -> Prop} (h : ta σ H fun x H1 => r x H1 Q) : tUn r ta σ H Q := h
theorem g_neg {i : Int} (h : Q (.int (-i)) H) : rU (fun i => .int (-i)) (.int i) H Q := ⟨i, rfl, h⟩
theorem g_c {v : V} (h : Q v H) : tC v σ H Q := h
theorem g_var {i : Nat} {v : V} (e : σ[i]? = some (some v)) (h : Q v H) : tVar i σ H Q := ⟨v, e, h⟩
theorem g_asg {g : TG} (h : ta σ H fun x H1 => g x σ H1 D'.nx) : tAsg ta g D' σ H := h
theorem g_name {i : Nat} {v : V} {R : St -> Hp -> Prop} (h : R (σ.set i (some v)) H) : gName i v σ H R := h
theorem g_sub {to ti : TE} {ts : TSet} {v : V} {R : St -> Hp -> Prop} (h : to σ H fun o H1 => ti σ H1 fun i H2 => ts o i v H2 fun H3 => R σ H3) : gSub to ti ts v σ H R := h
theorem g_ret (h : ta σ H D'.rt) : tRet ta D' σ H := h
theorem g_retN (h : D'.rt .non H) : tRetN D' σ H := h
theorem g_drop (h : ta σ H fun _ H1 => D'.nx σ H1) : tDrop ta D' σ H := h
theorem g_andV (h : ta σ H fun x H1 => ∃ c, x = .bl c /\ if c = true then tb σ H1 Q else Q (.bl false) H1) : tAndV ta tb σ H Q := h
theorem g_orV (h : ta σ H fun x H1 => ∃ c, x = .bl c /\ if c = true then Q (.bl true) H1 else tb σ H1 Q) : tOrV ta tb σ H Q := h
theorem g_notV (h : ta σ H fun x H1 => ∃ c, x = .bl c /\ Q (.bl (!c)) H1) : tNotV ta σ H Q := h
theorem g_ifE {tc : TT} (h : tc σ H fun c H1 => if c = true then ta σ H1 Q else tb σ H1 Q) : tIf tc ta tb σ H Q := h
theorem g_cb {r : List V -> Hp -> VK -> Prop} {t : TA} (h : t σ H fun vs H1 => r vs H1 Q) : tCB r t σ H Q := h
theorem g_nil {R : List V -> Hp -> Prop} (h : R [] H) : tNil σ H R := h
theorem g_cons {tr : TA} {R : List V -> Hp -> Prop} (h : ta σ H fun x H1 => tr σ H1 fun xs H2 => R (x :: xs) H2) : tCons ta tr σ H R := h
theorem g_call {sp : Sp} {E : XK} {t : TA} (h : t σ H fun vs H1 => sp vs H1 Q E) : tCall sp [] E t σ H Q := by
 unfold tCall
 simpa using h
theorem g_tup {t : TA} (h : t σ H fun xs H1 => xs.length <= sizeLine /\ ∀ l H', H1 l = none -> Same H1 H' -> H' l = some (.tup xs) -> Q (.ref l) H') (mono : ∀ {R R' : List V -> Hp -> Prop}, (∀ xs H, R xs H -> R' xs H) -> t σ H R -> t σ H R') : tTup t σ H Q :=
 mono (fun xs H1 ⟨h1, h2⟩ => ⟨h1, new_of h2⟩) h
theorem g_add {i j : Int} (h : Q (.int (i + j)) H) : rAddA K (.int i) (.int j) H Q := h
theorem g_addIB {i : Int} {k : Bool} (h : Q (.int (i + b2i k)) H) : rAddA K (.int i) (.bl k) H Q := h
theorem g_addS {i j : Str} (hz : i.length + j.length <= sizeLine) (h : Q (.str (i ++ j)) H) : rAddA K (.str i) (.str j) H Q := ⟨hz, h⟩
theorem g_subI {i j : Int} (h : Q (.int (i - j)) H) : rSubA (.int i) (.int j) H Q := h
theorem g_mul {i j : Int} (hc : CMul i j) (h : Q (.int (i * j)) H) : rMulA (.int i) (.int j) H Q := ⟨hc, h⟩
theorem g_mod {i j : Int} (hc : 0 < j) (h : Q (.int (i % j)) H) : rModA (.int i) (.int j) H Q := ⟨hc, h⟩
theorem g_div {i j : Int} (hc : CDivB j) (h : Q (.int (i / j)) H) : rDivA (.int i) (.int j) H Q := ⟨hc, h⟩
theorem g_pow {i j : Int} (hc : CPow i j) (h : Q (.int (i ^ j.toNat)) H) : rPowA (.int i) (.int j) H Q := ⟨hc, h⟩
theorem g_lt {i j : Int} {q : Str -> Str -> Bool} (h : Q (.bl (decide (i < j))) H) : rCmpA (fun i j => decide (i < j)) q (.int i) (.int j) H Q := h
theorem g_le {i j : Int} {q : Str -> Str -> Bool} (h : Q (.bl (decide (i <= j))) H) : rCmpA (fun i j => decide (i <= j)) q (.int i) (.int j) H Q := h
theorem g_gt {i j : Int} {q : Str -> Str -> Bool} (h : Q (.bl (decide (j < i))) H) : rCmpA (fun i j => decide (j < i)) q (.int i) (.int j) H Q := h
theorem g_ge {i j : Int} {q : Str -> Str -> Bool} (h : Q (.bl (decide (j <= i))) H) : rCmpA (fun i j => decide (j <= i)) q (.int i) (.int j) H Q := h
theorem g_cmp {i j : Int} {p : Int -> Int -> Bool} {q : Str -> Str -> Bool} (h : Q (.bl (p i j)) H) : rCmpA p q (.int i) (.int j) H Q := h
theorem g_cmpS {i j : Str} {p : Int -> Int -> Bool} {q : Str -> Str -> Bool} (h : Q (.bl (q i j)) H) : rCmpA p q (.str i) (.str j) H Q := h
theorem g_eqI {n : Nat} {i j : Int} (h : Q (.bl (decide (i = j))) H) : rEqA K n false (.int i) (.int j) H Q := by
 show Q (.bl (i == j)) H
 rw [show (i == j) = decide (i = j) from Bool.beq_eq_decide_eq ..]; exact h
theorem g_neI {n : Nat} {i j : Int} (h : Q (.bl (!decide (i = j))) H) : rEqA K n true (.int i) (.int j) H Q := by
 show Q (.bl (!(i == j))) H
 rw [show (i == j) = decide (i = j) from Bool.beq_eq_decide_eq ..]; exact h
theorem g_eqS {n : Nat} {i j : Str} (h : Q (.bl (decide (i = j))) H) : rEqA K n false (.str i) (.str j) H Q := by
 show Q (.bl (i == j)) H
 rw [show (i == j) = decide (i = j) from by by_cases e : i = j <;> simp [e]]; exact h
theorem g_neS {n : Nat} {i j : Str} (h : Q (.bl (!decide (i = j))) H) : rEqA K n true (.str i) (.str j) H Q := by
 show Q (.bl (!(i == j))) H
 rw [show (i == j) = decide (i = j) from by by_cases e : i = j <;> simp [e]]; exact h
theorem g_eqB {n : Nat} {i j : Bool} (h : Q (.bl (i == j)) H) : rEqA K n false (.bl i) (.bl j) H Q := h
theorem g_neB {n : Nat} {i j : Bool} (h : Q (.bl (!(i == j))) H) : rEqA K n true (.bl i) (.bl j) H Q := h
theorem g_isN {x : V} (h : Q (.bl (decide (x = .non))) H) : rIsN x .non H Q := ⟨rfl, h⟩
theorem g_notN {x : V} (h : Q (.bl (!decide (x = .non))) H) : rNotN x .non H Q := ⟨rfl, h⟩
theorem g_ixL {p : Addr} {xs : List V} {i : Int} {v : V} (hp : H p = some (.lst xs)) (hv : atI xs i = some v) (h : Q v H) : rIxA K (.ref p) (.int i) H Q := ⟨xs, v, .inl (.inl (.inl hp)), hv, h⟩
theorem g_ixT {p : Addr} {xs : List V} {i : Int} {v : V} (hp : H p = some (.tup xs)) (hv : atI xs i = some v) (h : Q v H) : rIxA K (.ref p) (.int i) H Q := ⟨xs, v, .inr (.inl (.inl hp)), hv, h⟩
theorem g_ixS {z : Str} {i : Int} {c : Nat} (hz : z.length <= sizeLine) (hv : atI z.cps.toList i = some c) (h : Q (.str ⟨#[c]⟩) H) : rIxA K (.str z) (.int i) H Q := ⟨hz, c, hv, h⟩
theorem g_lenL {p : Addr} {xs : List V} (hp : H p = some (.lst xs)) (h : Q (.int xs.length) H) : rLen K [.ref p] H Q := ⟨_, _, rfl, .inl ⟨xs, .inl (.inl hp), rfl⟩, h⟩
theorem g_lenT {p : Addr} {xs : List V} (hp : H p = some (.tup xs)) (h : Q (.int xs.length) H) : rLen K [.ref p] H Q := ⟨_, _, rfl, .inr ⟨xs, .inl (.inl hp), rfl⟩, h⟩
theorem g_lenS {z : Str} (hz : z.length <= sizeLine) (h : Q (.int z.length) H) : rLen K [.str z] H Q := ⟨_, _, rfl, ⟨hz, rfl⟩, h⟩
theorem g_abs {i : Int} (h : Q (.int (if i < 0 then -i else i)) H) : rAbs [.int i] H Q := ⟨i, rfl, h⟩
theorem g_isi {x : V} {c : String} (h1 : tyN H x ∈ kindsT) (h2 : c ∈ ["bool", "int", "str", "list", "tuple"]) (h : Q (.bl (isiT (tyN H x) c)) H) : rIsi [x, .ty c] H Q := ⟨x, c, rfl, h1, h2, h⟩
theorem g_isiI {b : Bool} {i : Int} {c : String} (h2 : c ∈ ["bool", "int", "str", "list", "tuple"]) (hb : isiT "int" c = b) (h : Q (.bl b) H) : rIsiK K [.int i, .ty c] H Q := ⟨_, c, _, rfl, rfl, h2, by subst hb; exact h⟩
theorem g_isiB {b : Bool} {i : Bool} {c : String} (h2 : c ∈ ["bool", "int", "str", "list", "tuple"]) (hb : isiT "bool" c = b) (h : Q (.bl b) H) : rIsiK K [.bl i, .ty c] H Q := ⟨_, c, _, rfl, rfl, h2, by subst hb; exact h⟩
theorem g_isiS {b : Bool} {i : Str} {c : String} (h2 : c ∈ ["bool", "int", "str", "list", "tuple"]) (hb : isiT "str" c = b) (h : Q (.bl b) H) : rIsiK K [.str i, .ty c] H Q := ⟨_, c, _, rfl, rfl, h2, by subst hb; exact h⟩
theorem g_isiN {b : Bool} {c : String} (h2 : c ∈ ["bool", "int", "str", "list", "tuple"]) (hb : isiT "NoneType" c = b) (h : Q (.bl b) H) : rIsiK K [.non, .ty c] H Q := ⟨_, c, _, rfl, rfl, h2, by subst hb; exact h⟩
theorem g_isiL {b : Bool} {p : Addr} {xs : List V} {c : String} (hp : H p = some (.lst xs)) (h2 : c ∈ ["bool", "int", "str", "list", "tuple"]) (hb : isiT "list" c = b) (h : Q (.bl b) H) : rIsiK K [.ref p, .ty c] H Q := ⟨_, c, _, rfl, .inr ⟨rfl, xs, .inl (.inl hp)⟩, h2, by subst hb; exact h⟩
theorem g_isiT {b : Bool} {p : Addr} {xs : List V} {c : String} (hp : H p = some (.tup xs)) (h2 : c ∈ ["bool", "int", "str", "list", "tuple"]) (hb : isiT "tuple" c = b) (h : Q (.bl b) H) : rIsiK K [.ref p, .ty c] H Q := ⟨_, c, _, rfl, .inl ⟨rfl, xs, .inl (.inl hp)⟩, h2, by subst hb; exact h⟩
theorem g_isiTK {b : Bool} {p : Addr} {xs : List V} {c : String} (hp : SqT K H p xs) (h2 : c ∈ ["bool", "int", "str", "list", "tuple"]) (hb : isiT "tuple" c = b) (h : Q (.bl b) H) : rIsiK K [.ref p, .ty c] H Q := ⟨_, c, _, rfl, .inl ⟨rfl, xs, hp⟩, h2, by subst hb; exact h⟩
theorem g_lenTK {p : Addr} {xs : List V} (hp : SqT K H p xs) (h : Q (.int xs.length) H) : rLen K [.ref p] H Q := ⟨_, _, rfl, .inr ⟨xs, hp, rfl⟩, h⟩
theorem g_listOf {p : Addr} {ys : List V} (hp : SqL K H p ys ∨ SqT K H p ys) (h : ∀ l H', H l = none -> Same H H' -> H' l = some (.lst ys) -> Q (.ref l) H') : rListOf K [.ref p] H Q := ⟨p, ys, rfl, hp, new_of h⟩
theorem g_tupOf {p : Addr} {ys : List V} (hp : H p = some (.lst ys)) (h : ∀ l H', H l = none -> Same H H' -> H' l = some (.tup ys) -> Q (.ref l) H') : rTupOf K [.ref p] H Q := ⟨p, ys, rfl, .inl ⟨.inl (.inl hp), new_of h⟩⟩
theorem g_intI {i : Int} (h : Q (.int i) H) : rInt1 [.int i] H Q := .inl ⟨i, rfl, h⟩
theorem g_intB {k : Bool} (h : Q (.int (if k then 1 else 0)) H) : rInt1 [.bl k] H Q := .inr ⟨k, rfl, h⟩
theorem g_sum {p : Addr} {ns : List Int} (hp : SqL K H p (ns.map V.int)) (h : Q (.int ns.sum) H) : rSum K [.ref p] H Q := ⟨p, ns, rfl, hp, h⟩
theorem g_iteT (h : A) : if true = true then A else B := iteT h
theorem g_iteF (h : B) : if false = true then A else B := iteF h
theorem g_iteNT (h : B) : if (!true) = true then A else B := iteF h
theorem g_iteNF (h : A) : if (!false) = true then A else B := iteT h
theorem g_iteD {P : Prop} [Decidable P] (h1 : P -> A) (h2 : ¬ P -> B) : if decide P = true then A else B := by
 by_cases h : P
 · rw [if_pos (decide_eq_true h)]; exact h1 h
 · rw [if_neg (by simp [h])]; exact h2 h
theorem g_iteN {P : Prop} [Decidable P] (h1 : ¬ P -> A) (h2 : P -> B) : if (!decide P) = true then A else B := by
 by_cases h : P
 · rw [if_neg (by simp [h])]; exact h2 h
 · rw [if_pos (by simp [h])]; exact h1 h
theorem g_ite {b : Bool} (h1 : b = true -> A) (h2 : b = false -> B) : if b = true then A else B := by
 cases b
 · exact iteF (h2 rfl)
 · exact iteT (h1 rfl)
theorem g_iteNB {b : Bool} (h1 : b = false -> A) (h2 : b = true -> B) : if (!b) = true then A else B := by
 cases b
 · exact iteT (h1 rfl)
 · exact iteF (h2 rfl)
theorem g_set {p : Addr} {xs : List V} {k : Int} {j : Nat} {v : V} {R : Hp -> Prop} (hp : H p = some (.lst xs)) (hj : ixN xs.length k = some j) (h : ∀ H', But p H H' -> H' p = some (.lst (xs.set j v)) -> R H') : rSetL (.ref p) (.int k) v H R :=
 ⟨p, xs, k, j, rfl, rfl, hp, hj, wr_of h⟩
theorem g_forR {wi : TI} {g : TG} {tb : TS} (h : wi σ H fun J H1 => ∃ W : Nat -> Nat -> St -> Hp -> Prop, (∃ m, W 0 m σ H1) /\ ∀ i m σ H, W i m σ H ->
 (J.stop i H /\ D'.nx σ H) ∨ (J.go i H /\ ∃ N : St -> Hp -> Prop, (∀ σ' H', N σ' H' -> ∃ m', m' < m /\ W (i + 1) m' σ' H') /\ ∀ x H', J.yld i H x H' -> g x σ H' fun σ2 H2 => tb { D' with nx := N, ct := N, bk := D'.nx } σ2 H2)) : tFor wi g tb D' σ H := h
theorem g_rng1 {t : TA} {R : It -> Hp -> Prop} (h : t σ H fun vs H1 => ∃ j : Int, vs = [.int j] /\ -(2 ^ 62) <= j /\ j < 2 ^ 62 /\ R (Itr 0 j.toNat) H1) : iRng1 t σ H R := h
theorem tyL {p : Addr} {xs : List V} (h : H p = some (.lst xs)) : tyV K "list" (.ref p) H := .inl ⟨rfl, xs, .inl (.inl h)⟩
theorem g_bm {T : String} {r : V -> List V -> Hp -> VK -> Prop} {to : TE} {t : TA} (h : to σ H fun x H1 => tyV K T x H1 /\ t σ H1 fun xs H2 => r x xs H2 Q) : tBM K T r to t σ H Q := h
theorem g_bm0 {T : String} {r : V -> List V -> Hp -> VK -> Prop} {to : TE} (h : to σ H fun x H1 => tyV K T x H1 /\ r x [] H1 Q) : tBM0 K T r to σ H Q := h
theorem g_append {p : Addr} {xs : List V} {y : V} (hp : H p = some (.lst xs)) (hz : xs.length < sizeLine) (h : ∀ H', But p H H' -> H' p = some (.lst (xs ++ [y])) -> Q .non H') : rAppend (.ref p) [y] H Q := ⟨p, xs, y, rfl, rfl, hp, hz, wr_of h⟩
theorem g_catT {a b : Addr} {xs ys : List V} (ha : H a = some (.tup xs)) (hb : H b = some (.tup ys)) (hne : xs ≠ []) (hz : xs.length + ys.length <= sizeLine) (hy : ys ≠ []) (h : ∀ l H', H l = none -> Same H H' -> H' l = some (.tup (xs ++ ys)) -> Q (.ref l) H') : rAddA K (.ref a) (.ref b) H Q :=
 .inl ⟨a, b, xs, ys, rfl, rfl, .inl (.inl ha), .inl (.inl hb), hne, hz, fun z => absurd z hy, fun _ => new_of h⟩
theorem g_gcons {t : TG} {u : TGs} {v : V} {r : List V} {R : St -> Hp -> Prop} (h : t v σ H fun σ' H' => u r σ' H' R) : gCons t u (v :: r) σ H R := ⟨v, r, rfl, h⟩
theorem g_gnil {R : St -> Hp -> Prop} (h : R σ H) : gNil [] σ H R := ⟨rfl, h⟩
theorem g_comp {nt : Nat} {ix : List Nat} {wi : TI} {lp : It -> TB} (h : wi σ H fun J H1 => lp J (cst nt ix σ) H1 [] fun _ H2 acc => ∀ l, H2 l = none -> Q (.ref l) (upd H2 l (.lst acc))) : tComp nt ix wi lp σ H Q := h
theorem g_emit {te : TE} {acc : List V} {R : St -> Hp -> List V -> Prop} (h : te σ H fun y H1 => acc.length < sizeLine /\ R σ H1 (acc ++ [y])) : tEmit te σ H acc R := h
theorem g_tupE {t : TA} (h : t σ H fun xs H1 => xs.length <= sizeLine /\ ∀ p, H1 p = none -> Q (.ref p) (upd H1 p (.tup xs))) : tTup t σ H Q := h
theorem g_lstE {t : TA} (h : t σ H fun xs H1 => xs.length <= sizeLine /\ ∀ p, H1 p = none -> Q (.ref p) (upd H1 p (.lst xs))) : tLst t σ H Q := h
theorem g_yes (h : QB true H) : tYes σ H QB := h
end
structure KT (K : PySem.W.Frag) : Prop where
section
variable {X : Cx} {K : PySem.W.Frag}
theorem op_addK (kt : KT K) (hK : X.K = K := by rfl) : OpR X (binaryOp .Add) (rAddA K) := hK ▸ op_addA
theorem op_eqK {n : Nat} (kt : KT K) (hu : X.A.units + n < cLine) (hK : X.K = K := by rfl) : OpR X (compareOp .Eq) (rEqA K n false) := hK ▸ op_eqA hu
theorem op_neK {n : Nat} (kt : KT K) (hu : X.A.units + (n + 1) < cLine) (hK : X.K = K := by rfl) : OpR X (compareOp .NotEq) (rEqA K (n + 1) true) := hK ▸ op_neA hu
theorem op_inK {n : Nat} (kt : KT K) (hu : X.A.units + n + 1 < cLine) (hK : X.K = K := by rfl) : OpR X (compareOp .In) (rInD K n false) := hK ▸ op_inD hu
theorem op_notInK {n : Nat} (kt : KT K) (hu : X.A.units + n + 1 < cLine) (hK : X.K = K := by rfl) : OpR X (compareOp .NotIn) (rInD K n true) := hK ▸ op_notInD hu
theorem op_ixK (kt : KT K) (hK : X.K = K := by rfl) : IxR X (rIxA K) := hK ▸ op_ixA
theorem call_lenK (kt : KT K) (hK : X.K = K := by rfl) : CallR X (.builtin "len") (rLen K) := hK ▸ call_lenA
theorem call_sumK (kt : KT K) (hc : X.calm = true) (hK : X.K = K := by rfl) : CallR X (.builtin "sum") (rSum K) := hK ▸ call_sumA hc
theorem call_isiK (kt : KT K) (hK : X.K = K := by rfl) : CallR X (.builtin "isinstance") (rIsiK K) := hK ▸ call_isiKA
theorem call_listK (kt : KT K) (hK : X.K = K := by rfl) : CallR X (.type "list") (rListOf K) := hK ▸ call_listA
theorem call_tupleK (kt : KT K) (hK : X.K = K := by rfl) : CallR X (.type "tuple") (rTupOf K) := hK ▸ call_tupleA
theorem pi_seqK {tg l : Expr} {tl : TE} (kt : KT K) (hl : PE X l tl) (hK : X.K = K := by rfl) : PI X tg l (iSeq K tl) := hK ▸ pi_seq hl
theorem pg_tupK {es : List Expr} {k : Nat} {t : TGs} {n : Nat} {pos : Pos} (kt : KT K) (hc : X.calm = true) (h : PGs X es t)
   (hn : (assignEach es X.env).length = n := by rfl) (hst : (assignEach es X.env).findIdx? (·.1) = none := by rfl) (hK : X.K = K := by rfl) : PG X (.Tuple es k pos) (gTup K n t) := hK ▸ pg_tup hc h hn hst
end
def ndB : List Str -> Bool
 | [] => true
 | a :: r => !(r.any fun b => a == b) && ndB r
theorem ndB_nodup : ∀ {l : List Str}, ndB l = true -> l.Nodup
 | [], _ => List.nodup_nil
 | a :: r, h => by
   simp only [ndB, Bool.and_eq_true, Bool.not_eq_true', List.any_eq_false] at h
   exact List.nodup_cons.mpr ⟨fun hm => h.1 a hm (by simp), ndB_nodup h.2⟩
end L2
namespace My
open PySem L2
theorem un4 {k n : Nat} {A : Around} (r : Room k A) (h : n <= 150 := by decide) : A.units + n < cLine := by have := r.un; omega
theorem un5 {k n : Nat} {A : Around} (r : Room k A) (h : n <= 150 := by decide) : A.units + n + 1 < cLine := by have := r.un; omega
def PotAt (H : Hp) (p q : Addr) : Prop := ∃ (ns : List Int) (i r m : Int), H p = some (.lst [.ref q, .int i, .int r, .int m]) /\ H q = some (.lst (ns.map V.int)) /\ q ≠ p /\ 0 <= i
theorem PotAt.same {H H' : Hp} {p q : Addr} (h : PotAt H p q) (s : Same H H') : PotAt H' p q := by
 obtain ⟨ns, i, r, m, h1, h2, h3, h4⟩ := h
 exact ⟨ns, i, r, m, s _ _ h1, s _ _ h2, h3, h4⟩
theorem PotAt.but {H H' : Hp} {p q l : Addr} (h : PotAt H p q) (b : But l H H') (hp : p ≠ l) (hq : q ≠ l) : PotAt H' p q := by
 obtain ⟨ns, i, r, m, h1, h2, h3, h4⟩ := h
 exact ⟨ns, i, r, m, b _ _ hp h1, b _ _ hq h2, h3, h4⟩
theorem PotAt.some {H : Hp} {p q : Addr} (h : PotAt H p q) : ∃ xs, H p = some (.lst xs) := let ⟨_, _, _, _, h1, _⟩ := h; ⟨_, h1⟩
theorem PotAt.ne {H : Hp} {p q l : Addr} (h : PotAt H p q) (hl : H l = none) : p ≠ l /\ q ≠ l := by
 obtain ⟨ns, i, r, m, h1, h2, h3, h4⟩ := h
 exact ⟨ne_of_none h1 hl, ne_of_none h2 hl⟩
theorem PotAt.stayT {K : PySem.W.Frag} {H H' : Hp} {p q : Addr} (h : PotAt H p q) (b : But p H H') : ∀ a xs, SqT K H a xs -> SqT K H' a xs := by
 obtain ⟨ns, i, r, m, hx, _⟩ := h
 intro a ys h
 rcases h with (h | ⟨o, h⟩) | h
 · exact .inl (.inl (b _ _ (ne_of h hx (by intro z; cases z)) h))
 · exact .inl (.inr ⟨o, b _ _ (ne_of h hx (by intro z; cases z)) h⟩)
 · exact .inr h
theorem new_ex {H : Hp} {l : Addr} (hl : H l = none) (o : HO) : ∃ H', upd H l o = H' /\ Same H H' /\ H' l = some o := ⟨_, rfl, fun b u e => by rw [upd_ne (ne_of_none e hl)]; exact e, upd_same⟩
theorem wr_ex (H : Hp) (l : Addr) (o : HO) : ∃ H', upd H l o = H' /\ But l H H' /\ H' l = some o := ⟨_, rfl, fun b u hb e => by rw [upd_ne hb]; exact e, upd_same⟩
theorem But.free {p : Addr} {H H' : Hp} (b : But p H H') (hp : ∃ o, H p = some o) (hp' : ∃ o, H' p = some o) {l : Addr} (h : H' l = none) : H l = none := by
 cases e : H l with
 | none => rfl
 | some o =>
   by_cases hl : l = p
   · subst hl
     obtain ⟨o', h'⟩ := hp'
     rw [h] at h'; cases h'
   · rw [b l o hl e] at h; cases h
theorem stayT_but {K : PySem.W.Frag} {H H' : Hp} {x : Addr} {xs : List V} (hx : H x = some (.lst xs)) (b : But x H H') : StayT K H H' := by
 intro a ys h
 rcases h with (h | ⟨o, h⟩) | h
 · exact .inl (.inl (b _ _ (ne_of h hx (by intro z; cases z)) h))
 · refine .inl (.inr ⟨o, b _ _ ?_ h⟩)
   exact ne_of h hx (by intro z; cases z)
 · exact .inr h
theorem stayT_same {K : PySem.W.Frag} {H H' : Hp} (s : Same H H') : StayT K H H' := (Same.stay s).1
theorem StayT.trans {K : PySem.W.Frag} {H H1 H2 : Hp} (a : StayT K H H1) (b : StayT K H1 H2) : StayT K H H2 := fun x xs h => b x xs (a x xs h)
def Letter (c : Str) : Prop := ∃ ch : Nat, c = ⟨#[ch]⟩ /\ 97 <= ch /\ ch <= 122
abbrev abc : Str := "abcdefghijklmnopqrstuvwxyz"
theorem abc_at : ∀ j : Nat, j < 26 -> abc.cps.toList[j]? = some (97 + j) := by decide +kernel
theorem abc_atI {d : Int} (h0 : 0 <= d) (h1 : d < 26) : atI abc.cps.toList d = some (97 + d.toNat) := by
 have e : d = ((d.toNat : Nat) : Int) := by omega
 rw [e]
 exact atI_nat (abc_at d.toNat (by omega))
theorem abc_len : abc.length <= sizeLine := by decide +kernel
def rowD (r : List Str × Int) : D := .tup (r.1.map D.str ++ [.int r.2])
def nameD (r : List Str) : D := .tup (r.map D.str)
theorem eqL_strs : ∀ (a b : List Str), D.eqL (a.map D.str) (b.map D.str) = decide (a = b)
 | [], [] => by simp [D.eqL]
 | [], b :: t => by simp [D.eqL]
 | a :: r, [] => by simp [D.eqL]
 | a :: r, b :: t => by
   rw [List.map_cons, List.map_cons, D.eqL, eqL_strs r t, D.eq]
   by_cases h1 : a = b <;> by_cases h2 : r = t <;> simp [h1, h2]
theorem eq_nameD (a b : List Str) : D.eq (nameD a) (nameD b) = decide (a = b) := by
 unfold nameD; rw [D.eq]; exact eqL_strs a b
theorem immL_strs : ∀ l : List Str, D.immL (l.map D.str) = true
 | [] => rfl
 | a :: r => by rw [List.map_cons, D.immL, immL_strs r]; rfl
theorem immL_append : ∀ l m : List D, D.immL (l ++ m) = (D.immL l && D.immL m)
 | [], m => by simp [D.immL]
 | a :: r, m => by rw [List.cons_append, D.immL, immL_append r m, D.immL, Bool.and_assoc]
theorem imm_rowD (r : List Str × Int) : D.imm (rowD r) = true := by
 unfold rowD; rw [D.imm, immL_append, immL_strs]; rfl
theorem imm_nameD (r : List Str) : D.imm (nameD r) = true := by
 unfold nameD; rw [D.imm, immL_strs]
theorem immL_map {α : Type} {f : α -> D} (h : ∀ a, D.imm (f a) = true) : ∀ l : List α, D.immL (l.map f) = true
 | [] => rfl
 | a :: r => by rw [List.map_cons, D.immL, h a, immL_map h r]; rfl
theorem depthL_strs : ∀ l : List Str, D.depthL (l.map D.str) = 0
 | [] => rfl
 | a :: r => by rw [List.map_cons, D.depthL, depthL_strs r]; rfl
theorem depth_nameD (r : List Str) : D.depth (nameD r) = 1 := by
 unfold nameD; rw [D.depth, depthL_strs]
theorem depthL_le {α : Type} {f : α -> D} {n : Nat} (h : ∀ a, D.depth (f a) <= n) : ∀ l : List α, D.depthL (l.map f) <= n
 | [] => Nat.zero_le _
 | a :: r => by rw [List.map_cons, D.depthL]; exact Nat.max_le.mpr ⟨h a, depthL_le h r⟩
theorem rep_strs {K : PySem.W.Frag} {H : Hp} : ∀ l : List Str, RepL K H (l.map D.str) (l.map V.str)
 | [] => .nil
 | a :: r => .cons (by rw [Rep]) (rep_strs r)
theorem rep_ints {K : PySem.W.Frag} {H : Hp} : ∀ l : List Int, RepL K H (l.map D.int) (l.map V.int)
 | [] => .nil
 | a :: r => .cons (by rw [Rep]) (rep_ints r)
theorem rep_tup {K : PySem.W.Frag} {H : Hp} {a : Addr} {xs : List V} {l : List D} (h : H a = some (.tup xs)) (r : RepL K H l xs) : Rep K H (.tup l) (.ref a) := by
 rw [Rep]; exact ⟨a, xs, rfl, .inl (.inl h), r⟩
theorem rep_open {K : PySem.W.Frag} {H : Hp} {l : List D} {v : V} (h : Rep K H (.tup l) v) : ∃ a xs, v = .ref a /\ SqT K H a xs /\ RepL K H l xs := by rw [Rep] at h; exact h
theorem atI_rep {K : PySem.W.Frag} {H : Hp} {l : List D} {xs : List V} {i : Int} {d : D} (r : RepL K H l xs) (hd : atI l i = some d) : ∃ x, atI xs i = some x /\ Rep K H d x := by
 unfold atI at hd ⊢
 rw [r.length]
 cases e : ixN l.length i with
 | none => rw [e] at hd; cases hd
 | some j =>
   rw [e] at hd
   exact r.get (i := j) hd
theorem g_ixD {K : PySem.W.Frag} {H : Hp} {l : List D} {v : V} {i : Int} {d : D} {Q : VK} (h : Rep K H (.tup l) v) (hd : atI l i = some d) (k : ∀ x, Rep K H d x -> Q x H) : rIxA K v (.int i) H Q := by
 obtain ⟨a, xs, rfl, sa, ra⟩ := rep_open h
 obtain ⟨x, e, rx⟩ := atI_rep ra hd
 exact ⟨xs, x, .inr sa, e, k x rx⟩
theorem rep_int {K : PySem.W.Frag} {H : Hp} {i : Int} {v : V} (h : Rep K H (.int i) v) : v = .int i := by rw [Rep] at h; exact h
theorem rep_str {K : PySem.W.Frag} {H : Hp} {i : Str} {v : V} (h : Rep K H (.str i) v) : v = .str i := by rw [Rep] at h; exact h
theorem g_gtupD {K : PySem.W.Frag} {H : Hp} {σ : L2.St} {l : List D} {v : V} {n : Nat} {t : TGs} {R : L2.St -> Hp -> Prop} (h : Rep K H (.tup l) v) (hn : l.length = n) (k : ∀ xs, RepL K H l xs -> t xs σ H R) : gTup K n t v σ H R := by
 obtain ⟨a, xs, rfl, sa, ra⟩ := rep_open h
 exact ⟨a, xs, rfl, sa, by rw [ra.length]; exact hn, k xs ra⟩
theorem repL_cons {K : PySem.W.Frag} {H : Hp} {d : D} {ds : List D} {xs : List V} (h : RepL K H (d :: ds) xs) : ∃ x r, xs = x :: r /\ Rep K H d x /\ RepL K H ds r := by rw [RepL] at h; exact h
theorem repL_nil {K : PySem.W.Frag} {H : Hp} {xs : List V} (h : RepL K H [] xs) : xs = [] := by rw [RepL] at h; exact h
structure Bk where
 gap : Int
 hoops : List (List Str × Int)
 nests : List (List Str × Int)
 ends : List Int
 bends : List Int
 base : Int
 each : Int
 free : Int
def Bk.D (B : Bk) : D := .tup [.int B.gap, .tup (B.hoops.map rowD), .tup (B.nests.map rowD), .tup (B.ends.map .int), .tup (B.bends.map .int), .tup [.int B.base, .int B.each, .int B.free]]
def PriceOk (z : Int) : Prop := -9 <= z /\ z <= 9
structure RowsOk (cs : List Str) (many : Nat) (most : Nat) (rows : List (List Str × Int)) : Prop where
 len : rows.length <= most
 nd : (rows.map (·.1)).Nodup
 row : ∀ r ∈ rows, r.1.length = many /\ (∀ c ∈ r.1, c ∈ cs) /\ PriceOk r.2
structure BkOk (cs : List Str) (B : Bk) : Prop where
 g0 : 0 <= B.gap
 g1 : B.gap <= 6
 hoops : RowsOk cs 2 40 B.hoops
 nests : RowsOk cs 4 20 B.nests
 e0 : 1 <= B.ends.length
 e1 : B.ends.length <= 8
 e2 : ∀ z ∈ B.ends, PriceOk z
 b0 : 1 <= B.bends.length
 b1 : B.bends.length <= 8
 b2 : ∀ z ∈ B.bends, PriceOk z
 f0 : PriceOk B.base
 f1 : PriceOk B.each
 f2 : -2 <= B.free /\ B.free <= 2
theorem imm_bk (B : Bk) : D.imm B.D = true := by
 unfold Bk.D
 simp only [D.imm, D.immL, immL_map imm_rowD, immL_map (f := D.int) (fun _ => rfl), Bool.and_self]
def spDraw : Sp := fun vs H Q _ => ∃ p q n, vs = [.ref p, .int n] /\ 0 < n /\ n.natAbs.log2 < 9000 /\ PotAt H p q /\ ∀ d H', 0 <= d -> d < n -> But p H H' -> PotAt H' p q -> Q (.int d) H'
def spStream (K : PySem.W.Frag) : Sp := fun vs H Q _ => ∃ (a : Addr) (ns : List Int), vs = [.ref a] /\ SqL K H a (ns.map V.int) /\ ∀ p q H', H p = none -> H q = none -> Same H H' -> PotAt H' p q -> Q (.ref p) H'
def PoolAt (H : Hp) (l : Addr) (cs : List Str) : Prop := H l = some (.lst (cs.map V.str)) /\ cs ≠ [] /\ cs.length <= 8 /\ ∀ c ∈ cs, Letter c
def spPool : Sp := fun vs H Q _ => ∃ p q, vs = [.ref p] /\ PotAt H p q /\ ∀ l cs H', H l = none -> But p H H' -> PotAt H' p q -> PoolAt H' l cs -> Q (.ref l) H'
def spRows (K : PySem.W.Frag) : Sp := fun vs H Q _ => ∃ p q l cs many most, vs = [.ref p, .ref l, .int many, .int most] /\ PotAt H p q /\ PoolAt H l cs /\ l ≠ p /\ 1 <= many /\ many <= 4 /\ 0 <= most /\ most <= 40 /\
 ∀ v (rows : List (List Str × Int)) H', But p H H' -> PotAt H' p q -> Rep K H' (.tup (rows.map rowD)) v -> RowsOk cs many.toNat most.toNat rows -> Q v H'
def spPrices (K : PySem.W.Frag) : Sp := fun vs H Q _ => ∃ p q, vs = [.ref p] /\ PotAt H p q /\ ∀ v (zs : List Int) H', But p H H' -> PotAt H' p q -> Rep K H' (.tup (zs.map .int)) v -> 1 <= zs.length -> zs.length <= 8 -> (∀ z ∈ zs, PriceOk z) -> Q v H'
def spBook (K : PySem.W.Frag) : Sp := fun vs H Q _ => ∃ p q l cs, vs = [.ref p, .ref l] /\ PotAt H p q /\ PoolAt H l cs /\ l ≠ p /\ ∀ v B H', But p H H' -> PotAt H' p q -> Rep K H' (Bk.D B) v -> BkOk cs B -> Q v H'
def spLetter : Sp := fun vs H Q _ => ∃ p q l cs, vs = [.ref p, .ref l] /\ PotAt H p q /\ PoolAt H l cs /\ l ≠ p /\ ∀ c H', But p H H' -> PotAt H' p q -> Letter c -> Q (.str c) H'
def spLaw (K : PySem.W.Frag) : Sp := fun vs H Q _ => ∃ (a : Addr) (ns : List Int), vs = [.ref a] /\ SqL K H a (ns.map V.int) /\ ns.length <= 63 /\ ∀ H', Q (.bl true) H'
theorem PoolAt.but {H H' : Hp} {p l : Addr} {cs : List Str} (h : PoolAt H l cs) (b : But p H H') (hl : l ≠ p) : PoolAt H' l cs := ⟨b _ _ hl h.1, h.2⟩
theorem PoolAt.same {H H' : Hp} {l : Addr} {cs : List Str} (h : PoolAt H l cs) (s : Same H H') : PoolAt H' l cs := ⟨s _ _ h.1, h.2⟩
theorem atI_map {α : Type} (f : α -> V) {l : List α} {i : Int} (h0 : 0 <= i) (h1 : i < l.length) : ∃ c, l[i.toNat]? = some c /\ c ∈ l /\ atI (l.map f) i = some (f c) := by
 have hi : i.toNat < l.length := by omega
 refine ⟨l[i.toNat], List.getElem?_eq_getElem hi, List.getElem_mem hi, ?_⟩
 have e : i = ((i.toNat : Nat) : Int) := by omega
 have z : atI (l.map f) ((i.toNat : Nat) : Int) = some (f l[i.toNat]) := atI_nat (by rw [List.getElem?_map, List.getElem?_eq_getElem hi]; rfl)
 rw [<- e] at z
 exact z
theorem log2_small {n : Int} (h0 : 0 < n) (h : n < 1000) : n.natAbs.log2 < 9000 := by
 have h1 : n.natAbs ≠ 0 := by omega
 have h2 : n.natAbs.log2 < 10 := (Nat.log2_lt h1).mpr (by omega)
 omega
end My
namespace L2
open PySem PySem.Spec PyProof.Rows
section
variable {X : Cx} {pins : List (Addr × Obj)} {σ : St} {H : Hp} {s : Shared} {h' : Heap}
theorem Inv.turnedL {t' : Nat} {ch : List Addr} (I : Inv X pins σ H s) (k : ∀ b o, b ∉ ch -> s.heap.get? b = some o -> h'.get? b = some o) (hf : ∀ b ∈ ch, FpOk X pins H b) : Inv X pins σ H { s with heap := h', toks := t' } := by
 have nit : ∀ b u, H b = some u -> b ∉ ch := fun b u e z => by rw [(hf b z).1] at e; cases e
 refine I.step (g' := s.gens) (d' := s.drawn) (ch := ch) (fun b hb => ?_) (fun b o _ _ hc e _ => k b o hc e) (fun b o _ _ hc e _ => ⟨o.slots, k b o hc e⟩) (fun _ _ _ _ n => n)
   (fun b o hc e => ⟨o, k b o hc e⟩) (fun _ _ e => e) (fun _ _ _ e => e) (fun b ps e => ⟨#[], by rw [e]; simp⟩) (fun m hm => ?_) (fun b u e => ?_) I.bare
 · obtain ⟨f0, f1, f2, f3, f4, f5⟩ := hf b hb
   exact ⟨f3, f1, f4, f5⟩
 · obtain ⟨o, es, ep, ho, r⟩ := hm
   exact ⟨o, es, ep, k _ o (fun z => (hf _ z).2.1 rfl) ho, r⟩
 · refine (I.hok b u e).stay (fun c v hc q => k c v ?_ q) (fun _ q => q) fun _ _ q => q
   rcases hc with z | z
   · rw [z]; exact nit b u e
   · exact nit c _ z
end
def Itz (K : PySem.W.Frag) (a b : Addr) : It :=
 ⟨fun i H => ∃ xs ys x y, SqL K H a xs /\ SqL K H b ys /\ xs[i]? = some x /\ ys[i]? = some y,
  fun i H x H' => ∃ T u v, H T = none /\ H' = upd H T (.tup [u, v]) /\ x = .ref T /\ (∀ xs, SqL K H a xs -> xs[i]? = some u) /\ ∀ ys, SqL K H b ys -> ys[i]? = some v,
  fun i H => ∃ xs ys, SqL K H a xs /\ SqL K H b ys /\ (xs.length <= i ∨ ys.length <= i)⟩
structure ZipTn (z TI TO i1 i2 a b : Addr) (i : Nat) (h : Heap) : Prop where
 hz : IsZip h z TI TO .none
 hTI : IsPair h TI (.ref i1) (.ref i2)
 hTO : ∃ a b, IsPair h TO a b
 h1 : h.IsListIter i1 a i
 h2 : h.IsListIter i2 b i
theorem turn_zip {P : Program} {w : World} {K : PySem.W.Frag} {es : List Expr} {k : Nat} {pos : Pos} {a b z TI TO i1 i2 : Addr} (D : ZipApart z TI TO i1 i2 a b) : Turn P w K (.Tuple es k pos) (Itz K a b) [z, TI, TO, i1, i2] z (ZipTn z TI TO i1 i2 a b) where
 mem := by simp
 obj := fun i h st c hc => by
   simp only [List.mem_cons, List.not_mem_nil, or_false] at hc
   rcases hc with rfl | rfl | rfl | rfl | rfl
   · exact ⟨_, st.hz, fun v z => by cases z⟩
   · exact ⟨_, st.hTI, fun v z => by cases z⟩
   · obtain ⟨_, _, e⟩ := st.hTO
     exact ⟨_, e, fun v z => by cases z⟩
   · obtain ⟨o, e, c, d⟩ := st.h1
     exact ⟨o, e, fun v z => by rw [d] at z; cases z⟩
   · obtain ⟨o, e, c, d⟩ := st.h2
     exact ⟨o, e, fun v z => by rw [d] at z; cases z⟩
 keep := fun i h h' st kk => by
   obtain ⟨x, y, e⟩ := st.hTO
   exact ⟨kk z (by simp) _ st.hz, kk TI (by simp) _ st.hTI, ⟨x, y, kk TO (by simp) _ e⟩, st.h1.at fun o e => kk i1 (by simp) o e, st.h2.at fun o e => kk i2 (by simp) o e⟩
 item := by
   intro X hP hw hK hc i pins s σ H E I hf st hg
   subst hP hw hK
   obtain ⟨xs, ys, x, y, hx, hy, ex, ey⟩ := hg
   obtain ⟨its, rv, p, hz⟩ := I.list hx
   obtain ⟨its', rv', p', hz'⟩ := I.list hy
   obtain ⟨u, hu, ru⟩ := rv.get ex
   obtain ⟨v, hv, rv2⟩ := rv'.get ey
   obtain ⟨ta, tb, hTO⟩ := st.hTO
   refine wpAny_pyNext_zip_item D st.hz st.hTI hTO st.h1 st.h2 p.isList p'.isList (x := u) (y := v) (by simpa using hu) (by simpa using hv) fun h' a1 a2 a3 a4 a5 a6 hk => ?_
   refine ⟨_, rfl, wpAny_letOwnedTupleGo_zip (s := { s with heap := h' }) a1 fun h2 hz2 sb => ?_⟩
   have fresh : H s.heap.objs.size = none := I.hok.fresh (Nat.le_refl _)
   have lt : ∀ c ∈ [z, TI, TO, i1, i2], c < s.heap.objs.size := fun c hc => by
     simp only [List.mem_cons, List.not_mem_nil, or_false] at hc
     rcases hc with rfl | rfl | rfl | rfl | rfl
     · exact Heap.lt_size st.hz
     · exact Heap.lt_size st.hTI
     · exact Heap.lt_size hTO
     · obtain ⟨o, e, _⟩ := st.h1; exact Heap.lt_size e
     · obtain ⟨o, e, _⟩ := st.h2; exact Heap.lt_size e
   have nz : s.heap.objs.size ≠ z := Nat.ne_of_gt (lt z (by simp))
   have I1 : Inv X pins σ H { s with heap := h2, toks := s.toks } := I.turnedL (ch := [z, TI, TO, i1, i2]) (fun c o hc e => by
     simp only [List.mem_cons, List.not_mem_nil, or_false, not_or] at hc
     exact (sb.2 c hc.1).trans (hk c o hc.1 hc.2.2.1 hc.2.2.2.1 hc.2.2.2.2 e)) hf
   have sz : h2.get? s.heap.objs.size = some { cls := .type "tuple", data := .seq #[u, v] } := (sb.2 _ nz).trans a5
   have I2 : Inv X pins σ (upd H s.heap.objs.size (.tup [x, y])) { s with heap := h2, toks := s.toks } := by
     refine I.step (g' := s.gens) (d' := s.drawn) (t' := s.toks) (h' := h2) (ch := [z, TI, TO, i1, i2]) (fun c hc => ?_) (fun c o _ _ hc e _ => ?_) (fun c o _ _ hc e _ => ?_) (fun c o hc e n => ?_) (fun c o hc e => ?_) (fun c xs e => ?_) (fun c o xs e => ?_) (fun c ps e => ?_) (fun m hm => ?_) (fun c o e => ?_) I.bare
     · obtain ⟨f0, f1, f2, f3, f4, f5⟩ := hf c hc
       exact ⟨f3, f1, f4, f5⟩
     all_goals first
       | (have hc' := hc
          simp only [List.mem_cons, List.not_mem_nil, or_false, not_or] at hc'
          have kk := (sb.2 c hc'.1).trans (hk c o hc'.1 hc'.2.2.1 hc'.2.2.2.1 hc'.2.2.2.2 e)
          first
            | exact kk
            | exact ⟨o.slots, kk⟩
            | exact ⟨o, kk⟩
            | (rw [upd_ne (Nat.ne_of_lt (Heap.lt_size e))]; exact n))
       | (rw [upd_ne (ne_of_none e fresh)]; exact e)
       | exact ⟨#[], by rw [upd_ne (ne_of_none e fresh), e]; simp⟩
       | skip
     · obtain ⟨o, es, ep, ho, r⟩ := hm
       have nL : X.env.locals ∉ [z, TI, TO, i1, i2] := fun q => (hf _ q).2.1 rfl
       simp only [List.mem_cons, List.not_mem_nil, or_false, not_or] at nL
       exact ⟨o, es, ep, (sb.2 _ nL.1).trans (hk _ o nL.1 nL.2.2.1 nL.2.2.2.1 nL.2.2.2.2 ho), r⟩
     · by_cases hcs : c = s.heap.objs.size
       · subst hcs
         rw [upd_same] at e
         cases e
         exact ⟨by show 2 <= sizeLine; decide, [u, v], .cons ru (.cons rv2 .nil), ⟨_, sz, rfl, _, rfl⟩⟩
       · rw [upd_ne hcs] at e
         have q := I1.hok c o e
         exact q.stay (fun _ _ _ q => q) (fun b q => by rw [upd_ne (ne_of_none q fresh)]; exact q) fun b xs q => by rw [upd_ne (ne_of_none q fresh)]; exact q
   refine ⟨.ref s.heap.objs.size, _, I2, rfl, ⟨_, x, y, fresh, rfl, rfl, fun zs hzs => by rw [I.list_inj hzs hx]; exact ex, fun zs hzs => by rw [I.list_inj hzs hy]; exact ey⟩,
     ⟨hz2, (sb.2 _ D.TIz).trans (hk _ _ D.TIz D.TITO D.TIi1 D.TIi2 st.hTI), ⟨_, _, (sb.2 _ D.TOz).trans a2⟩, a3.at fun o e => (sb.2 _ D.i1z).trans e, a4.at fun o e => (sb.2 _ D.i2z).trans e⟩, fun c hc => ?_⟩
   rw [upd_ne (Nat.ne_of_lt (lt c hc))]
   exact (hf c hc).1
 done := by
   intro X hP hw hK hc i pins s σ H E I hf st hg
   subst hP hw hK
   obtain ⟨xs, ys, hx, hy, hl⟩ := hg
   obtain ⟨its, rv, p, hz⟩ := I.list hx
   obtain ⟨its', rv', p', hz'⟩ := I.list hy
   have l1 := rv.length
   have l2 := rv'.length
   obtain ⟨ta, tb, hTO⟩ := st.hTO
   refine wpAny_pyNext_zip_end (I.ok.hd hc) D st.hz st.hTI hTO st.h1 st.h2 p.isList p'.isList (by rcases hl with hl | hl; exact .inl (by simp; omega); exact .inr (by simp; omega)) fun h' hk => ⟨rfl, ?_⟩
   exact I.turnedL (t' := s.toks) (ch := [z, TI, TO, i1, i2]) (fun c o hc e => by
     simp only [List.mem_cons, List.not_mem_nil, or_false, not_or] at hc
     exact hk c o hc.1 hc.2.2.1 hc.2.2.2.1 hc.2.2.2.2 e) hf
 self := fun _ _ _ _ _ st h => wpAny_pyIter_zip st.hz h
end L2
namespace L2
open PySem PySem.Spec PyProof.Rows
def tChain3 (r r' r'' : R2) (ta tb tc td : TE) : TT := fun σ H Q => ta σ H fun x H1 => tb σ H1 fun y H2 => r x y H2 fun z H3 => ∃ k, z = .bl k /\
 (if k = true then tc σ H3 fun w H4 => r' y w H4 fun z' H5 => ∃ k', z' = .bl k' /\ (if k' = true then td σ H5 fun u H6 => r'' w u H6 fun z2 H7 => ∃ k2, z2 = .bl k2 /\ Q k2 H7 else Q false H5) else Q false H3)
section
variable {X : Cx} {a b c d : Expr} {ta tb tc td : TE} {pos : Pos}
theorem pt_chain3 {op op' op'' : CmpOp} {r r' r'' : R2} (ho : OpR X (compareOp op) r) (ho' : OpR X (compareOp op') r') (ho'' : OpR X (compareOp op'') r'') (ha : PE X a ta) (hb : PE X b tb) (hc : PE X c tc) (hd : PE X d td)
   (hm : lastMarks [op, op', op''] [b, c, d] = false := by with_unfolding_all rfl) : PT X (.Compare a [op, op', op''] [b, c, d] pos) (tChain3 r r' r'' ta tb tc td) := by
 intro pins s σ H Q I h
 refine isTrue_chain (thn (ha pins s σ H _ I h) fun v s1 ⟨x, H1, I1, r1, q1⟩ => test_link (thn (hb pins s1 σ H1 _ I1 q1) fun u s2 ⟨y, H2, I2, r2, q2⟩ =>
   thn (ho pins s2 σ H2 x y v u _ I2 r1 r2 q2) fun d1 s3 ⟨z, H3, I3, r3, k, e, q3⟩ => ?_)) hm
 subst e
 cases r3
 refine wpAny_truthy_bool ?_
 cases k with
 | false => exact ite_ff ⟨H3, I3, q3⟩
 | true =>
   refine ite_tt (test_link (thn (hc pins s3 σ H3 _ I3 q3) fun w' s4 ⟨z', H4, I4, r4, q4⟩ => thn (ho' pins s4 σ H4 y z' u w' _ I4 r2 r4 q4) fun d' s5 ⟨z2, H5, I5, r5, k2, e2, q5⟩ => ?_))
   subst e2
   cases r5
   refine wpAny_truthy_bool ?_
   cases k2 with
   | false => exact ite_ff ⟨H5, I5, q5⟩
   | true =>
     refine ite_tt (test_last (thn (hd pins s5 σ H5 _ I5 q5) fun w2 s6 ⟨z3, H6, I6, r6, q6⟩ => thn (ho'' pins s6 σ H6 z' z3 w' w2 _ I6 r4 r6 q6) fun d2 s7 ⟨z4, H7, I7, r7, k3, e3, q7⟩ => ?_))
     subst e3
     cases r7
     exact wpAny_truthy_bool ⟨H7, I7, q7⟩
end
theorem zip_apart {n l1 l2 : Nat} (h1 : l1 < n) (h2 : l2 < n) : ZipApart (n + 4) (n + 2) (n + 3) n (n + 1) l1 l2 := by
 have e : ∀ a b : Nat, (a < b ∨ b < a) -> a ≠ b := fun a b h => by omega
 constructor <;> refine e _ _ ?_ <;> omega
def iZip (K : PySem.W.Frag) (ta : TA) : TI := fun σ H R => ta σ H fun vs H1 => ∃ a b, vs = [.ref a, .ref b] /\ (∃ xs, SqL K H1 a xs) /\ (∃ ys, SqL K H1 b ys) /\ R (Itz K a b) H1
section
variable {X : Cx} {K : PySem.W.Frag}
theorem pi_zip {a b : Expr} {ta : TA} {p pos : Pos} {es : List Expr} {k : Nat} {tp : Pos} (kt : KT K) (hg : Gl X "zip") (hm : X.mg "zip" = none) (ha : PA X [a, b] ta) (hs : starEach [a, b] X.env = [(false, eval a X.env), (false, eval b X.env)] := by rfl) (hs2 : starEach [b] X.env = [(false, eval b X.env)] := by rfl) (hK : X.K = K := by rfl) :
   PI X (.Tuple es k tp) (.Call (.Name "zip" p) [a, b] [] pos) (iZip K ta) := by
 subst hK
 intro pins s σ H R I h
 refine Call_ (ld_blt I hg hm boot_zip (PyProof.Rows.callWith_type1 (thn (ha pos pins s σ H _ I h) fun us s1 ⟨vs, H1, I1, r1, q1⟩ => ?_) (by rw [hs, hs2]) (by rw [hs2]; rfl)))
 obtain ⟨l1, l2, rfl, ⟨xs, hx⟩, ⟨ys, hy⟩, q⟩ := q1
 obtain ⟨u, u', rfl, rx, ry⟩ := vals2 r1
 cases rx
 cases ry
 obtain ⟨its, rv, pl, hz⟩ := I1.list hx
 obtain ⟨its', rv', pl', hz'⟩ := I1.list hy
 have lt1 : l1 < s1.heap.objs.size := by obtain ⟨_, _, e, _⟩ := pl; exact Heap.lt_size e
 have lt2 : l2 < s1.heap.objs.size := by obtain ⟨_, _, e, _⟩ := pl'; exact Heap.lt_size e
 refine call_zip_2 pl.isList pl'.isList fun h' c1 c2 c3 c4 c5 c6 c7 => ?_
 have I2 : Inv X pins σ H1 { s1 with heap := h' } := I1.kept (t' := s1.toks) c7
 have D : ZipApart (s1.heap.objs.size + 4) (s1.heap.objs.size + 2) (s1.heap.objs.size + 3) s1.heap.objs.size (s1.heap.objs.size + 1) l1 l2 := zip_apart lt1 lt2
 refine wpAny_pyIter_zip (s := { s1 with heap := h' }) c1 ?_
 refine ⟨s1.heap.objs.size + 4, _, _, _, H1, rfl, I2, turn_zip D, ⟨c1, c2, ⟨_, _, c3⟩, c4, c5⟩, fun b hb => ?_, q⟩
 have hb' : s1.heap.objs.size <= b := by
   simp only [List.mem_cons, List.not_mem_nil, or_false] at hb
   rcases hb with e | e | e | e | e <;> rw [e] <;> first | exact Nat.le_refl _ | exact Nat.le_add_right _ _
 exact I1.fpOk hb' (I1.hok.fresh hb')
theorem for_zip {a b : Addr} {xs ys : List V} {g : TG} {tb : TS} {D : Ends} {σ : St} {H : Hp} (Pv : Nat -> St -> Hp -> Prop) (hlen : xs.length = ys.length) (h0 : Pv 0 σ H) (hl : ∀ i σ H, i <= xs.length -> Pv i σ H -> SqL K H a xs /\ SqL K H b ys)
   (hs : ∀ i x y σ H T H', xs[i]? = some x -> ys[i]? = some y -> Pv i σ H -> H T = none -> Same H H' -> H' T = some (.tup [x, y]) -> g (.ref T) σ H' fun σ2 H2 => tb { D with nx := Pv (i + 1), ct := Pv (i + 1), bk := D.nx } σ2 H2) (hd : ∀ σ H, Pv xs.length σ H -> D.nx σ H) :
   ∃ W : Nat -> Nat -> St -> Hp -> Prop, (∃ m, W 0 m σ H) /\ ∀ i m σ H, W i m σ H ->
     ((Itz K a b).stop i H /\ D.nx σ H) ∨ ((Itz K a b).go i H /\ ∃ N : St -> Hp -> Prop, (∀ σ' H', N σ' H' -> ∃ m', m' < m /\ W (i + 1) m' σ' H') /\ ∀ x H', (Itz K a b).yld i H x H' -> g x σ H' fun σ2 H2 => tb { D with nx := N, ct := N, bk := D.nx } σ2 H2) := by
 refine ⟨fun i m σ H => m = xs.length - i /\ i <= xs.length /\ Pv i σ H, ⟨xs.length, by simp, Nat.zero_le _, h0⟩, ?_⟩
 rintro i m σ H ⟨rfl, hi, p⟩
 obtain ⟨q1, q2⟩ := hl i σ H hi p
 by_cases hlt : i < xs.length
 · refine .inr ⟨⟨xs, ys, xs[i], ys[i]'(by omega), q1, q2, by simp [hlt], List.getElem?_eq_getElem _⟩, Pv (i + 1), fun σ' H' p' => ⟨xs.length - (i + 1), by omega, rfl, hlt, p'⟩, fun x H' y => ?_⟩
   obtain ⟨T, u, v, hT, e, rfl, y1, y2⟩ := y
   subst e
   exact hs i u v σ H T _ (y1 xs q1) (y2 ys q2) p hT (fun b o e => by rw [upd_ne (ne_of_none e hT)]; exact e) upd_same
 · have e : i = xs.length := by omega
   subst e
   exact .inl ⟨⟨xs, ys, q1, q2, .inl (Nat.le_refl _)⟩, hd σ H p⟩
theorem strsAre_of : ∀ {ys : List Str} {its : List Value}, Vals (ys.map V.str) its -> StrsAre its ys
 | [], _, h => by
   rw [List.map_nil] at h
   cases h
   exact .nil
 | y :: r, _, h => by
   rw [List.map_cons] at h
   cases h with
   | cons p q =>
     obtain ⟨t, rfl⟩ := p
     exact .cons y t (strsAre_of q)
def rJoin (K : PySem.W.Frag) : V -> List V -> Hp -> VK -> Prop := fun x vs H Q => ∃ (z : Str) (l : Addr) (ys : List Str), x = .str z /\ vs = [.ref l] /\ SqL K H l (ys.map V.str) /\ (ys.map (·.length)).sum + ys.length * z.length <= 16777216 /\ Q (.str (Txt.join z ys)) H
theorem mt_join (kt : KT K) (hK : X.K = K := by rfl) : MtR X "str.join" (rJoin K) := by
 subst hK
 intro pins s σ H x vs v us Q I rx rv h
 obtain ⟨z, l, ys, rfl, rfl, hq, hz, q⟩ := h
 obtain ⟨t, rfl⟩ := rx
 obtain ⟨u, rfl, ru⟩ := vals1 rv
 cases ru
 obtain ⟨its, r, pl, _⟩ := I.list hq
 exact join_list pl.isList (by simpa using strsAre_of r) hz fun t' k => ⟨.str _, H, I.tok _, ⟨_, rfl⟩, q⟩
end
section
variable {K : PySem.W.Frag} {σ : St} {H : Hp} {Q : VK} {QB : Bool -> Hp -> Prop} {ta tb tc td : TE}
theorem g_join {z : Str} {l : Addr} {ys : List Str} (hq : H l = some (.lst (ys.map V.str))) (hz : (ys.map (·.length)).sum + ys.length * z.length <= 16777216) (h : Q (.str (Txt.join z ys)) H) : rJoin K (.str z) [.ref l] H Q := ⟨z, l, ys, rfl, rfl, .inl (.inl hq), hz, h⟩
theorem g_chain3 {r r' r'' : R2} (h : ta σ H fun x H1 => tb σ H1 fun y H2 => r x y H2 fun z H3 => ∃ k, z = .bl k /\
 (if k = true then tc σ H3 fun w H4 => r' y w H4 fun z' H5 => ∃ k', z' = .bl k' /\ (if k' = true then td σ H5 fun u H6 => r'' w u H6 fun z2 H7 => ∃ k2, z2 = .bl k2 /\ QB k2 H7 else QB false H5) else QB false H3)) : tChain3 r r' r'' ta tb tc td σ H QB := h
theorem tyS {z : Str} : tyV K "str" (.str z) H := rfl
theorem g_reverse {p : Addr} {xs : List V} (hp : H p = some (.lst xs)) (h : ∀ H', But p H H' -> H' p = some (.lst xs.reverse) -> Q .non H') : rReverse (.ref p) [] H Q := ⟨p, xs, rfl, rfl, hp, wr_of h⟩
end
theorem join_codes : ∀ l : List Str, (Txt.join Str.empty l).cps.toList = (l.map (·.cps.toList)).flatten := by
 intro l
 show (Builtin.Str.glued Str.empty l).cps.toList = _
 rw [StrLaws.glued_eq_join]
 induction l with
 | nil => rfl
 | cons x r ih =>
   cases r with
   | nil => show x.cps.toList = _; simp
   | cons y t =>
     show (x ++ Str.empty ++ Str.join Str.empty (y :: t)).cps.toList = _
     rw [List.map_cons, List.flatten_cons, <- ih]
     show (x.cps ++ #[] ++ (Str.join Str.empty (y :: t)).cps).toList = _
     simp
end L2
set_option maxHeartbeats 1000000
namespace L2
open PySem PySem.Spec PyProof.Rows
section
variable {X : Cx} {K : PySem.W.Frag}
def rAll (K : PySem.W.Frag) (xs : List V) (H : Hp) (Q : VK) : Prop := ∃ (p : Addr) (bs : List Bool), xs = [.ref p] /\ SqL K H p (bs.map V.bl) /\ Q (.bl (bs.all id)) H
theorem all_range (bs : List Bool) : (List.range bs.length).all (fun i => bs.getD i true) = bs.all id := by
 rw [Bool.eq_iff_iff, List.all_eq_true, List.all_eq_true]
 constructor
 · intro h b hb
   obtain ⟨i, hi, rfl⟩ := List.mem_iff_getElem.mp hb
   have := h i (List.mem_range.mpr hi)
   simpa [List.getD_eq_getElem?_getD, List.getElem?_eq_getElem hi] using this
 · intro h i hi
   have hi' := List.mem_range.mp hi
   have := h bs[i] (List.getElem_mem hi')
   simpa [List.getD_eq_getElem?_getD, List.getElem?_eq_getElem hi'] using this
theorem call_allK (kt : KT K) (hc : X.calm = true) (hK : X.K = K := by rfl) : CallR X (.builtin "all") (rAll K) := by
 subst hK
 intro pins s σ H xs us Q I r h
 obtain ⟨p, bs, rfl, hq, q⟩ := h
 obtain ⟨u, rfl, rx⟩ := vals1 r
 cases rx
 obtain ⟨its, r', pl, hz⟩ := I.list hq
 have hlen := r'.length
 rw [List.length_map] at hlen
 have hlt : p < s.heap.objs.size := by obtain ⟨_, _, e, _⟩ := pl; exact Heap.lt_size e
 refine call_all_walk (wpAny_pyIter_list pl.isList ⟨s.heap.objs.size, [s.heap.objs.size, p], [s.heap.objs.size], its.toArray.size, _, _, fun i => bs.getD i true, rfl, Walks.list (A := X.A.in1) (show X.A.in1.handled = none from I.ok.hd hc) _ _ (Nat.ne_of_lt hlt) its.toArray, ⟨⟨_, Heap.get?_push_size _ rfl, rfl, rfl⟩, pl.isList.push _⟩, ?_, ?_⟩)
 · intro i v s' Q' E' hv hQ'
   have hv' : its[i]? = some v := by simpa using hv
   have hi : i < its.length := (List.getElem?_eq_some_iff.mp hv').1
   obtain ⟨u', hu', ru⟩ := r'.get (i := i) (x := V.bl (bs[i]'(by omega))) (by simp)
   rw [hv'] at hu'
   cases hu'
   cases ru
   refine wpAny_truthy_bool ?_
   simpa [List.getD_eq_getElem?_getD, List.getElem?_eq_getElem (show i < bs.length by omega)] using hQ'
 · intro h' tk kk
   rw [List.size_toArray, <- hlen, all_range]
   refine ⟨.bl _, H, I.kept (t' := tk) fun b o eo => kk b o (fun hb => ?_) (Heap.get?_push_of_some _ eo), rfl, q⟩
   obtain rfl : b = s.heap.objs.size := by simpa using hb
   exact absurd (Heap.lt_size eo) (Nat.lt_irrefl _)
def signsV (z : Str) : List V := z.cps.toList.map fun c => V.str ⟨#[c]⟩
theorem signs_vals {z : Str} {acc : Array Value} (h : ItemsOf (SignAt z) acc z.cps.size) : Vals (signsV z) acc.toList := by
 obtain ⟨h1, h2⟩ := h
 have go : ∀ (cs : List Nat) (vs : List Value), cs.length = vs.length -> (∀ (j : Nat) (v : Value), vs[j]? = some v -> ∃ c u, cs[j]? = some c /\ v = .str ⟨#[c]⟩ u) -> Vals (cs.map fun c => V.str ⟨#[c]⟩) vs := by
   intro cs
   induction cs with
   | nil =>
     intro vs hl _
     cases vs with
     | nil => exact .nil
     | cons v r => simp at hl
   | cons c r ih =>
     intro vs hl hv
     cases vs with
     | nil => simp at hl
     | cons v t =>
       obtain ⟨c', u, e1, e2⟩ := hv 0 v rfl
       simp at e1
       subst e1
       refine .cons ⟨u, e2⟩ (ih t (by simpa using hl) fun j v' hj => ?_)
       simpa using hv (j + 1) v' (by simpa using hj)
 refine go z.cps.toList acc.toList (by simp [h1]) fun j v hj => ?_
 obtain ⟨c, u, e1, e2⟩ := h2 j v (by simpa using hj)
 exact ⟨c, u, by simpa using e1, e2⟩
def rListS (xs : List V) (H : Hp) (Q : VK) : Prop := ∃ z, xs = [.str z] /\ z.length <= sizeLine /\ ∀ l, H l = none -> Q (.ref l) (upd H l (.lst (signsV z)))
def rTupS (xs : List V) (H : Hp) (Q : VK) : Prop := ∃ z, xs = [.str z] /\ z.length <= sizeLine /\ ∀ l, H l = none -> Q (.ref l) (upd H l (.tup (signsV z)))
theorem call_listS (hc : X.calm = true) : CallR X (.type "list") rListS := by
 intro pins s σ H xs us Q I r h
 obtain ⟨z, rfl, hz, q⟩ := h
 obtain ⟨u, rfl, t, rfl⟩ := vals1 r
 refine call_list_str (I.ok.hd hc) z t (hn := hz) fun h' tk acc' c' kp e hI => ?_
 have rv := signs_vals hI
 refine ⟨.ref s.heap.objs.size, _, I.laid (t' := tk) kp (Nat.le_refl _) (show ObjOk X.prog X.w _ h' _ (.lst (signsV z)) from ⟨?_, acc'.toList, c', rv, by simpa using e⟩), rfl, q _ (I.hok.fresh (Nat.le_refl _))⟩
 unfold signsV
 rw [List.length_map, Array.length_toList]
 exact hz
theorem call_tupS (hc : X.calm = true) : CallR X (.type "tuple") rTupS := by
 intro pins s σ H xs us Q I r h
 obtain ⟨z, rfl, hz, q⟩ := h
 obtain ⟨u, rfl, t, rfl⟩ := vals1 r
 refine call_tuple_str (I.ok.hd hc) z t (hsz := hz) fun h' tk acc kp hI => ?_
 have rv := signs_vals hI
 have I1 : Inv X pins σ H { s with heap := h', toks := tk } := I.kept kp
 have I2 : Inv X pins σ (upd H h'.objs.size (.tup (signsV z))) { s with heap := h'.push { cls := .type "tuple", data := .seq acc }, toks := tk } := by
   refine I1.laid (t' := tk) (fun b o e => Heap.get?_push_of_some _ e) (Nat.le_refl _) (show ObjOk X.prog X.w _ _ _ (.tup (signsV z)) from ⟨?_, acc.toList, rv, ?_⟩)
   · unfold signsV
     rw [List.length_map, Array.length_toList]
     exact hz
   · simpa using IsTup.new h' acc
 exact ⟨.ref h'.objs.size, _, I2, rfl, q _ (I1.hok.fresh (Nat.le_refl _))⟩
def rSlS : V -> Option Int -> Option Int -> Hp -> VK -> Prop := fun x lo hi H Q => ∃ z, x = .str z /\ z.length <= sizeLine /\ Q (.str (Txt.slice z lo hi)) H
theorem part_of {v : Value} {o : Option Int} (h : IsPart v o) : ∃ q : Option (Int × Tok), v = partValue q /\ q.map (·.1) = o := by
 cases h with
 | none => exact ⟨none, rfl, rfl⟩
 | int i t => exact ⟨some (i, t), rfl, rfl⟩
theorem sl_str : SlR X rSlS := by
 intro pins s σ H x v vl vu lo hi sl Q I rx hs pl pu h
 obtain ⟨z, rfl, hz, q⟩ := h
 obtain ⟨t, rfl⟩ := rx
 obtain ⟨a, rfl, ea⟩ := part_of pl
 obtain ⟨b, rfl, eb⟩ := part_of pu
 refine ⟨"str", _, PySem.F.slot_str_getitem.lookup, typeIs_str _ _ _, ?_⟩
 refine wpAny_getItem_str_slice (l := a) (u := b) (st := none) hs rfl ?_
 subst ea eb
 exact post_val_or_str ⟨Nat.le_trans (Txt.slice_le z _ _) hz, fun t' k => ⟨.str _, H, I.tok _, ⟨t', rfl⟩, q⟩⟩
end
section
variable {K : PySem.W.Frag} {σ : St} {H : Hp} {Q : VK} {ta tb tc : TE}
theorem g_all {p : Addr} {bs : List Bool} (hp : H p = some (.lst (bs.map V.bl))) (h : Q (.bl (bs.all id)) H) : rAll K [.ref p] H Q := ⟨p, bs, rfl, .inl (.inl hp), h⟩
theorem g_sl {te : TE} {tl th : TO} {r : V -> Option Int -> Option Int -> Hp -> VK -> Prop} (h : te σ H fun x H1 => tl σ H1 fun l H2 => th σ H2 fun u H3 => r x l u H3 Q) : tSl r te tl th σ H Q := h
theorem g_noPart {R : Option Int -> Hp -> Prop} (h : R none H) : tNoPart σ H R := h
theorem g_part {te : TE} {R : Option Int -> Hp -> Prop} (h : te σ H fun x H1 => ∃ i, x = .int i /\ R (some i) H1) : tPart te σ H R := h
theorem g_slS {z : Str} {lo hi : Option Int} (hz : z.length <= sizeLine) (h : Q (.str (Txt.slice z lo hi)) H) : rSlS (.str z) lo hi H Q := ⟨z, rfl, hz, h⟩
def rNotInS : R2 := fun x y H Q => ∃ i j, x = .str i /\ y = .str j /\ Q (.bl (!(!(Builtin.Str.occurrences j i 0 j.length 1).isEmpty))) H
theorem op_notInS {X : Cx} : OpR X (compareOp .NotIn) rNotInS := op_notIn_str
theorem g_notInS {c : Nat} {j : Str} (h : Q (.bl (!decide (c ∈ j.cps.toList))) H) : rNotInS (.str ⟨#[c]⟩) (.str j) H Q := ⟨_, _, rfl, rfl, by rw [StrLaws.found_one]; exact h⟩
theorem g_chainE {r r' : R2} (h : ta σ H fun x H1 => tb σ H1 fun y H2 => r x y H2 fun z H3 => ∃ k, z = .bl k /\ (if k = true then tc σ H3 fun w' H4 => r' y w' H4 Q else Q (.bl false) H3)) : tChain r r' ta tb tc σ H Q := h
end
theorem lp_str {z : Str} {g : TG} {tt : TT} {tb : TB} {σ : St} {H : Hp} {acc : List V} {Q : St -> Hp -> List V -> Prop} (Pv : Nat -> St -> Hp -> List V -> Prop) (h0 : Pv 0 σ H acc)
   (hs : ∀ i c σ H acc, z.cps.toList[i]? = some c -> Pv i σ H acc -> g (.str ⟨#[c]⟩) σ H fun σ2 H2 => tt σ2 H2 fun b H3 => if b = true then tb σ2 H3 acc (Pv (i + 1)) else Pv (i + 1) σ2 H3 acc) (hd : ∀ σ H acc, Pv z.cps.size σ H acc -> Q σ H acc) : lpW g tt tb (Its z) σ H acc Q := by
 refine ⟨fun i m σ H acc => m = z.cps.size - i /\ i <= z.cps.size /\ Pv i σ H acc, ⟨z.cps.size, by simp, Nat.zero_le _, h0⟩, ?_⟩
 rintro i m σ H acc ⟨rfl, hi, p⟩
 by_cases hlt : i < z.cps.size
 · refine .inr ⟨hlt, Pv (i + 1), fun σ' H' a p' => ⟨z.cps.size - (i + 1), by omega, rfl, hlt, p'⟩, fun x H' y => ?_⟩
   obtain ⟨e, c, hc, rfl⟩ := y
   subst e
   exact hs i c σ _ acc hc p
 · have e : i = z.cps.size := by omega
   subst e
   exact .inl ⟨Nat.le_refl _, hd σ H acc p⟩
theorem for_str {z : Str} {g : TG} {tb : TS} {D : Ends} {σ : St} {H : Hp} (Pv : Nat -> St -> Hp -> Prop) (h0 : Pv 0 σ H)
   (hs : ∀ i c σ H, z.cps.toList[i]? = some c -> Pv i σ H -> g (.str ⟨#[c]⟩) σ H fun σ2 H2 => tb { D with nx := Pv (i + 1), ct := Pv (i + 1), bk := D.nx } σ2 H2) (hd : ∀ σ H, Pv z.cps.size σ H -> D.nx σ H) :
   ∃ W : Nat -> Nat -> St -> Hp -> Prop, (∃ m, W 0 m σ H) /\ ∀ i m σ H, W i m σ H ->
     ((Its z).stop i H /\ D.nx σ H) ∨ ((Its z).go i H /\ ∃ N : St -> Hp -> Prop, (∀ σ' H', N σ' H' -> ∃ m', m' < m /\ W (i + 1) m' σ' H') /\ ∀ x H', (Its z).yld i H x H' -> g x σ H' fun σ2 H2 => tb { D with nx := N, ct := N, bk := D.nx } σ2 H2) := by
 refine ⟨fun i m σ H => m = z.cps.size - i /\ i <= z.cps.size /\ Pv i σ H, ⟨z.cps.size, by simp, Nat.zero_le _, h0⟩, ?_⟩
 rintro i m σ H ⟨rfl, hi, p⟩
 by_cases hlt : i < z.cps.size
 · refine .inr ⟨hlt, Pv (i + 1), fun σ' H' p' => ⟨z.cps.size - (i + 1), by omega, rfl, hlt, p'⟩, fun x H' y => ?_⟩
   obtain ⟨e, c, hc, rfl⟩ := y
   subst e
   exact hs i c σ _ hc p
 · have e : i = z.cps.size := by omega
   subst e
   exact .inl ⟨Nat.le_refl _, hd σ H p⟩
end L2
namespace Mir
open PySem L2
inductive S where
 | d (x : D)
 | pot (ns : List Int) (i r m : Int)
 | dc (kvs : List (List Key × D))
 | scr (ns : List Int)
abbrev En := List (Option S)
def look : En -> Nat -> Option S
 | [], _ => none
 | x :: _, 0 => x
 | _ :: r, n + 1 => look r n
inductive Op where
 | val (d : D)
 | var (i : Nat)
inductive Md where
 | pl | ow | lk | io
 deriving DecidableEq
def mode : List Md -> Nat -> Md
 | [], _ => .pl
 | m :: _, 0 => m
 | _ :: r, n + 1 => mode r n
def unD : Option S -> Option D
 | some (.d x) => some x
 | _ => none
def res (ρ : En) : Op -> Option D
 | .val d => some d
 | .var i => unD (look ρ i)
def resS (ρ : En) : Op -> Option S
 | .val d => some (.d d)
 | .var i => look ρ i
def immO (s : Option D) : Option D := match s with
 | some x => if D.imm x = true then some x else none
 | none => none
def sto (md : List Md) (ρ : En) : Op -> Option D
 | .val d => some d
 | .var i => match mode md i with
   | .pl => unD (look ρ i)
   | _ => immO (unD (look ρ i))
theorem look_set_eq : ∀ {ρ : En} {i : Nat} {x : Option S}, i < ρ.length -> look (ρ.set i x) i = x
 | [], i, x, h => by simp at h
 | y :: r, 0, x, h => rfl
 | y :: r, i + 1, x, h => by simp only [List.set_cons_succ, look]; exact look_set_eq (by simpa using h)
theorem look_set_ne : ∀ {ρ : En} {i j : Nat} {x : Option S}, i ≠ j -> look (ρ.set i x) j = look ρ j
 | [], i, j, x, h => rfl
 | y :: r, 0, 0, x, h => absurd rfl h
 | y :: r, 0, j + 1, x, h => rfl
 | y :: r, i + 1, 0, x, h => rfl
 | y :: r, i + 1, j + 1, x, h => by simp only [List.set_cons_succ, look]; exact look_set_ne (fun e => h (by rw [e]))
theorem look_lt : ∀ {ρ : En} {i : Nat} {s : S}, look ρ i = some s -> i < ρ.length
 | [], i, s, h => by cases h
 | y :: r, 0, s, h => by simp
 | y :: r, i + 1, s, h => by have := look_lt (ρ := r) (i := i) h; simp; omega
theorem look_get : ∀ {ρ : En} {i : Nat}, look ρ i = (ρ[i]?).getD none
 | [], i => by simp [look]
 | y :: r, 0 => by simp [look]
 | y :: r, i + 1 => by simp only [look, List.getElem?_cons_succ]; exact look_get
mutual
def RepP (K : PySem.W.Frag) (H : Hp) (ok : Addr -> Prop) : D -> V -> Prop
 | .non, v => v = .non
 | .bl b, v => v = .bl b
 | .int i, v => v = .int i
 | .str x, v => v = .str x
 | .tup l, v => ∃ a xs, v = .ref a /\ SqT K H a xs /\ RepPL K H ok l xs
 | .lst l, v => ∃ a xs, v = .ref a /\ H a = some (.lst xs) /\ ok a /\ RepPL K H ok l xs
def RepPL (K : PySem.W.Frag) (H : Hp) (ok : Addr -> Prop) : List D -> List V -> Prop
 | [], xs => xs = []
 | d :: ds, xs => ∃ x r, xs = x :: r /\ RepP K H ok d x /\ RepPL K H ok ds r
end
section
variable {K : PySem.W.Frag} {H H' : Hp} {ok ok' : Addr -> Prop}
theorem RepPL.nil : RepPL K H ok [] [] := by rw [RepPL]
theorem RepPL.cons {d : D} {ds : List D} {x : V} {xs : List V} (h : RepP K H ok d x) (t : RepPL K H ok ds xs) : RepPL K H ok (d :: ds) (x :: xs) := by rw [RepPL]; exact ⟨x, xs, rfl, h, t⟩
theorem RepPL.cons_inv {d : D} {ds : List D} {xs : List V} (h : RepPL K H ok (d :: ds) xs) : ∃ x r, xs = x :: r /\ RepP K H ok d x /\ RepPL K H ok ds r := by rw [RepPL] at h; exact h
theorem RepPL.nil_inv {xs : List V} (h : RepPL K H ok [] xs) : xs = [] := by rw [RepPL] at h; exact h
theorem RepPL.length : ∀ {l : List D} {xs : List V}, RepPL K H ok l xs -> xs.length = l.length
 | [], xs, h => by rw [h.nil_inv]; rfl
 | d :: ds, xs, h => by
   obtain ⟨x, r, rfl, _, h2⟩ := h.cons_inv
   simp [RepPL.length h2]
theorem RepPL.get : ∀ {l : List D} {xs : List V} {i : Nat} {d : D}, RepPL K H ok l xs -> l[i]? = some d -> ∃ x, xs[i]? = some x /\ RepP K H ok d x
 | [], xs, i, d, h, e => by simp at e
 | d' :: ds, xs, 0, d, h, e => by
   obtain ⟨x, r, rfl, h1, _⟩ := h.cons_inv
   simp at e; subst e
   exact ⟨x, rfl, h1⟩
 | d' :: ds, xs, i + 1, d, h, e => by
   obtain ⟨x, r, rfl, _, h2⟩ := h.cons_inv
   simp at e
   obtain ⟨y, e1, h3⟩ := RepPL.get h2 e
   exact ⟨y, by simpa using e1, h3⟩
theorem RepPL.append : ∀ {l m : List D} {xs ys : List V}, RepPL K H ok l xs -> RepPL K H ok m ys -> RepPL K H ok (l ++ m) (xs ++ ys)
 | [], m, xs, ys, h, t => by rw [h.nil_inv]; exact t
 | d :: ds, m, xs, ys, h, t => by
   obtain ⟨x, r, rfl, h1, h2⟩ := h.cons_inv
   exact .cons h1 (RepPL.append h2 t)
theorem RepPL.take : ∀ {l : List D} {xs : List V} (n : Nat), RepPL K H ok l xs -> RepPL K H ok (l.take n) (xs.take n)
 | l, xs, 0, h => by simp; exact .nil
 | [], xs, n + 1, h => by rw [h.nil_inv]; simp; exact .nil
 | d :: ds, xs, n + 1, h => by
   obtain ⟨x, r, rfl, h1, h2⟩ := h.cons_inv
   simp only [List.take_succ_cons]
   exact .cons h1 (RepPL.take n h2)
theorem RepPL.drop : ∀ {l : List D} {xs : List V} (n : Nat), RepPL K H ok l xs -> RepPL K H ok (l.drop n) (xs.drop n)
 | l, xs, 0, h => by simpa using h
 | [], xs, n + 1, h => by rw [h.nil_inv]; simp; exact .nil
 | d :: ds, xs, n + 1, h => by
   obtain ⟨x, r, rfl, h1, h2⟩ := h.cons_inv
   simp only [List.drop_succ_cons]
   exact RepPL.drop n h2
theorem RepPL.dropLast {l : List D} {xs : List V} (h : RepPL K H ok l xs) : RepPL K H ok l.dropLast xs.dropLast := by
 rw [List.dropLast_eq_take, List.dropLast_eq_take, h.length]
 exact h.take _
theorem RepPL.set : ∀ {l : List D} {xs : List V} {d : D} {x : V} (i : Nat), RepPL K H ok l xs -> RepP K H ok d x -> RepPL K H ok (l.set i d) (xs.set i x)
 | [], xs, d, x, i, h, r => by rw [h.nil_inv]; simp; exact .nil
 | d' :: ds, xs, d, x, 0, h, r => by
   obtain ⟨y, t, rfl, h1, h2⟩ := h.cons_inv
   exact .cons r h2
 | d' :: ds, xs, d, x, i + 1, h, r => by
   obtain ⟨y, t, rfl, h1, h2⟩ := h.cons_inv
   exact .cons h1 (RepPL.set i h2 r)
theorem RepPL.reverse : ∀ {l : List D} {xs : List V}, RepPL K H ok l xs -> RepPL K H ok l.reverse xs.reverse
 | [], xs, h => by rw [h.nil_inv]; exact .nil
 | d :: ds, xs, h => by
   obtain ⟨x, r, rfl, h1, h2⟩ := h.cons_inv
   rw [List.reverse_cons, List.reverse_cons]
   exact (RepPL.reverse h2).append (.cons h1 .nil)
theorem RepPL.rep : ∀ {l : List D} {xs : List V} (k : Nat), RepPL K H ok l xs -> RepPL K H ok (List.replicate k l).flatten (List.replicate k xs).flatten
 | l, xs, 0, h => by simp; exact .nil
 | l, xs, k + 1, h => by
   rw [List.replicate_succ, List.replicate_succ, List.flatten_cons, List.flatten_cons]
   exact h.append (RepPL.rep k h)
mutual
theorem RepP.rep : ∀ {d : D} {v : V}, RepP K H ok d v -> Rep K H d v
 | .non, v, h => by rw [RepP] at h; rw [Rep]; exact h
 | .bl _, v, h => by rw [RepP] at h; rw [Rep]; exact h
 | .int _, v, h => by rw [RepP] at h; rw [Rep]; exact h
 | .str _, v, h => by rw [RepP] at h; rw [Rep]; exact h
 | .tup l, v, h => by
   rw [RepP] at h; rw [Rep]
   obtain ⟨a, xs, e, t, r⟩ := h
   exact ⟨a, xs, e, t, RepPL.repL r⟩
 | .lst l, v, h => by
   rw [RepP] at h; rw [Rep]
   obtain ⟨a, xs, e, t, _, r⟩ := h
   exact ⟨a, xs, e, .inl (.inl t), RepPL.repL r⟩
theorem RepPL.repL : ∀ {l : List D} {xs : List V}, RepPL K H ok l xs -> RepL K H l xs
 | [], xs, h => by rw [h.nil_inv]; exact .nil
 | d :: ds, xs, h => by
   obtain ⟨x, r, rfl, h1, h2⟩ := h.cons_inv
   exact .cons (RepP.rep h1) (RepPL.repL h2)
end
mutual
theorem RepP.stay (hT : StayT K H H') (hL : ∀ a xs, ok a -> H a = some (.lst xs) -> H' a = some (.lst xs) /\ ok' a) : ∀ {d : D} {v : V}, RepP K H ok d v -> RepP K H' ok' d v
 | .non, v, h => by rw [RepP] at h ⊢; exact h
 | .bl _, v, h => by rw [RepP] at h ⊢; exact h
 | .int _, v, h => by rw [RepP] at h ⊢; exact h
 | .str _, v, h => by rw [RepP] at h ⊢; exact h
 | .tup l, v, h => by
   rw [RepP] at h ⊢
   obtain ⟨a, xs, e, t, r⟩ := h
   exact ⟨a, xs, e, hT _ _ t, RepPL.stay hT hL r⟩
 | .lst l, v, h => by
   rw [RepP] at h ⊢
   obtain ⟨a, xs, e, t, o, r⟩ := h
   exact ⟨a, xs, e, (hL _ _ o t).1, (hL _ _ o t).2, RepPL.stay hT hL r⟩
theorem RepPL.stay (hT : StayT K H H') (hL : ∀ a xs, ok a -> H a = some (.lst xs) -> H' a = some (.lst xs) /\ ok' a) : ∀ {l : List D} {xs : List V}, RepPL K H ok l xs -> RepPL K H' ok' l xs
 | [], xs, h => by rw [h.nil_inv]; exact .nil
 | d :: ds, xs, h => by
   obtain ⟨x, r, rfl, h1, h2⟩ := h.cons_inv
   exact .cons (RepP.stay hT hL h1) (RepPL.stay hT hL h2)
end
mutual
theorem RepP.ofImm : ∀ {d : D} {v : V}, D.imm d = true -> Rep K H d v -> RepP K H ok d v
 | .non, v, _, h => by rw [Rep] at h; rw [RepP]; exact h
 | .bl _, v, _, h => by rw [Rep] at h; rw [RepP]; exact h
 | .int _, v, _, h => by rw [Rep] at h; rw [RepP]; exact h
 | .str _, v, _, h => by rw [Rep] at h; rw [RepP]; exact h
 | .tup l, v, i, h => by
   rw [Rep] at h; rw [RepP]
   obtain ⟨a, xs, e, t, r⟩ := h
   exact ⟨a, xs, e, t, RepPL.ofImm (by simpa [D.imm] using i) r⟩
 | .lst l, v, i, h => by simp [D.imm] at i
theorem RepPL.ofImm : ∀ {l : List D} {xs : List V}, D.immL l = true -> RepL K H l xs -> RepPL K H ok l xs
 | [], xs, _, h => by rw [RepL] at h; subst h; exact .nil
 | d :: ds, xs, i, h => by
   rw [RepL] at h
   obtain ⟨x, r, rfl, h1, h2⟩ := h
   rw [D.immL, Bool.and_eq_true] at i
   exact .cons (RepP.ofImm i.1 h1) (RepPL.ofImm i.2 h2)
end
def RepT (K : PySem.W.Frag) (H : Hp) (ok : Addr -> Prop) : D -> V -> Prop
 | .lst l, v => ∃ a xs, v = .ref a /\ H a = some (.lst xs) /\ RepPL K H ok l xs
 | d, v => RepP K H ok d v
theorem RepP.top {d : D} {v : V} (h : RepP K H ok d v) : RepT K H ok d v := by
 cases d <;> first | exact h | (rw [RepP] at h; obtain ⟨a, xs, e, t, _, r⟩ := h; exact ⟨a, xs, e, t, r⟩)
theorem RepT.rep {d : D} {v : V} (h : RepT K H ok d v) : Rep K H d v := by
 cases d <;> first | exact RepP.rep (K := K) (H := H) (ok := ok) (show RepP K H ok _ v from h) | (obtain ⟨a, xs, e, t, r⟩ := h; rw [Rep]; exact ⟨a, xs, e, .inl (.inl t), r.repL⟩)
theorem RepT.imm {d : D} {v : V} {ok' : Addr -> Prop} (h : RepT K H ok d v) (i : D.imm d = true) : RepP K H ok' d v := RepP.ofImm i h.rep
theorem RepP.mono {d : D} {v : V} (h : RepP K H ok d v) (m : ∀ a xs, ok a -> H a = some (.lst xs) -> ok' a) : RepP K H ok' d v := h.stay (fun _ _ z => z) fun a xs o r => ⟨r, m a xs o r⟩
theorem RepPL.mono {d : List D} {v : List V} (h : RepPL K H ok d v) (m : ∀ a xs, ok a -> H a = some (.lst xs) -> ok' a) : RepPL K H ok' d v := h.stay (fun _ _ z => z) fun a xs o r => ⟨r, m a xs o r⟩
theorem Same.rd {a : Addr} {o : HO} (s : Same H H') (h : Rd H a o) : Rd H' a o := by
 rcases h with h | ⟨u, h⟩
 · exact .inl (s _ _ h)
 · exact .inr ⟨u, s _ _ h⟩
theorem RepP.same {d : D} {v : V} (h : RepP K H ok d v) (s : Same H H') : RepP K H' ok d v := h.stay (My.stayT_same s) fun a xs o r => ⟨s _ _ r, o⟩
theorem RepPL.same {d : List D} {v : List V} (h : RepPL K H ok d v) (s : Same H H') : RepPL K H' ok d v := h.stay (My.stayT_same s) fun a xs o r => ⟨s _ _ r, o⟩
end
def MutO (o : Option HO) : Prop := ∃ xs, o = some (.lst xs)
def Ext (W : Addr -> Prop) (H H' : Hp) : Prop := ∀ b o, ¬ W b -> H b = some o -> H' b = some o
theorem Ext.refl (W : Addr -> Prop) (H : Hp) : Ext W H H := fun _ _ _ h => h
theorem Ext.trans {W : Addr -> Prop} {H H1 H2 : Hp} (a : Ext W H H1) (b : Ext W H1 H2) : Ext W H H2 := fun c o n h => b c o n (a c o n h)
theorem Same.ext {W : Addr -> Prop} {H H' : Hp} (s : Same H H') : Ext W H H' := fun b o _ h => s b o h
theorem Ext.stayT {K : PySem.W.Frag} {W : Addr -> Prop} {H H' : Hp} (e : Ext W H H') (k : ∀ a, W a -> MutO (H a)) : StayT K H H' := by
 intro a ys h
 rcases h with (h | ⟨o, h⟩) | h
 · exact .inl (.inl (e a _ (fun w => by obtain ⟨xs, z⟩ := k a w; rw [h] at z; cases z) h))
 · exact .inl (.inr ⟨o, e a _ (fun w => by obtain ⟨xs, z⟩ := k a w; rw [h] at z; cases z) h⟩)
 · exact .inr h
theorem Ext.rd {W : Addr -> Prop} {H H' : Hp} (e : Ext W H H') {a : Addr} {o : HO} (n : ¬ W a) (h : Rd H a o) : Rd H' a o := by
 rcases h with h | ⟨u, h⟩
 · exact .inl (e _ _ n h)
 · exact .inr ⟨u, e _ _ n h⟩
def isM : S -> Bool
 | .d (.lst _) => true
 | .d _ => false
 | .scr _ => false
 | _ => true
def Cell (K : PySem.W.Frag) (A : Addr -> Prop) (H : Hp) (ok okq : Addr -> Prop) : S -> V -> Prop
 | .d (.lst l), v => ∃ a xs, v = .ref a /\ H a = some (.lst xs) /\ A a /\ ok a /\ RepPL K H (fun b => ¬ A b) l xs
 | .d x, v => RepP K H (fun b => ¬ A b) x v
 | .pot ns i r m, v => ∃ p q, v = .ref p /\ H p = some (.lst [.ref q, .int i, .int r, .int m]) /\ H q = some (.lst (ns.map V.int)) /\ A p /\ ok p /\ ¬ A q /\ okq q
 | .dc _, _ => False
 | .scr _, _ => False
def ScrAt (K : PySem.W.Frag) (H : Hp) (a : Addr) (ns : List Int) : Prop := (∃ o, H a = some (.frz o (.lst (ns.map V.int)))) ∨
 ∃ (o : Obj) (its : Array Value) (n : Nat), K.lookup a = some o /\ o.cls = .type "list" /\ o.dict = none /\ o.data = .seq its n /\ its.size <= sizeLine /\ Vals (ns.map V.int) its.toList
theorem ScrAt.sq {K : PySem.W.Frag} {H : Hp} {a : Addr} {ns : List Int} (h : ScrAt K H a ns) : SqL K H a (ns.map V.int) := by
 rcases h with h | h
 · exact .inl (.inr h)
 · exact .inr h
theorem ScrAt.ext {K : PySem.W.Frag} {W : Addr -> Prop} {H H' : Hp} {a : Addr} {ns : List Int} (e : Ext W H H') (k : ∀ a, W a -> MutO (H a)) (h : ScrAt K H a ns) : ScrAt K H' a ns := by
 rcases h with ⟨o, h⟩ | h
 · exact .inl ⟨o, e a _ (fun w => by obtain ⟨xs, z⟩ := k a w; rw [h] at z; cases z) h⟩
 · exact .inr h
theorem ScrAt.same {K : PySem.W.Frag} {H H' : Hp} {a : Addr} {ns : List Int} (s : Same H H') (h : ScrAt K H a ns) : ScrAt K H' a ns := by
 rcases h with ⟨o, h⟩ | h
 · exact .inl ⟨o, s _ _ h⟩
 · exact .inr h
def SRep (K : PySem.W.Frag) (H : Hp) (ok : Addr -> Prop) : S -> V -> Prop
 | .d x, v => RepP K H ok x v
 | .scr ns, v => ∃ a, v = .ref a /\ ScrAt K H a ns
 | _, _ => False
structure Cn where
 K : PySem.W.Frag
 H0 : Hp
 M : Addr -> Prop
 Q : Addr -> Prop
 free : Bool
def SlotAt (C : Cn) (A W : Addr -> Prop) (H : Hp) (s : S) (v : V) : Md -> Prop
 | .pl => SRep C.K H (fun b => ¬ A b) s v
 | .ow => Cell C.K A H (fun a => W a /\ C.H0 a = none) (fun _ => True) s v
 | .lk => Cell C.K A H (fun a => ¬ W a) (fun _ => True) s v
 | .io => Cell C.K A H (fun a => W a /\ C.M a) C.Q s v
structure R (C : Cn) (md : List Md) (A W : Addr -> Prop) (ρ : En) (σ : St) (H : Hp) : Prop where
 len : σ.length = ρ.length
 wa : ∀ a, W a -> A a
 ak : ∀ a, A a -> MutO (H a)
 base : ∀ b o, C.H0 b = some o -> ¬ C.M b -> H b = some o
 wf : ∀ a, W a -> C.H0 a = none ∨ C.M a
 ma : ∀ a, C.M a -> A a
 fo : C.free = true -> ∀ a xs, C.H0 a = some (.lst xs) -> ¬ C.Q a -> A a
 slot : ∀ i s, look ρ i = some s -> ∃ v, σ[i]? = some (some v) /\ SlotAt C A W H s v (mode md i)
 inj : ∀ i j s s' a, i ≠ j -> mode md i ≠ .pl -> mode md j ≠ .pl -> look ρ i = some s -> look ρ j = some s' -> isM s = true -> isM s' = true -> σ[i]? = some (some (.ref a)) -> σ[j]? = some (some (.ref a)) -> False
section
variable {C : Cn} {md : List Md} {A W : Addr -> Prop} {ρ : En} {σ : St} {H H' : Hp}
theorem R.wk (r : R C md A W ρ σ H) : ∀ a, W a -> MutO (H a) := fun a w => r.ak a (r.wa a w)
theorem R.stayP (r : R C md A W ρ σ H) (e : Ext W H H') {d : D} {v : V} (h : RepP C.K H (fun b => ¬ A b) d v) : RepP C.K H' (fun b => ¬ A b) d v :=
 h.stay (e.stayT r.wk) fun a xs o z => ⟨e a _ (fun w => o (r.wa a w)) z, o⟩
theorem R.stayPL (r : R C md A W ρ σ H) (e : Ext W H H') {d : List D} {v : List V} (h : RepPL C.K H (fun b => ¬ A b) d v) : RepPL C.K H' (fun b => ¬ A b) d v :=
 h.stay (e.stayT r.wk) fun a xs o z => ⟨e a _ (fun w => o (r.wa a w)) z, o⟩
theorem Cell.same {K : PySem.W.Frag} {ok okq : Addr -> Prop} {s : S} {v : V} (s1 : Same H H') (h : Cell K A H ok okq s v) : Cell K A H' ok okq s v := by
 match s, h with
 | .d (.lst l), h =>
   obtain ⟨a, xs, e, h1, h2, h3, h4⟩ := h
   exact ⟨a, xs, e, s1 _ _ h1, h2, h3, h4.same s1⟩
 | .d .non, h => exact RepP.same h s1
 | .d (.bl _), h => exact RepP.same h s1
 | .d (.int _), h => exact RepP.same h s1
 | .d (.str _), h => exact RepP.same h s1
 | .d (.tup _), h => exact RepP.same h s1
 | .pot ns i r m, h =>
   obtain ⟨p, q, e, h1, h2, h3⟩ := h
   exact ⟨p, q, e, s1 _ _ h1, s1 _ _ h2, h3⟩
 | .dc _, h => exact h.elim
 | .scr _, h => exact h.elim
theorem R.same (r : R C md A W ρ σ H) (s : Same H H') : R C md A W ρ σ H' where
 len := r.len
 wa := r.wa
 ak := fun a h => let ⟨xs, e⟩ := r.ak a h; ⟨xs, s _ _ e⟩
 base := fun b o h n => s _ _ (r.base b o h n)
 wf := r.wf
 ma := r.ma
 fo := r.fo
 slot := fun i t h => by
   obtain ⟨v, e, h1⟩ := r.slot i t h
   refine ⟨v, e, ?_⟩
   cases em : mode md i with
   | pl =>
     rw [em] at h1
     match t, h1 with
     | .d x, h1 => exact RepP.same h1 s
     | .scr ns, h1 => obtain ⟨a, z, h1⟩ := h1; exact ⟨a, z, h1.same s⟩
   | ow => rw [em] at h1; exact Cell.same s h1
   | lk => rw [em] at h1; exact Cell.same s h1
   | io => rw [em] at h1; exact Cell.same s h1
 inj := r.inj
theorem R.fresh (r : R C md A W ρ σ H) {a : Addr} (h : H a = none) : ¬ A a := fun z => by
 obtain ⟨xs, e⟩ := r.ak a z; rw [h] at e; cases e
theorem R.freshP (r : R C md A W ρ σ H) {d : D} {v : V} {H' : Hp} (h : RepP C.K H' (fun a => ¬ A a ∨ H a = none) d v) : RepP C.K H' (fun a => ¬ A a) d v :=
 h.mono fun a xs o _ => by rcases o with o | o; exact o; exact r.fresh o
theorem R.freshPL (r : R C md A W ρ σ H) {d : List D} {v : List V} {H' : Hp} (h : RepPL C.K H' (fun a => ¬ A a ∨ H a = none) d v) : RepPL C.K H' (fun a => ¬ A a) d v :=
 h.mono fun a xs o _ => by rcases o with o | o; exact o; exact r.fresh o
def OpAt (C : Cn) (A : Addr -> Prop) (σ : St) (H : Hp) : Op -> V -> Prop
 | .val d, v => RepP C.K H (fun a => ¬ A a) d v
 | .var i, v => σ[i]? = some (some v)
theorem OpAt.stay {o : Op} {v : V} (r : R C md A W ρ σ H) (e : Ext W H H') (h : OpAt C A σ H o v) : OpAt C A σ H' o v := by
 cases o with
 | val d => exact r.stayP e h
 | var i => exact h
theorem Cell.top {K : PySem.W.Frag} {ok okq : Addr -> Prop} {d : D} {v : V} (h : Cell K A H ok okq (.d d) v) : RepT K H (fun a => ¬ A a) d v := by
 match d, h with
 | .lst l, h =>
   obtain ⟨a, xs, e, h1, h2, h3, h4⟩ := h
   exact ⟨a, xs, e, h1, h4⟩
 | .non, h => exact h
 | .bl _, h => exact h
 | .int _, h => exact h
 | .str _, h => exact h
 | .tup _, h => exact h
theorem SlotAt.top {d : D} {v : V} {m : Md} (h : SlotAt C A W H (.d d) v m) : RepT C.K H (fun a => ¬ A a) d v := by
 cases m with
 | pl => exact RepP.top h
 | ow => exact Cell.top h
 | lk => exact Cell.top h
 | io => exact Cell.top h
theorem unD_some {o : Option S} {d : D} (h : unD o = some d) : o = some (.d d) := by
 match o, h with
 | some (.d x), h => cases h; rfl
theorem OpAt.get {o : Op} {v : V} {d : D} (r : R C md A W ρ σ H) (h : OpAt C A σ H o v) (e : res ρ o = some d) : RepT C.K H (fun a => ¬ A a) d v := by
 cases o with
 | val d' => cases e; exact RepP.top h
 | var i =>
   obtain ⟨v', e', h'⟩ := r.slot i (.d d) (unD_some e)
   have : some (some v) = some (some v') := (show σ[i]? = some (some v) from h).symm.trans e'
   cases this
   exact h'.top
theorem OpAt.sto {o : Op} {v : V} {d : D} (r : R C md A W ρ σ H) (h : OpAt C A σ H o v) (e : sto md ρ o = some d) : RepP C.K H (fun a => ¬ A a) d v := by
 cases o with
 | val d' => cases e; exact h
 | var i =>
   unfold Mir.sto at e
   cases em : mode md i with
   | pl =>
     simp only [em] at e
     obtain ⟨v', e', h'⟩ := r.slot i (.d d) (unD_some e)
     have : some (some v) = some (some v') := (show σ[i]? = some (some v) from h).symm.trans e'
     cases this
     rw [em] at h'
     exact h'
   | _ =>
     simp only [em] at e
     cases eu : unD (look ρ i) with
     | none => rw [eu] at e; cases e
     | some x =>
       rw [eu] at e
       unfold immO at e
       simp only at e
       split at e
       · cases e
         rename_i hi
         exact (OpAt.get r h (show res ρ (.var i) = some d from eu)).imm hi
       · cases e
abbrev ME := En -> Option (Op × En)
abbrev MT := En -> Option (Bool × En)
abbrev MA := En -> Option (List Op × En)
def LE (C : Cn) (md : List Md) (t : TE) (f : ME) : Prop := ∀ (A W : Addr -> Prop) (ρ : En) (σ : St) (H : Hp) (Q : VK) (o : Op) (ρ' : En), R C md A W ρ σ H -> f ρ = some (o, ρ') ->
 (∀ v H', Ext W H H' -> R C md A W ρ' σ H' -> OpAt C A σ H' o v -> Q v H') -> t σ H Q
def LT (C : Cn) (md : List Md) (t : TT) (f : MT) : Prop := ∀ (A W : Addr -> Prop) (ρ : En) (σ : St) (H : Hp) (Q : Bool -> Hp -> Prop) (b : Bool) (ρ' : En), R C md A W ρ σ H -> f ρ = some (b, ρ') ->
 (∀ H', Ext W H H' -> R C md A W ρ' σ H' -> Q b H') -> t σ H Q
def OpsAt (C : Cn) (A : Addr -> Prop) (σ : St) (H : Hp) : List Op -> List V -> Prop
 | [], vs => vs = []
 | o :: os, vs => ∃ v r, vs = v :: r /\ OpAt C A σ H o v /\ OpsAt C A σ H os r
def LA (C : Cn) (md : List Md) (t : TA) (f : MA) : Prop := ∀ (A W : Addr -> Prop) (ρ : En) (σ : St) (H : Hp) (Q : List V -> Hp -> Prop) (os : List Op) (ρ' : En), R C md A W ρ σ H -> f ρ = some (os, ρ') ->
 (∀ vs H', Ext W H H' -> R C md A W ρ' σ H' -> OpsAt C A σ H' os vs -> Q vs H') -> t σ H Q
end
end Mir
namespace Mir
open PySem L2
def mVar (i : Nat) : ME := fun ρ => match look ρ i with
 | some _ => some (.var i, ρ)
 | none => none
def mC (d : D) : ME := fun ρ => some (.val d, ρ)
def mOp (g : D -> D -> Option D) (fa fb : ME) : ME := fun ρ =>
 (fa ρ).bind fun x => (fb x.2).bind fun y => (res y.2 x.1).bind fun d => (res y.2 y.1).bind fun e => (g d e).bind fun u => some (.val u, y.2)
def mUn (g : D -> Option D) (fa : ME) : ME := fun ρ => (fa ρ).bind fun x => (res x.2 x.1).bind fun d => (g d).bind fun u => some (.val u, x.2)
def mNil : MA := fun ρ => some ([], ρ)
def mCons (fa : ME) (fr : MA) : MA := fun ρ => (fa ρ).bind fun x => (fr x.2).bind fun y => some (x.1 :: y.1, y.2)
def ress (ρ : En) : List Op -> Option (List D)
 | [] => some []
 | o :: os => (res ρ o).bind fun d => (ress ρ os).bind fun ds => some (d :: ds)
def ressS (ρ : En) : List Op -> Option (List S)
 | [] => some []
 | o :: os => (resS ρ o).bind fun d => (ressS ρ os).bind fun ds => some (d :: ds)
def stos (md : List Md) (ρ : En) : List Op -> Option (List D)
 | [] => some []
 | o :: os => (sto md ρ o).bind fun d => (stos md ρ os).bind fun ds => some (d :: ds)
def mCB (g : List D -> Option D) (fa : MA) : ME := fun ρ => (fa ρ).bind fun x => (ress x.2 x.1).bind fun ds => (g ds).bind fun u => some (.val u, x.2)
def mTup (md : List Md) (fa : MA) : ME := fun ρ => (fa ρ).bind fun x => (stos md x.2 x.1).bind fun ds => if ds.length <= sizeLine then some (.val (.tup ds), x.2) else none
def mLst (md : List Md) (fa : MA) : ME := fun ρ => (fa ρ).bind fun x => (stos md x.2 x.1).bind fun ds => if ds.length <= sizeLine then some (.val (.lst ds), x.2) else none
def asB : D -> Option Bool
 | .bl b => some b
 | _ => none
def mB (fa : ME) : MT := fun ρ => (fa ρ).bind fun x => (res x.2 x.1).bind fun d => (asB d).bind fun b => some (b, x.2)
def mAnd (fa fb : MT) : MT := fun ρ => (fa ρ).bind fun x => if x.1 = true then fb x.2 else some (false, x.2)
def mOr (fa fb : MT) : MT := fun ρ => (fa ρ).bind fun x => if x.1 = true then some (true, x.2) else fb x.2
def mNot (fa : MT) : MT := fun ρ => (fa ρ).bind fun x => some (!x.1, x.2)
def mYes : MT := fun ρ => some (true, ρ)
def mAndV (fa fb : ME) : ME := fun ρ => (fa ρ).bind fun x => (res x.2 x.1).bind fun d => (asB d).bind fun b => if b = true then fb x.2 else some (.val (.bl false), x.2)
def mOrV (fa fb : ME) : ME := fun ρ => (fa ρ).bind fun x => (res x.2 x.1).bind fun d => (asB d).bind fun b => if b = true then some (.val (.bl true), x.2) else fb x.2
def mNotV (fa : ME) : ME := fun ρ => (fa ρ).bind fun x => (res x.2 x.1).bind fun d => (asB d).bind fun b => some (.val (.bl (!b)), x.2)
def mIf (c : MT) (fa fb : ME) : ME := fun ρ => (c ρ).bind fun x => if x.1 = true then fa x.2 else fb x.2
def mChain (g g' : D -> D -> Option D) (fa fb fc : ME) : ME := fun ρ =>
 (fa ρ).bind fun x => (fb x.2).bind fun y => (res y.2 x.1).bind fun d => (res y.2 y.1).bind fun e => (g d e).bind fun u => (asB u).bind fun b =>
   if b = true then (fc y.2).bind fun z => (res z.2 y.1).bind fun e => (res z.2 z.1).bind fun h => (g' e h).bind fun u => some (.val u, z.2) else some (.val (.bl false), y.2)
def mChain3 (g g' g'' : D -> D -> Option D) (fa fb fc fd : ME) : MT := fun ρ =>
 (fa ρ).bind fun x => (fb x.2).bind fun y => (res y.2 x.1).bind fun d => (res y.2 y.1).bind fun e => (g d e).bind fun u => (asB u).bind fun b =>
   if b = true then (fc y.2).bind fun z => (res z.2 y.1).bind fun e => (res z.2 z.1).bind fun h => (g' e h).bind fun u => (asB u).bind fun b =>
     if b = true then (fd z.2).bind fun w => (res w.2 z.1).bind fun h => (res w.2 w.1).bind fun k => (g'' h k).bind fun u => (asB u).bind fun b => some (b, w.2) else some (false, z.2)
   else some (false, y.2)
def flatD : D -> Bool
 | .tup _ => false
 | .lst _ => false
 | _ => true
def vOf : D -> V
 | .non => .non
 | .bl b => .bl b
 | .int i => .int i
 | .str x => .str x
 | _ => .non
def OpA (K : PySem.W.Frag) (r : R2) (g : D -> D -> Option D) : Prop := ∀ (H : Hp) (ok : Addr -> Prop) (x y : V) (d e u : D) (Q : VK), RepT K H ok d x -> RepT K H ok e y -> g d e = some u ->
 (∀ v H', Same H H' -> RepP K H' (fun a => ok a ∨ H a = none) u v -> Q v H') -> r x y H Q
def UnA (K : PySem.W.Frag) (r : V -> Hp -> VK -> Prop) (g : D -> Option D) : Prop := ∀ (H : Hp) (ok : Addr -> Prop) (x : V) (d u : D) (Q : VK), RepT K H ok d x -> g d = some u ->
 (∀ v H', Same H H' -> RepP K H' (fun a => ok a ∨ H a = none) u v -> Q v H') -> r x H Q
def RepTL (K : PySem.W.Frag) (H : Hp) (ok : Addr -> Prop) : List D -> List V -> Prop
 | [], vs => vs = []
 | d :: ds, vs => ∃ v r, vs = v :: r /\ RepT K H ok d v /\ RepTL K H ok ds r
def CbA (K : PySem.W.Frag) (r : List V -> Hp -> VK -> Prop) (g : List D -> Option D) : Prop := ∀ (H : Hp) (ok : Addr -> Prop) (vs : List V) (ds : List D) (u : D) (Q : VK), RepTL K H ok ds vs -> g ds = some u ->
 (∀ v H', Same H H' -> RepP K H' (fun a => ok a ∨ H a = none) u v -> Q v H') -> r vs H Q
section
variable {C : Cn} {md : List Md}
theorem le_var (i : Nat) : LE C md (tVar i) (mVar i) := by
 intro A W ρ σ H Q o ρ' r e k
 unfold mVar at e
 cases el : look ρ i with
 | none => rw [el] at e; cases e
 | some s =>
   rw [el] at e; cases e
   obtain ⟨v, ev, _⟩ := r.slot i s el
   exact ⟨v, ev, k v H (Ext.refl _ _) r ev⟩
theorem le_c {v : V} (d : D) (h : ∀ H ok, RepP C.K H ok d v) : LE C md (tC v) (mC d) := by
 intro A W ρ σ H Q o ρ' r e k
 cases e
 exact k v H (Ext.refl _ _) r (h _ _)
theorem le_int {i : Int} : LE C md (tC (.int i)) (mC (.int i)) := le_c _ fun _ _ => by rw [RepP]
theorem le_str {i : Str} : LE C md (tC (.str i)) (mC (.str i)) := le_c _ fun _ _ => by rw [RepP]
theorem le_bl {i : Bool} : LE C md (tC (.bl i)) (mC (.bl i)) := le_c _ fun _ _ => by rw [RepP]
theorem le_non : LE C md (tC .non) (mC .non) := le_c _ fun _ _ => by rw [RepP]
theorem fin {A W : Addr -> Prop} {ρ : En} {σ : St} {H H1 H' : Hp} {d : D} {v : V} (e : Ext W H H1) (r : R C md A W ρ σ H1) (s : Same H1 H') (h : RepP C.K H' (fun a => ¬ A a ∨ H1 a = none) d v) :
   Ext W H H' /\ R C md A W ρ σ H' /\ OpAt C A σ H' (.val d) v := ⟨e.trans (Same.ext s), r.same s, r.freshP h⟩
theorem le_op {r : R2} {g : D -> D -> Option D} {ta tb : TE} {fa fb : ME} (h : OpA C.K r g) (ha : LE C md ta fa) (hb : LE C md tb fb) : LE C md (tOp r ta tb) (mOp g fa fb) := by
 intro A W ρ σ H Q o ρ' r0 e k
 unfold mOp at e
 simp only [Option.bind_eq_some_iff] at e
 obtain ⟨⟨o1, ρ1⟩, e1, ⟨o2, ρ2⟩, e2, d, e3, c, e4, u, e5, e6⟩ := e
 cases e6
 refine ha A W ρ σ H _ o1 ρ1 r0 e1 fun v1 H1 x1 r1 p1 => ?_
 refine hb A W ρ1 σ H1 _ o2 ρ2 r1 e2 fun v2 H2 x2 r2 p2 => ?_
 refine h H2 _ v1 v2 d c u Q ((p1.stay r1 x2).get r2 e3) (p2.get r2 e4) e5 fun v H' s q => ?_
 obtain ⟨z1, z2, z3⟩ := fin (x1.trans x2) r2 s q
 exact k v H' z1 z2 z3
theorem le_un {r : V -> Hp -> VK -> Prop} {g : D -> Option D} {ta : TE} {fa : ME} (h : UnA C.K r g) (ha : LE C md ta fa) : LE C md (tUn r ta) (mUn g fa) := by
 intro A W ρ σ H Q o ρ' r0 e k
 unfold mUn at e
 simp only [Option.bind_eq_some_iff] at e
 obtain ⟨⟨o1, ρ1⟩, e1, d, e3, u, e5, e6⟩ := e
 cases e6
 refine ha A W ρ σ H _ o1 ρ1 r0 e1 fun v1 H1 x1 r1 p1 => ?_
 refine h H1 _ v1 d u Q (p1.get r1 e3) e5 fun v H' s q => ?_
 obtain ⟨z1, z2, z3⟩ := fin x1 r1 s q
 exact k v H' z1 z2 z3
theorem la_nil : LA C md tNil mNil := by
 intro A W ρ σ H Q os ρ' r0 e k
 cases e
 exact k [] H (Ext.refl _ _) r0 rfl
theorem OpsAt.stay {A W : Addr -> Prop} {ρ : En} {σ : St} {H H' : Hp} (r : R C md A W ρ σ H) (x : Ext W H H') : ∀ {os : List Op} {vs : List V}, OpsAt C A σ H os vs -> OpsAt C A σ H' os vs
 | [], vs, h => h
 | o :: os, vs, h => by
   obtain ⟨v, t, rfl, h1, h2⟩ := h
   exact ⟨v, t, rfl, h1.stay r x, OpsAt.stay r x h2⟩
theorem la_cons {ta : TE} {tr : TA} {fa : ME} {fr : MA} (ha : LE C md ta fa) (hr : LA C md tr fr) : LA C md (tCons ta tr) (mCons fa fr) := by
 intro A W ρ σ H Q os ρ' r0 e k
 unfold mCons at e
 simp only [Option.bind_eq_some_iff] at e
 obtain ⟨⟨o1, ρ1⟩, e1, ⟨o2, ρ2⟩, e2, e6⟩ := e
 cases e6
 refine ha A W ρ σ H _ o1 ρ1 r0 e1 fun v1 H1 x1 r1 p1 => ?_
 refine hr A W ρ1 σ H1 _ o2 ρ2 r1 e2 fun v2 H2 x2 r2 p2 => ?_
 exact k _ _ (x1.trans x2) r2 ⟨v1, v2, rfl, p1.stay r1 x2, p2⟩
theorem OpsAt.get {A W : Addr -> Prop} {ρ : En} {σ : St} {H : Hp} (r : R C md A W ρ σ H) : ∀ {os : List Op} {vs : List V} {ds : List D}, OpsAt C A σ H os vs -> ress ρ os = some ds -> RepTL C.K H (fun a => ¬ A a) ds vs
 | [], vs, ds, h, e => by cases e; exact h
 | o :: os, vs, ds, h, e => by
   obtain ⟨v, t, rfl, h1, h2⟩ := h
   unfold ress at e
   simp only [Option.bind_eq_some_iff] at e
   obtain ⟨d, e1, ds', e2, e3⟩ := e
   cases e3
   exact ⟨v, t, rfl, h1.get r e1, OpsAt.get r h2 e2⟩
theorem OpsAt.stos {A W : Addr -> Prop} {ρ : En} {σ : St} {H : Hp} (r : R C md A W ρ σ H) : ∀ {os : List Op} {vs : List V} {ds : List D}, OpsAt C A σ H os vs -> stos md ρ os = some ds -> RepPL C.K H (fun a => ¬ A a) ds vs
 | [], vs, ds, h, e => by cases e; rw [show vs = [] from h]; exact .nil
 | o :: os, vs, ds, h, e => by
   obtain ⟨v, t, rfl, h1, h2⟩ := h
   unfold Mir.stos at e
   simp only [Option.bind_eq_some_iff] at e
   obtain ⟨d, e1, ds', e2, e3⟩ := e
   cases e3
   exact .cons (h1.sto r e1) (OpsAt.stos r h2 e2)
theorem le_cb {r : List V -> Hp -> VK -> Prop} {g : List D -> Option D} {ta : TA} {fa : MA} (h : CbA C.K r g) (ha : LA C md ta fa) : LE C md (tCB r ta) (mCB g fa) := by
 intro A W ρ σ H Q o ρ' r0 e k
 unfold mCB at e
 simp only [Option.bind_eq_some_iff] at e
 obtain ⟨⟨o1, ρ1⟩, e1, ds, e3, u, e5, e6⟩ := e
 cases e6
 refine ha A W ρ σ H _ o1 ρ1 r0 e1 fun v1 H1 x1 r1 p1 => ?_
 refine h H1 _ v1 ds u Q (p1.get r1 e3) e5 fun v H' s q => ?_
 obtain ⟨z1, z2, z3⟩ := fin x1 r1 s q
 exact k v H' z1 z2 z3
theorem new_same {H : Hp} {p : Addr} {o : HO} (hp : H p = none) : Same H (upd H p o) := fun b u e => by rw [upd_ne (ne_of_none e hp)]; exact e
theorem le_tup {t : TA} {fa : MA} (ha : LA C md t fa) : LE C md (tTup t) (mTup md fa) := by
 intro A W ρ σ H Q o ρ' r0 e k
 unfold mTup at e
 simp only [Option.bind_eq_some_iff] at e
 obtain ⟨⟨o1, ρ1⟩, e1, ds, e3, e5⟩ := e
 split at e5
 · cases e5
   rename_i hz
   refine ha A W ρ σ H _ o1 ρ1 r0 e1 fun v1 H1 x1 r1 p1 => ?_
   have q := p1.stos r1 e3
   refine ⟨by rw [q.length]; exact hz, fun p hp => ?_⟩
   have s := new_same (o := .tup v1) hp
   refine k _ _ (x1.trans (Same.ext s)) (r1.same s) ?_
   show RepP _ _ _ (.tup ds) _
   rw [RepP]
   exact ⟨p, v1, rfl, .inl (.inl upd_same), q.same s⟩
 · cases e5
theorem le_lst {t : TA} {fa : MA} (ha : LA C md t fa) : LE C md (tLst t) (mLst md fa) := by
 intro A W ρ σ H Q o ρ' r0 e k
 unfold mLst at e
 simp only [Option.bind_eq_some_iff] at e
 obtain ⟨⟨o1, ρ1⟩, e1, ds, e3, e5⟩ := e
 split at e5
 · cases e5
   rename_i hz
   refine ha A W ρ σ H _ o1 ρ1 r0 e1 fun v1 H1 x1 r1 p1 => ?_
   have q := p1.stos r1 e3
   refine ⟨by rw [q.length]; exact hz, fun p hp => ?_⟩
   have s := new_same (o := .lst v1) hp
   refine k _ _ (x1.trans (Same.ext s)) (r1.same s) ?_
   show RepP _ _ _ (.lst ds) _
   rw [RepP]
   exact ⟨p, v1, rfl, upd_same, r1.fresh hp, q.same s⟩
 · cases e5
theorem asB_some {d : D} {b : Bool} (h : asB d = some b) : d = .bl b := by cases d <;> first | (cases h; done) | (cases h; rfl)
theorem bl_of {A W : Addr -> Prop} {ρ : En} {σ : St} {H : Hp} {o : Op} {d : D} {b : Bool} {v : V} (r : R C md A W ρ σ H) (h : OpAt C A σ H o v) (e : res ρ o = some d) (eb : asB d = some b) : v = .bl b := by
 have z := (h.get r e).rep
 rw [asB_some eb, Rep] at z
 exact z
theorem lt_b {ta : TE} {fa : ME} (ha : LE C md ta fa) : LT C md (tB ta) (mB fa) := by
 intro A W ρ σ H Q b ρ' r0 e k
 unfold mB at e
 simp only [Option.bind_eq_some_iff] at e
 obtain ⟨⟨o1, ρ1⟩, e1, d, e3, b', e5, e6⟩ := e
 cases e6
 exact ha A W ρ σ H _ o1 ρ1 r0 e1 fun v1 H1 x1 r1 p1 => ⟨b, bl_of r1 p1 e3 e5, k H1 x1 r1⟩
theorem lt_yes : LT C md tYes mYes := by
 intro A W ρ σ H Q b ρ' r0 e k
 cases e
 exact k H (Ext.refl _ _) r0
theorem lt_and {ta tb : TT} {fa fb : MT} (ha : LT C md ta fa) (hb : LT C md tb fb) : LT C md (tAnd ta tb) (mAnd fa fb) := by
 intro A W ρ σ H Q b ρ' r0 e k
 unfold mAnd at e
 simp only [Option.bind_eq_some_iff] at e
 obtain ⟨⟨b1, ρ1⟩, e1, e2⟩ := e
 refine ha A W ρ σ H _ b1 ρ1 r0 e1 fun H1 x1 r1 => ?_
 cases b1 with
 | true => exact iteT (hb A W ρ1 σ H1 _ b ρ' r1 (by simpa using e2) fun H2 x2 r2 => k H2 (x1.trans x2) r2)
 | false => simp at e2; obtain ⟨rfl, rfl⟩ := e2; exact iteF (k H1 x1 r1)
theorem lt_or {ta tb : TT} {fa fb : MT} (ha : LT C md ta fa) (hb : LT C md tb fb) : LT C md (tOr ta tb) (mOr fa fb) := by
 intro A W ρ σ H Q b ρ' r0 e k
 unfold mOr at e
 simp only [Option.bind_eq_some_iff] at e
 obtain ⟨⟨b1, ρ1⟩, e1, e2⟩ := e
 refine ha A W ρ σ H _ b1 ρ1 r0 e1 fun H1 x1 r1 => ?_
 cases b1 with
 | true => simp at e2; obtain ⟨rfl, rfl⟩ := e2; exact iteT (k H1 x1 r1)
 | false => exact iteF (hb A W ρ1 σ H1 _ b ρ' r1 (by simpa using e2) fun H2 x2 r2 => k H2 (x1.trans x2) r2)
theorem lt_not {ta : TT} {fa : MT} (ha : LT C md ta fa) : LT C md (tNot ta) (mNot fa) := by
 intro A W ρ σ H Q b ρ' r0 e k
 unfold mNot at e
 simp only [Option.bind_eq_some_iff] at e
 obtain ⟨⟨b1, ρ1⟩, e1, e2⟩ := e
 cases e2
 exact ha A W ρ σ H _ b1 ρ1 r0 e1 fun H1 x1 r1 => k H1 x1 r1
theorem le_andV {ta tb : TE} {fa fb : ME} (ha : LE C md ta fa) (hb : LE C md tb fb) : LE C md (tAndV ta tb) (mAndV fa fb) := by
 intro A W ρ σ H Q o ρ' r0 e k
 unfold mAndV at e
 simp only [Option.bind_eq_some_iff] at e
 obtain ⟨⟨o1, ρ1⟩, e1, d, e3, b, e5, e6⟩ := e
 refine ha A W ρ σ H _ o1 ρ1 r0 e1 fun v1 H1 x1 r1 p1 => ⟨b, bl_of r1 p1 e3 e5, ?_⟩
 cases b with
 | true => exact iteT (hb A W ρ1 σ H1 _ o ρ' r1 (by simpa using e6) fun v H2 x2 r2 => k v H2 (x1.trans x2) r2)
 | false => simp at e6; obtain ⟨rfl, rfl⟩ := e6; exact iteF (k _ H1 x1 r1 (by show RepP _ _ _ _ _; rw [RepP]))
theorem le_orV {ta tb : TE} {fa fb : ME} (ha : LE C md ta fa) (hb : LE C md tb fb) : LE C md (tOrV ta tb) (mOrV fa fb) := by
 intro A W ρ σ H Q o ρ' r0 e k
 unfold mOrV at e
 simp only [Option.bind_eq_some_iff] at e
 obtain ⟨⟨o1, ρ1⟩, e1, d, e3, b, e5, e6⟩ := e
 refine ha A W ρ σ H _ o1 ρ1 r0 e1 fun v1 H1 x1 r1 p1 => ⟨b, bl_of r1 p1 e3 e5, ?_⟩
 cases b with
 | false => exact iteF (hb A W ρ1 σ H1 _ o ρ' r1 (by simpa using e6) fun v H2 x2 r2 => k v H2 (x1.trans x2) r2)
 | true => simp at e6; obtain ⟨rfl, rfl⟩ := e6; exact iteT (k _ H1 x1 r1 (by show RepP _ _ _ _ _; rw [RepP]))
theorem le_notV {ta : TE} {fa : ME} (ha : LE C md ta fa) : LE C md (tNotV ta) (mNotV fa) := by
 intro A W ρ σ H Q o ρ' r0 e k
 unfold mNotV at e
 simp only [Option.bind_eq_some_iff] at e
 obtain ⟨⟨o1, ρ1⟩, e1, d, e3, b, e5, e6⟩ := e
 cases e6
 exact ha A W ρ σ H _ o1 ρ1 r0 e1 fun v1 H1 x1 r1 p1 => ⟨b, bl_of r1 p1 e3 e5, k _ H1 x1 r1 (by show RepP _ _ _ _ _; rw [RepP])⟩
theorem le_if {tc : TT} {ta tb : TE} {fc : MT} {fa fb : ME} (hc : LT C md tc fc) (ha : LE C md ta fa) (hb : LE C md tb fb) : LE C md (tIf tc ta tb) (mIf fc fa fb) := by
 intro A W ρ σ H Q o ρ' r0 e k
 unfold mIf at e
 simp only [Option.bind_eq_some_iff] at e
 obtain ⟨⟨b1, ρ1⟩, e1, e2⟩ := e
 refine hc A W ρ σ H _ b1 ρ1 r0 e1 fun H1 x1 r1 => ?_
 cases b1 with
 | true => exact iteT (ha A W ρ1 σ H1 _ o ρ' r1 (by simpa using e2) fun v H2 x2 r2 => k v H2 (x1.trans x2) r2)
 | false => exact iteF (hb A W ρ1 σ H1 _ o ρ' r1 (by simpa using e2) fun v H2 x2 r2 => k v H2 (x1.trans x2) r2)
theorem bl_rep {K : PySem.W.Frag} {H : Hp} {ok : Addr -> Prop} {u : D} {b : Bool} {v : V} (h : RepP K H ok u v) (e : asB u = some b) : v = .bl b := by
 rw [asB_some e, RepP] at h; exact h
theorem le_chain {r r' : R2} {g g' : D -> D -> Option D} {ta tb tc : TE} {fa fb fc : ME} (h : OpA C.K r g) (h' : OpA C.K r' g') (ha : LE C md ta fa) (hb : LE C md tb fb) (hc : LE C md tc fc) : LE C md (tChain r r' ta tb tc) (mChain g g' fa fb fc) := by
 intro A W ρ σ H Q o ρ' r0 e k
 unfold mChain at e
 simp only [Option.bind_eq_some_iff] at e
 obtain ⟨⟨o1, ρ1⟩, e1, ⟨o2, ρ2⟩, e2, d, e3, c, e4, u, e5, b, e6, e7⟩ := e
 refine ha A W ρ σ H _ o1 ρ1 r0 e1 fun v1 H1 x1 r1 p1 => ?_
 refine hb A W ρ1 σ H1 _ o2 ρ2 r1 e2 fun v2 H2 x2 r2 p2 => ?_
 refine h H2 _ v1 v2 d c u _ ((p1.stay r1 x2).get r2 e3) (p2.get r2 e4) e5 fun v H3 s q => ?_
 refine ⟨b, bl_rep q e6, ?_⟩
 have x3 : Ext W H H3 := (x1.trans x2).trans (Same.ext s)
 have r3 := r2.same s
 cases b with
 | false => simp at e7; obtain ⟨rfl, rfl⟩ := e7; exact iteF (k _ H3 x3 r3 (by show RepP _ _ _ _ _; rw [RepP]))
 | true =>
   simp only [if_true, Option.bind_eq_some_iff] at e7
   obtain ⟨⟨o3, ρ3⟩, f1, d', f2, e', f3, u', f4, f5⟩ := e7
   cases f5
   refine iteT ?_
   refine hc A W ρ2 σ H3 _ o3 _ r3 f1 fun v3 H4 x4 r4 p4 => ?_
   refine h' H4 _ v2 v3 d' e' u' _ (((p2.stay r2 (Same.ext s)).stay r3 x4).get r4 f2) (p4.get r4 f3) f4 fun v H5 s5 q5 => ?_
   obtain ⟨z1, z2, z3⟩ := fin (x3.trans x4) r4 s5 q5
   exact k v H5 z1 z2 z3
theorem lt_chain3 {r r' r'' : R2} {g g' g'' : D -> D -> Option D} {ta tb tc td : TE} {fa fb fc fd : ME} (h : OpA C.K r g) (h' : OpA C.K r' g') (h'' : OpA C.K r'' g'') (ha : LE C md ta fa) (hb : LE C md tb fb) (hc : LE C md tc fc) (hd : LE C md td fd) :
   LT C md (tChain3 r r' r'' ta tb tc td) (mChain3 g g' g'' fa fb fc fd) := by
 intro A W ρ σ H Q o ρ' r0 e k
 unfold mChain3 at e
 simp only [Option.bind_eq_some_iff] at e
 obtain ⟨⟨o1, ρ1⟩, e1, ⟨o2, ρ2⟩, e2, d, e3, c, e4, u, e5, b, e6, e7⟩ := e
 refine ha A W ρ σ H _ o1 ρ1 r0 e1 fun v1 H1 x1 r1 p1 => ?_
 refine hb A W ρ1 σ H1 _ o2 ρ2 r1 e2 fun v2 H2 x2 r2 p2 => ?_
 refine h H2 _ v1 v2 d c u _ ((p1.stay r1 x2).get r2 e3) (p2.get r2 e4) e5 fun v H3 s q => ?_
 refine ⟨b, bl_rep q e6, ?_⟩
 have x3 : Ext W H H3 := (x1.trans x2).trans (Same.ext s)
 have r3 := r2.same s
 cases b with
 | false => simp at e7; obtain ⟨rfl, rfl⟩ := e7; exact iteF (k H3 x3 r3)
 | true =>
   simp only [if_true, Option.bind_eq_some_iff] at e7
   obtain ⟨⟨o3, ρ3⟩, f1, d', f2, e', f3, u', f4, b', f5, f6⟩ := e7
   refine iteT ?_
   refine hc A W ρ2 σ H3 _ o3 ρ3 r3 f1 fun v3 H4 x4 r4 p4 => ?_
   refine h' H4 _ v2 v3 d' e' u' _ (((p2.stay r2 (Same.ext s)).stay r3 x4).get r4 f2) (p4.get r4 f3) f4 fun v H5 s5 q5 => ?_
   refine ⟨b', bl_rep q5 f5, ?_⟩
   have x5 : Ext W H H5 := (x3.trans x4).trans (Same.ext s5)
   have r5 := r4.same s5
   cases b' with
   | false => simp at f6; obtain ⟨rfl, rfl⟩ := f6; exact iteF (k H5 x5 r5)
   | true =>
     simp only [if_true, Option.bind_eq_some_iff] at f6
     obtain ⟨⟨o4, ρ4⟩, g1, d2, g2, e2', g3, u2, g4, b2, g5, g6⟩ := f6
     cases g6
     refine iteT ?_
     refine hd A W ρ3 σ H5 _ o4 _ r5 g1 fun v4 H6 x6 r6 p6 => ?_
     refine h'' H6 _ v3 v4 d2 e2' u2 _ (((p4.stay r4 (Same.ext s5)).stay r5 x6).get r6 g2) (p6.get r6 g3) g4 fun v H7 s7 q7 => ?_
     exact ⟨_, bl_rep q7 g5, k H7 ((x5.trans x6).trans (Same.ext s7)) (r6.same s7)⟩
end
end Mir
namespace L2
open PySem PySem.Spec PyProof.Rows
section
variable {X : Cx} {K : PySem.W.Frag} {pins : List (Addr × Obj)} {σ : St} {H : Hp} {s : Shared} {l : Addr} {xs : List V}
theorem Inv.lstR (I : Inv X pins σ H s) (hH : Rd H l (.lst xs)) : xs.length <= sizeLine /\ ∃ (its : List Value) (n : Nat), Vals xs its /\ xs.length = its.length /\ s.heap.get? l = some { cls := .type "list", data := .seq its.toArray n } := by
 obtain ⟨z, its, n, r, e⟩ := hH.ok I.hok
 exact ⟨z, its, n, r, r.length, e⟩
def rCatR : R2 := fun x y H Q => ∃ l b xs zs, x = .ref l /\ y = .ref b /\ Rd H l (.lst xs) /\ Rd H b (.lst zs) /\ xs.length + zs.length <= sizeLine /\ ∀ p, H p = none -> Q (.ref p) (upd H p (.lst (xs ++ zs)))
theorem op_catR : OpR X (binaryOp .Add) rCatR := by
 intro pins s σ H x y v u Q I rx ry h
 obtain ⟨l, b, xs, zs, rfl, rfl, hH, hB, hz, q⟩ := h
 cases rx
 cases ry
 obtain ⟨z, its, n, r, hl, e⟩ := I.lstR hH
 obtain ⟨z2, its2, n2, r2, hl2, e2⟩ := I.lstR hB
 refine PySem.P.add_list e e2 ?_ (by rw [List.size_toArray, List.size_toArray]; omega)
 have ea : its.toArray ++ its2.toArray = (its ++ its2).toArray := by simp
 rw [ea]
 exact ⟨.ref _, _, I.lnew (t' := s.toks) (r.append r2) (by rw [List.length_append]; omega), rfl, q _ I.fresh⟩
def rAddX (K : PySem.W.Frag) : R2 := fun x y H Q => match x, y with
 | .int i, .int j => Q (.int (i + j)) H
 | .int i, .bl k => Q (.int (i + b2i k)) H
 | .str i, .str j => i.length + j.length <= sizeLine /\ Q (.str (i ++ j)) H
 | .ref a, .ref b => rCatT K (.ref a) (.ref b) H Q ∨ rCatR (.ref a) (.ref b) H Q
 | _, _ => False
theorem op_addX (kt : KT K) (hK : X.K = K := by rfl) : OpR X (binaryOp .Add) (rAddX K) := by
 subst hK
 intro pins s σ H x y v u Q I rx ry h
 match x, y, h with
 | .int i, .int j, h => exact op_addA pins s σ H _ _ v u Q I rx ry h
 | .int i, .bl k, h => exact op_addA pins s σ H _ _ v u Q I rx ry h
 | .str i, .str j, h => exact op_addA pins s σ H _ _ v u Q I rx ry h
 | .ref a, .ref b, .inl h => exact op_addA pins s σ H _ _ v u Q I rx ry (.inl h)
 | .ref a, .ref b, .inr h => exact op_catR pins s σ H _ _ v u Q I rx ry h
def rRepR : R2 := fun x y H Q => ∃ l k xs, x = .ref l /\ y = .int k /\ H l = some (.lst xs) /\ -(2 ^ 63) <= k /\ k < 2 ^ 63 /\ xs.length * k.toNat <= sizeLine /\
 ∀ p, H p = none -> Q (.ref p) (upd H p (.lst (List.replicate k.toNat xs).flatten))
end
end L2
namespace Mir
open PySem PySem.Spec PyProof.Rows L2
def addD : D -> D -> Option D
 | .int i, .int j => some (.int (i + j))
 | .int i, .bl k => some (.int (i + b2i k))
 | .str i, .str j => if i.length + j.length <= sizeLine then some (.str (i ++ j)) else none
 | .tup (a :: l), .tup m => if l.length + 1 + m.length <= sizeLine then some (.tup (a :: l ++ m)) else none
 | .lst l, .lst m => if l.length + m.length <= sizeLine then some (.lst (l ++ m)) else none
 | _, _ => none
def subD : D -> D -> Option D
 | .int i, .int j => some (.int (i - j))
 | _, _ => none
instance {i j : Int} : Decidable (CMul i j) := by unfold CMul; infer_instance
instance {j : Int} : Decidable (CDivB j) := by unfold CDivB; infer_instance
instance {i j : Int} : Decidable (CPow i j) := by unfold CPow; infer_instance
def mulD : D -> D -> Option D
 | .int i, .int j => if CMul i j then some (.int (i * j)) else none
 | _, _ => none
def modD : D -> D -> Option D
 | .int i, .int j => if 0 < j then some (.int (i % j)) else none
 | _, _ => none
def divD : D -> D -> Option D
 | .int i, .int j => if CDivB j then some (.int (i / j)) else none
 | _, _ => none
def powD : D -> D -> Option D
 | .int i, .int j => if CPow i j then some (.int (i ^ j.toNat)) else none
 | _, _ => none
def cmpD (p : Int -> Int -> Bool) (q : Str -> Str -> Bool) : D -> D -> Option D
 | .int i, .int j => some (.bl (p i j))
 | .str i, .str j => some (.bl (q i j))
 | _, _ => none
def eqD (n : Nat) (neg : Bool) (d e : D) : Option D := if D.depth d <= n then some (.bl (if neg then !D.eq d e else D.eq d e)) else none
def isN : D -> Bool
 | .non => true
 | _ => false
def isND : D -> D -> Option D
 | d, .non => some (.bl (isN d))
 | _, _ => none
def notND : D -> D -> Option D
 | d, .non => some (.bl (!isN d))
 | _, _ => none
def ixD : D -> D -> Option D
 | .str z, .int i => if z.length <= sizeLine then (atI z.cps.toList i).map fun c => .str ⟨#[c]⟩ else none
 | .tup l, .int i => atI l i
 | .lst l, .int i => atI l i
 | _, _ => none
def itemsD : D -> Option (List D)
 | .tup l => some l
 | .lst l => some l
 | _ => none
def inD (n : Nat) (neg : Bool) (d e : D) : Option D := (itemsD e).bind fun l => if D.depthL l <= n then some (.bl (if neg then !(l.any fun e => D.eq e d) else l.any fun e => D.eq e d)) else none
def negD : D -> Option D
 | .int i => some (.int (-i))
 | _ => none
section
variable {K : PySem.W.Frag} {H : Hp} {ok : Addr -> Prop} {x : V}
theorem RepT.int_inv {i : Int} (h : RepT K H ok (.int i) x) : x = .int i := by have z : RepP K H ok (.int i) x := h; rw [RepP] at z; exact z
theorem RepT.str_inv {i : Str} (h : RepT K H ok (.str i) x) : x = .str i := by have z : RepP K H ok (.str i) x := h; rw [RepP] at z; exact z
theorem RepT.bl_inv {i : Bool} (h : RepT K H ok (.bl i) x) : x = .bl i := by have z : RepP K H ok (.bl i) x := h; rw [RepP] at z; exact z
theorem RepT.non_inv (h : RepT K H ok .non x) : x = .non := by have z : RepP K H ok .non x := h; rw [RepP] at z; exact z
theorem RepT.tup_inv {l : List D} (h : RepT K H ok (.tup l) x) : ∃ a xs, x = .ref a /\ SqT K H a xs /\ RepPL K H ok l xs := by have z : RepP K H ok (.tup l) x := h; rw [RepP] at z; exact z
theorem RepT.lst_inv {l : List D} (h : RepT K H ok (.lst l) x) : ∃ a xs, x = .ref a /\ H a = some (.lst xs) /\ RepPL K H ok l xs := h
theorem repP_int {i : Int} : RepP K H ok (.int i) (.int i) := by rw [RepP]
theorem repP_bl {i : Bool} : RepP K H ok (.bl i) (.bl i) := by rw [RepP]
theorem repP_str {i : Str} : RepP K H ok (.str i) (.str i) := by rw [RepP]
theorem repP_non : RepP K H ok .non .non := by rw [RepP]
end
section
variable {K : PySem.W.Frag}
theorem op_add : OpA K (rAddX K) addD := by
 intro H ok x y d e u Q h1 h2 g k
 match d, e, g with
 | .int i, .int j, g =>
   cases g; obtain rfl := h1.int_inv; obtain rfl := h2.int_inv
   exact k _ H (Same.refl _) repP_int
 | .int i, .bl j, g =>
   cases g; obtain rfl := h1.int_inv; obtain rfl := h2.bl_inv
   exact k _ H (Same.refl _) repP_int
 | .str i, .str j, g =>
   obtain rfl := h1.str_inv; obtain rfl := h2.str_inv
   replace g : (if i.length + j.length <= sizeLine then some (D.str (i ++ j)) else none) = some u := g
   split at g
   · cases g; rename_i hz; exact ⟨hz, k _ H (Same.refl _) repP_str⟩
   · cases g
 | .tup (a :: l), .tup m, g =>
   obtain ⟨p, xs, rfl, hp, rp⟩ := h1.tup_inv
   obtain ⟨q, ys, rfl, hq, rq⟩ := h2.tup_inv
   replace g : (if l.length + 1 + m.length <= sizeLine then some (D.tup (a :: l ++ m)) else none) = some u := g
   split at g
   · cases g
     rename_i hz
     have L1 := rp.length; have L2 := rq.length
     rw [List.length_cons] at L1
     refine .inl ⟨p, q, xs, ys, rfl, rfl, hp, hq, fun z => by rw [z] at L1; simp at L1, by omega, fun z => ?_, fun _ t ht => ?_⟩
     · subst z
       have : m = [] := by cases m with | nil => rfl | cons _ _ => simp at L2
       subst this
       refine k _ H (Same.refl _) ?_
       rw [List.append_nil, RepP]
       exact ⟨p, xs, rfl, hp, rp.mono fun _ _ o _ => .inl o⟩
     · have s := new_same (o := .tup (xs ++ ys)) ht
       refine k _ _ s ?_
       rw [RepP]
       exact ⟨t, _, rfl, .inl (.inl upd_same), ((rp.append rq).same s).mono fun _ _ o _ => .inl o⟩
   · cases g
 | .lst l, .lst m, g =>
   obtain ⟨p, xs, rfl, hp, rp⟩ := h1.lst_inv
   obtain ⟨q, ys, rfl, hq, rq⟩ := h2.lst_inv
   replace g : (if l.length + m.length <= sizeLine then some (D.lst (l ++ m)) else none) = some u := g
   split at g
   · cases g
     rename_i hz
     have L1 := rp.length; have L2 := rq.length
     refine .inr ⟨p, q, xs, ys, rfl, rfl, .inl hp, .inl hq, by omega, fun t ht => ?_⟩
     have s := new_same (o := .lst (xs ++ ys)) ht
     refine k _ _ s ?_
     rw [RepP]
     exact ⟨t, _, rfl, upd_same, .inr ht, ((rp.append rq).same s).mono fun _ _ o _ => .inl o⟩
   · cases g
theorem op_sub : OpA K rSubA subD := by
 intro H ok x y d e u Q h1 h2 g k
 match d, e, g with
 | .int i, .int j, g =>
   cases g; obtain rfl := h1.int_inv; obtain rfl := h2.int_inv
   exact k _ H (Same.refl _) repP_int
theorem op_mul : OpA K rMulA mulD := by
 intro H ok x y d e u Q h1 h2 g k
 match d, e, g with
 | .int i, .int j, g =>
   obtain rfl := h1.int_inv; obtain rfl := h2.int_inv
   replace g : (if CMul i j then some (D.int (i * j)) else none) = some u := g
   split at g
   · cases g; rename_i hz; exact ⟨hz, k _ H (Same.refl _) repP_int⟩
   · cases g
theorem op_mod : OpA K rModA modD := by
 intro H ok x y d e u Q h1 h2 g k
 match d, e, g with
 | .int i, .int j, g =>
   obtain rfl := h1.int_inv; obtain rfl := h2.int_inv
   replace g : (if 0 < j then some (D.int (i % j)) else none) = some u := g
   split at g
   · cases g; rename_i hz; exact ⟨hz, k _ H (Same.refl _) repP_int⟩
   · cases g
theorem op_div : OpA K rDivA divD := by
 intro H ok x y d e u Q h1 h2 g k
 match d, e, g with
 | .int i, .int j, g =>
   obtain rfl := h1.int_inv; obtain rfl := h2.int_inv
   replace g : (if CDivB j then some (D.int (i / j)) else none) = some u := g
   split at g
   · cases g; rename_i hz; exact ⟨hz, k _ H (Same.refl _) repP_int⟩
   · cases g
theorem op_pow : OpA K rPowA powD := by
 intro H ok x y d e u Q h1 h2 g k
 match d, e, g with
 | .int i, .int j, g =>
   obtain rfl := h1.int_inv; obtain rfl := h2.int_inv
   replace g : (if CPow i j then some (D.int (i ^ j.toNat)) else none) = some u := g
   split at g
   · cases g; rename_i hz; exact ⟨hz, k _ H (Same.refl _) repP_int⟩
   · cases g
theorem op_cmp {p : Int -> Int -> Bool} {q : Str -> Str -> Bool} : OpA K (rCmpA p q) (cmpD p q) := by
 intro H ok x y d e u Q h1 h2 g k
 match d, e, g with
 | .int i, .int j, g =>
   cases g; obtain rfl := h1.int_inv; obtain rfl := h2.int_inv
   exact k _ H (Same.refl _) repP_bl
 | .str i, .str j, g =>
   cases g; obtain rfl := h1.str_inv; obtain rfl := h2.str_inv
   exact k _ H (Same.refl _) repP_bl
theorem flat_toD {H : Hp} {x : V} {d : D} (h : Rep K H d x) (f : flatV x = true) : d = toD x := by
 cases d <;> rw [Rep] at h <;> first | (subst h; rfl) | (obtain ⟨a, xs, rfl, _⟩ := h; cases f)
theorem op_eq {n : Nat} {neg : Bool} : OpA K (rEqA K n neg) (Mir.eqD n neg) := by
 intro H ok x y d e u Q h1 h2 g k
 unfold Mir.eqD at g
 split at g
 · cases g
   rename_i hd
   unfold rEqA
   cases ef : flatV x && flatV y with
   | true =>
     rw [Bool.and_eq_true] at ef
     obtain rfl := flat_toD h1.rep ef.1
     obtain rfl := flat_toD h2.rep ef.2
     have z := k _ H (Same.refl _) repP_bl
     rw [eq_toD ef.1 ef.2] at z
     exact z
   | false => exact ⟨d, e, h1.rep, h2.rep, hd, k _ H (Same.refl _) repP_bl⟩
 · cases g
theorem isN_dec {H : Hp} {ok : Addr -> Prop} {d : D} {x : V} (h : RepT K H ok d x) : decide (x = .non) = isN d := by
 have z := h.rep
 cases d <;> rw [Rep] at z <;> first | (subst z; rfl) | (obtain ⟨a, xs, rfl, _⟩ := z; rfl)
theorem op_isN : OpA K rIsN isND := by
 intro H ok x y d e u Q h1 h2 g k
 match e, g with
 | .non, g =>
   cases g
   obtain rfl := h2.non_inv
   exact ⟨rfl, by rw [isN_dec h1]; exact k _ H (Same.refl _) repP_bl⟩
theorem op_notN : OpA K rNotN notND := by
 intro H ok x y d e u Q h1 h2 g k
 match e, g with
 | .non, g =>
   cases g
   obtain rfl := h2.non_inv
   exact ⟨rfl, by rw [isN_dec h1]; exact k _ H (Same.refl _) repP_bl⟩
theorem atI_repP {H : Hp} {ok : Addr -> Prop} {l : List D} {xs : List V} {i : Int} {d : D} (r : RepPL K H ok l xs) (hd : atI l i = some d) : ∃ x, atI xs i = some x /\ RepP K H ok d x := by
 unfold atI at hd ⊢
 rw [r.length]
 cases e : ixN l.length i with
 | none => rw [e] at hd; cases hd
 | some j =>
   rw [e] at hd
   exact r.get (i := j) hd
theorem op_ix : OpA K (rIxA K) ixD := by
 intro H ok x y d e u Q h1 h2 g k
 match d, e, g with
 | .str z, .int i, g =>
   obtain rfl := h1.str_inv; obtain rfl := h2.int_inv
   replace g : (if z.length <= sizeLine then (atI z.cps.toList i).map fun c => D.str ⟨#[c]⟩ else none) = some u := g
   split at g
   · rename_i hz
     cases ea : atI z.cps.toList i with
     | none => rw [ea] at g; cases g
     | some c => rw [ea] at g; cases g; exact ⟨hz, c, ea, k _ H (Same.refl _) repP_str⟩
   · cases g
 | .tup l, .int i, g =>
   obtain rfl := h2.int_inv
   obtain ⟨p, xs, rfl, hp, rp⟩ := h1.tup_inv
   obtain ⟨v, ev, rv⟩ := atI_repP rp g
   exact ⟨xs, v, .inr hp, ev, k _ H (Same.refl _) (rv.mono fun _ _ o _ => .inl o)⟩
 | .lst l, .int i, g =>
   obtain rfl := h2.int_inv
   obtain ⟨p, xs, rfl, hp, rp⟩ := h1.lst_inv
   obtain ⟨v, ev, rv⟩ := atI_repP rp g
   exact ⟨xs, v, .inl (.inl (.inl hp)), ev, k _ H (Same.refl _) (rv.mono fun _ _ o _ => .inl o)⟩
theorem items_inv {H : Hp} {ok : Addr -> Prop} {d : D} {x : V} {l : List D} (h : RepT K H ok d x) (e : itemsD d = some l) : ∃ p xs, x = .ref p /\ (SqL K H p xs ∨ SqT K H p xs) /\ RepPL K H ok l xs := by
 match d, e with
 | .tup l, e =>
   cases e
   obtain ⟨p, xs, rfl, hp, rp⟩ := h.tup_inv
   exact ⟨p, xs, rfl, .inr hp, rp⟩
 | .lst l, e =>
   cases e
   obtain ⟨p, xs, rfl, hp, rp⟩ := h.lst_inv
   exact ⟨p, xs, rfl, .inl (.inl (.inl hp)), rp⟩
theorem op_in {n : Nat} {neg : Bool} : OpA K (rInD K n neg) (inD n neg) := by
 intro H ok x y d e u Q h1 h2 g k
 unfold inD at g
 simp only [Option.bind_eq_some_iff] at g
 obtain ⟨l, e1, g⟩ := g
 split at g
 · cases g
   rename_i hd
   obtain ⟨p, xs, rfl, hp, rp⟩ := items_inv h2 e1
   exact ⟨d, p, xs, l, rfl, hp, h1.rep, rp.repL, hd, k _ H (Same.refl _) repP_bl⟩
 · cases g
theorem un_neg : UnA K (rU fun i => .int (-i)) negD := by
 intro H ok x d u Q h1 g k
 match d, g with
 | .int i, g => cases g; exact ⟨i, h1.int_inv, k _ H (Same.refl _) repP_int⟩
theorem RepTL.one_inv {H : Hp} {ok : Addr -> Prop} {d : D} {vs : List V} (h : RepTL K H ok [d] vs) : ∃ v, vs = [v] /\ RepT K H ok d v := by
 obtain ⟨v, r, rfl, h1, h2⟩ := h
 cases (show r = [] from h2)
 exact ⟨v, rfl, h1⟩
def lenD : List D -> Option D
 | [.str z] => if z.length <= sizeLine then some (.int z.length) else none
 | [.tup l] => some (.int l.length)
 | [.lst l] => some (.int l.length)
 | _ => none
theorem cb_len : CbA K (rLen K) lenD := by
 intro H ok vs ds u Q h g k
 match ds, g with
 | [.str z], g =>
   obtain ⟨v, rfl, h1⟩ := h.one_inv
   obtain rfl := h1.str_inv
   replace g : (if z.length <= sizeLine then some (D.int z.length) else none) = some u := g
   split at g
   · cases g; rename_i hz; exact g_lenS hz (k _ H (Same.refl _) repP_int)
   · cases g
 | [.tup l], g =>
   cases g
   obtain ⟨v, rfl, h1⟩ := h.one_inv
   obtain ⟨p, xs, rfl, hp, rp⟩ := h1.tup_inv
   refine g_lenTK hp ?_
   rw [rp.length]
   exact k _ H (Same.refl _) repP_int
 | [.lst l], g =>
   cases g
   obtain ⟨v, rfl, h1⟩ := h.one_inv
   obtain ⟨p, xs, rfl, hp, rp⟩ := h1.lst_inv
   refine ⟨_, _, rfl, .inl ⟨xs, .inl (.inl hp), rfl⟩, ?_⟩
   rw [rp.length]
   exact k _ H (Same.refl _) repP_int
def absD : List D -> Option D
 | [.int i] => some (.int (if i < 0 then -i else i))
 | _ => none
theorem cb_abs : CbA K rAbs absD := by
 intro H ok vs ds u Q h g k
 match ds, g with
 | [.int i], g =>
   cases g
   obtain ⟨v, rfl, h1⟩ := h.one_inv
   obtain rfl := h1.int_inv
   exact ⟨i, rfl, k _ H (Same.refl _) repP_int⟩
def intsD : List D -> Option (List Int)
 | [] => some []
 | .int i :: r => (intsD r).map (i :: ·)
 | _ => none
theorem intsD_map : ∀ {l : List D} {ns : List Int}, intsD l = some ns -> l = ns.map D.int
 | [], ns, h => by cases h; rfl
 | .int i :: r, ns, h => by
   replace h : (intsD r).map (i :: ·) = some ns := h
   cases e : intsD r with
   | none => rw [e] at h; cases h
   | some m => rw [e] at h; cases h; simp [intsD_map e]
theorem intsD_of (ns : List Int) : intsD (ns.map D.int) = some ns := by
 induction ns with
 | nil => rfl
 | cons a r ih => rw [List.map_cons, intsD, ih]; rfl
theorem repPL_ints {H : Hp} {ok : Addr -> Prop} : ∀ {ns : List Int} {xs : List V}, RepPL K H ok (ns.map D.int) xs -> xs = ns.map V.int
 | [], xs, h => h.nil_inv
 | i :: r, xs, h => by
   obtain ⟨x, t, rfl, h1, h2⟩ := h.cons_inv
   rw [RepP] at h1
   rw [h1, repPL_ints h2]; rfl
def sumD : List D -> Option D
 | [.lst l] => (intsD l).map fun ns => .int ns.sum
 | _ => none
theorem cb_sum : CbA K (rSum K) sumD := by
 intro H ok vs ds u Q h g k
 match ds, g with
 | [.lst l], g =>
   obtain ⟨v, rfl, h1⟩ := h.one_inv
   obtain ⟨p, xs, rfl, hp, rp⟩ := h1.lst_inv
   replace g : ((intsD l).map fun ns => D.int ns.sum) = some u := g
   cases e : intsD l with
   | none => rw [e] at g; cases g
   | some ns =>
     rw [e] at g; cases g
     rw [intsD_map e] at rp
     refine ⟨p, ns, rfl, .inl (.inl ?_), k _ H (Same.refl _) repP_int⟩
     rw [<- repPL_ints rp]
     exact hp
def intD : List D -> Option D
 | [.int i] => some (.int i)
 | [.bl k] => some (.int (if k then 1 else 0))
 | _ => none
theorem cb_int : CbA K rInt1 intD := by
 intro H ok vs ds u Q h g k
 match ds, g with
 | [.int i], g =>
   cases g
   obtain ⟨v, rfl, h1⟩ := h.one_inv
   obtain rfl := h1.int_inv
   exact .inl ⟨i, rfl, k _ H (Same.refl _) repP_int⟩
 | [.bl i], g =>
   cases g
   obtain ⟨v, rfl, h1⟩ := h.one_inv
   obtain rfl := h1.bl_inv
   exact .inr ⟨i, rfl, k _ H (Same.refl _) repP_int⟩
def listD : List D -> Option D
 | [.lst l] => some (.lst l)
 | [.tup l] => some (.lst l)
 | _ => none
theorem cb_list : CbA K (rListOf K) listD := by
 intro H ok vs ds u Q h g k
 match ds, g with
 | [.lst l], g =>
   cases g
   obtain ⟨v, rfl, h1⟩ := h.one_inv
   obtain ⟨p, xs, rfl, hp, rp⟩ := h1.lst_inv
   refine ⟨p, xs, rfl, .inl (.inl (.inl hp)), fun t ht => ?_⟩
   have s := new_same (o := .lst xs) ht
   refine k _ _ s ?_
   rw [RepP]
   exact ⟨t, _, rfl, upd_same, .inr ht, (rp.same s).mono fun _ _ o _ => .inl o⟩
 | [.tup l], g =>
   cases g
   obtain ⟨v, rfl, h1⟩ := h.one_inv
   obtain ⟨p, xs, rfl, hp, rp⟩ := h1.tup_inv
   refine ⟨p, xs, rfl, .inr hp, fun t ht => ?_⟩
   have s := new_same (o := .lst xs) ht
   refine k _ _ s ?_
   rw [RepP]
   exact ⟨t, _, rfl, upd_same, .inr ht, (rp.same s).mono fun _ _ o _ => .inl o⟩
def tupD : List D -> Option D
 | [.lst l] => some (.tup l)
 | [.tup l] => some (.tup l)
 | _ => none
theorem cb_tup : CbA K (rTupOf K) tupD := by
 intro H ok vs ds u Q h g k
 match ds, g with
 | [.lst l], g =>
   cases g
   obtain ⟨v, rfl, h1⟩ := h.one_inv
   obtain ⟨p, xs, rfl, hp, rp⟩ := h1.lst_inv
   refine ⟨p, xs, rfl, .inl ⟨.inl (.inl hp), fun t ht => ?_⟩⟩
   have s := new_same (o := .tup xs) ht
   refine k _ _ s ?_
   rw [RepP]
   exact ⟨t, _, rfl, .inl (.inl upd_same), (rp.same s).mono fun _ _ o _ => .inl o⟩
 | [.tup l], g =>
   cases g
   obtain ⟨v, rfl, h1⟩ := h.one_inv
   obtain ⟨p, xs, rfl, hp, rp⟩ := h1.tup_inv
   refine ⟨p, xs, rfl, .inr ⟨hp, ?_⟩⟩
   refine k _ H (Same.refl _) ?_
   rw [RepP]
   exact ⟨p, _, rfl, hp, rp.mono fun _ _ o _ => .inl o⟩
def kindD : D -> String
 | .non => "NoneType"
 | .bl _ => "bool"
 | .int _ => "int"
 | .str _ => "str"
 | .tup _ => "tuple"
 | .lst _ => "list"
theorem kind_of {H : Hp} {ok : Addr -> Prop} {d : D} {x : V} (h : RepT K H ok d x) : TyK K H x (kindD d) := by
 have z := h.rep
 cases d <;> rw [Rep] at z
 case tup l => obtain ⟨a, xs, rfl, h1, _⟩ := z; exact .inl ⟨rfl, xs, h1⟩
 case lst l => obtain ⟨a, xs, rfl, h1, _⟩ := z; exact .inr ⟨rfl, xs, h1⟩
 all_goals (subst z; rfl)
def bools : List D -> Option (List Bool)
 | [] => some []
 | .bl i :: r => (bools r).map (i :: ·)
 | _ => none
theorem bools_map : ∀ {l : List D} {ns : List Bool}, bools l = some ns -> l = ns.map D.bl
 | [], ns, h => by cases h; rfl
 | .bl i :: r, ns, h => by
   replace h : (bools r).map (i :: ·) = some ns := h
   cases e : bools r with
   | none => rw [e] at h; cases h
   | some m => rw [e] at h; cases h; simp [bools_map e]
theorem bools_of (ns : List Bool) : bools (ns.map D.bl) = some ns := by
 induction ns with
 | nil => rfl
 | cons a r ih => rw [List.map_cons, bools, ih]; rfl
theorem repPL_bools {H : Hp} {ok : Addr -> Prop} : ∀ {ns : List Bool} {xs : List V}, RepPL K H ok (ns.map D.bl) xs -> xs = ns.map V.bl
 | [], xs, h => h.nil_inv
 | i :: r, xs, h => by
   obtain ⟨x, t, rfl, h1, h2⟩ := h.cons_inv
   rw [RepP] at h1
   rw [h1, repPL_bools h2]; rfl
def allD : List D -> Option D
 | [.lst l] => (bools l).map fun ns => .bl (ns.all id)
 | _ => none
theorem cb_all : CbA K (rAll K) allD := by
 intro H ok vs ds u Q h g k
 match ds, g with
 | [.lst l], g =>
   obtain ⟨v, rfl, h1⟩ := h.one_inv
   obtain ⟨p, xs, rfl, hp, rp⟩ := h1.lst_inv
   replace g : ((bools l).map fun ns => D.bl (ns.all id)) = some u := g
   cases e : bools l with
   | none => rw [e] at g; cases g
   | some ns =>
     rw [e] at g; cases g
     rw [bools_map e] at rp
     refine ⟨p, ns, rfl, .inl (.inl ?_), k _ H (Same.refl _) repP_bl⟩
     rw [<- repPL_bools rp]
     exact hp
end
section
variable {C : Cn} {md : List Md}
def mIsi (c : String) (fa : ME) : ME := fun ρ => (fa ρ).bind fun x => (res x.2 x.1).bind fun d => some (.val (.bl (isiT (kindD d) c)), x.2)
theorem le_isi {ta : TE} {fa : ME} {c : String} (hc : c ∈ ["bool", "int", "str", "list", "tuple"]) (ha : LE C md ta fa) : LE C md (tCB (rIsiK C.K) (tCons ta (tCons (tC (V.ty c)) tNil))) (mIsi c fa) := by
 intro A W ρ σ H Q o ρ' r0 e k
 unfold mIsi at e
 simp only [Option.bind_eq_some_iff] at e
 obtain ⟨⟨o1, ρ1⟩, e1, d, e3, e6⟩ := e
 cases e6
 refine ha A W ρ σ H _ o1 ρ1 r0 e1 fun v1 H1 x1 r1 p1 => ?_
 exact ⟨v1, c, kindD d, rfl, kind_of (p1.get r1 e3), hc, k _ H1 x1 r1 (show RepP _ _ _ _ _ from repP_bl)⟩
end
end Mir
namespace Mir
open PySem PySem.Spec PyProof.Rows L2
def Fix (fx : Nat -> Prop) (σ σ' : L2.St) : Prop := ∀ j, fx j -> σ'[j]? = σ[j]?
theorem Fix.refl (fx : Nat -> Prop) (σ : L2.St) : Fix fx σ σ := fun _ _ => rfl
theorem Fix.trans {fx : Nat -> Prop} {a b c : L2.St} (h : Fix fx a b) (h' : Fix fx b c) : Fix fx a c := fun j f => (h' j f).trans (h j f)
def held (md : List Md) (j : Nat) : Prop := mode md j = .lk ∨ mode md j = .io
structure Gr (A W : Addr -> Prop) (H : Hp) (A' W' : Addr -> Prop) (H' : Hp) : Prop where
 aa : ∀ a, A a -> A' a
 an : ∀ a, A' a -> A a ∨ H a = none
 wn : ∀ a, W' a -> W a ∨ H a = none
 ext : Ext W H H'
section
variable {C : Cn} {md : List Md} {A W A' W' A'' W'' : Addr -> Prop} {ρ ρ' : En} {σ σ' : L2.St} {H H' H'' : Hp}
theorem Gr.refl (A W : Addr -> Prop) (H : Hp) : Gr A W H A W H := ⟨fun _ h => h, fun _ h => .inl h, fun _ h => .inl h, Ext.refl _ _⟩
theorem Gr.ofExt (e : Ext W H H') : Gr A W H A W H' := ⟨fun _ h => h, fun _ h => .inl h, fun _ h => .inl h, e⟩
theorem Gr.back (g : Gr A W H A' W' H') (wa : ∀ a, W a -> A a) {a : Addr} (h : H' a = none) : A a ∨ H a = none := by
 cases e : H a with
 | none => exact .inr rfl
 | some o =>
   by_cases w : W a
   · exact .inl (wa a w)
   · rw [g.ext a o w e] at h; cases h
theorem Gr.trans (g : Gr A W H A' W' H') (wk : ∀ a, W a -> A a) (mw : ∀ a, W a -> MutO (H' a)) (g' : Gr A' W' H' A'' W'' H'') : Gr A W H A'' W'' H'' where
 aa := fun a h => g'.aa a (g.aa a h)
 an := fun a h => by
   rcases g'.an a h with h | h
   · exact g.an a h
   · exact g.back wk h
 wn := fun a h => by
   rcases g'.wn a h with h | h
   · exact g.wn a h
   · cases e : H a with
     | none => exact .inr rfl
     | some o =>
       by_cases w : W a
       · exact .inl w
       · rw [g.ext a o w e] at h; cases h
 ext := fun b o n h => by
   refine g'.ext b o (fun w => ?_) (g.ext b o n h)
   rcases g.wn b w with z | z
   · exact n z
   · rw [z] at h; cases h
theorem Gr.stayP (r : R C md A W ρ σ H) (g : Gr A W H A' W' H') {d : D} {v : V} (h : RepP C.K H (fun b => ¬ A b) d v) : RepP C.K H' (fun b => ¬ A' b) d v :=
 h.stay (g.ext.stayT r.wk) fun a xs o z => ⟨g.ext a _ (fun w => o (r.wa a w)) z, fun w => by
   rcases g.an a w with y | y
   · exact o y
   · rw [y] at z; cases z⟩
theorem Gr.stayPL (r : R C md A W ρ σ H) (g : Gr A W H A' W' H') {d : List D} {v : List V} (h : RepPL C.K H (fun b => ¬ A b) d v) : RepPL C.K H' (fun b => ¬ A' b) d v :=
 h.stay (g.ext.stayT r.wk) fun a xs o z => ⟨g.ext a _ (fun w => o (r.wa a w)) z, fun w => by
   rcases g.an a w with y | y
   · exact o y
   · rw [y] at z; cases z⟩
theorem set_get {i j : Nat} {x : Option V} (h : i ≠ j) : (σ.set i x)[j]? = σ[j]? := by rw [List.getElem?_set_ne h]
theorem set_get_eq {i : Nat} {x : Option V} (h : i < σ.length) : (σ.set i x)[i]? = some x := by rw [List.getElem?_set_self h]
theorem R.setP (r : R C md A W ρ σ H) {i : Nat} (hm : mode md i = .pl) {d : D} {v : V} (h : RepP C.K H (fun b => ¬ A b) d v) : R C md A W (ρ.set i (some (.d d))) (σ.set i (some v)) H where
 len := by rw [List.length_set, List.length_set]; exact r.len
 wa := r.wa
 ak := r.ak
 base := r.base
 wf := r.wf
 ma := r.ma
 fo := r.fo
 slot := fun j s e => by
   by_cases hij : i = j
   · subst hij
     have hl := look_lt e
     rw [List.length_set] at hl
     rw [look_set_eq hl] at e
     cases e
     refine ⟨v, set_get_eq (by rw [r.len]; exact hl), ?_⟩
     rw [hm]
     exact h
   · rw [look_set_ne hij] at e
     obtain ⟨w, e1, h1⟩ := r.slot j s e
     exact ⟨w, by rw [set_get hij]; exact e1, h1⟩
 inj := fun j k s s' a hjk m1 m2 e1 e2 i1 i2 l1 l2 => by
   have n1 : i ≠ j := fun z => m1 (by rw [<- z]; exact hm)
   have n2 : i ≠ k := fun z => m2 (by rw [<- z]; exact hm)
   rw [look_set_ne n1] at e1
   rw [look_set_ne n2] at e2
   rw [set_get n1] at l1
   rw [set_get n2] at l2
   exact r.inj j k s s' a hjk m1 m2 e1 e2 i1 i2 l1 l2
theorem Cell.flat {K : PySem.W.Frag} {ok okq : Addr -> Prop} {d : D} {v : V} (f : isM (.d d) = false) (h : RepP K H (fun a => ¬ A a) d v) : Cell K A H ok okq (.d d) v := by
 match d, f with
 | .non, _ => exact h
 | .bl _, _ => exact h
 | .int _, _ => exact h
 | .str _, _ => exact h
 | .tup _, _ => exact h
theorem R.setF (r : R C md A W ρ σ H) {i : Nat} (hm : mode md i = .ow) {d : D} {v : V} (f : isM (.d d) = false) (h : RepP C.K H (fun b => ¬ A b) d v) : R C md A W (ρ.set i (some (.d d))) (σ.set i (some v)) H where
 len := by rw [List.length_set, List.length_set]; exact r.len
 wa := r.wa
 ak := r.ak
 base := r.base
 wf := r.wf
 ma := r.ma
 fo := r.fo
 slot := fun j s e => by
   by_cases hij : i = j
   · subst hij
     have hl := look_lt e
     rw [List.length_set] at hl
     rw [look_set_eq hl] at e
     cases e
     refine ⟨v, set_get_eq (by rw [r.len]; exact hl), ?_⟩
     rw [hm]
     exact Cell.flat f h
   · rw [look_set_ne hij] at e
     obtain ⟨w, e1, h1⟩ := r.slot j s e
     exact ⟨w, by rw [set_get hij]; exact e1, h1⟩
 inj := fun j k s s' a hjk m1 m2 e1 e2 i1 i2 l1 l2 => by
   have n1 : i ≠ j := fun z => by
     subst z
     have hl := look_lt e1
     rw [List.length_set] at hl
     rw [look_set_eq hl] at e1
     cases e1
     rw [f] at i1; cases i1
   have n2 : i ≠ k := fun z => by
     subst z
     have hl := look_lt e2
     rw [List.length_set] at hl
     rw [look_set_eq hl] at e2
     cases e2
     rw [f] at i2; cases i2
   rw [look_set_ne n1] at e1
   rw [look_set_ne n2] at e2
   rw [set_get n1] at l1
   rw [set_get n2] at l2
   exact r.inj j k s s' a hjk m1 m2 e1 e2 i1 i2 l1 l2
theorem Cell.at {K : PySem.W.Frag} {ok okq : Addr -> Prop} {s : S} {a : Addr} (i : isM s = true) (h : Cell K A H ok okq s (.ref a)) : (∃ xs, H a = some (.lst xs)) /\ A a /\ ok a := by
 match s, h with
 | .d (.lst l), h =>
   obtain ⟨b, xs, e, h1, h2, h3, h4⟩ := h
   cases e
   exact ⟨⟨xs, h1⟩, h2, h3⟩
 | .pot ns i r m, h =>
   obtain ⟨p, q, e, h1, h2, h3, h4, _⟩ := h
   cases e
   exact ⟨⟨_, h1⟩, h3, h4⟩
 | .d .non, h => cases i
 | .d (.bl _), h => cases i
 | .d (.int _), h => cases i
 | .d (.str _), h => cases i
 | .d (.tup _), h => cases i
 | .dc _, h => exact h.elim
 | .scr _, h => exact h.elim
theorem SlotAt.at {s : S} {a : Addr} {m : Md} (hm : m ≠ .pl) (i : isM s = true) (h : SlotAt C A W H s (.ref a) m) : (∃ xs, H a = some (.lst xs)) /\ A a := by
 cases m with
 | pl => exact absurd rfl hm
 | ow => exact ⟨(Cell.at i h).1, (Cell.at i h).2.1⟩
 | lk => exact ⟨(Cell.at i h).1, (Cell.at i h).2.1⟩
 | io => exact ⟨(Cell.at i h).1, (Cell.at i h).2.1⟩
theorem Cell.grow {K : PySem.W.Frag} {ok ok' okq : Addr -> Prop} {s : S} {v : V} (s1 : Same H H') (ha : ∀ a, A a -> A' a) (hn : ∀ a, A' a -> A a ∨ H a = none) (hok : ∀ a, H a ≠ none -> ok a -> ok' a)
   (h : Cell K A H ok okq s v) : Cell K A' H' ok' okq s v := by
 have P : ∀ {d : D} {v : V}, RepP K H (fun b => ¬ A b) d v -> RepP K H' (fun b => ¬ A' b) d v := fun h => (h.stay (My.stayT_same s1) fun a xs o z => ⟨s1 _ _ z, fun w => by
   rcases hn a w with y | y
   · exact o y
   · rw [y] at z; cases z⟩)
 have PL : ∀ {d : List D} {v : List V}, RepPL K H (fun b => ¬ A b) d v -> RepPL K H' (fun b => ¬ A' b) d v := fun h => (h.stay (My.stayT_same s1) fun a xs o z => ⟨s1 _ _ z, fun w => by
   rcases hn a w with y | y
   · exact o y
   · rw [y] at z; cases z⟩)
 match s, h with
 | .d (.lst l), h =>
   obtain ⟨a, xs, e, h1, h2, h3, h4⟩ := h
   exact ⟨a, xs, e, s1 _ _ h1, ha _ h2, hok a (by rw [h1]; simp) h3, PL h4⟩
 | .pot ns i r m, h =>
   obtain ⟨p, q, e, h1, h2, h3, h4, h5, h6⟩ := h
   refine ⟨p, q, e, s1 _ _ h1, s1 _ _ h2, ha _ h3, hok p (by rw [h1]; simp) h4, fun z => ?_, h6⟩
   rcases hn q z with y | y
   · exact h5 y
   · rw [h2] at y; cases y
 | .d .non, h => exact P h
 | .d (.bl _), h => exact P h
 | .d (.int _), h => exact P h
 | .d (.str _), h => exact P h
 | .d (.tup _), h => exact P h
 | .dc _, h => exact h.elim
 | .scr _, h => exact h.elim
def NewAt (K : PySem.W.Frag) (A : Addr -> Prop) (H1 : Hp) (a : Addr) (H' : Hp) : S -> Prop
 | .d (.lst l) => ∃ xs, H' a = some (.lst xs) /\ RepPL K H' (fun b => ¬ A b /\ b ≠ a) l xs
 | .pot ns i r m => ∃ q, H1 q = none /\ q ≠ a /\ H' a = some (.lst [.ref q, .int i, .int r, .int m]) /\ H' q = some (.lst (ns.map V.int))
 | _ => False
theorem R.h0 (r : R C md A W ρ σ H) {a : Addr} (h : H a = none) : C.H0 a = none := by
 cases e : C.H0 a with
 | none => rfl
 | some o =>
   by_cases m : C.M a
   · exact absurd (r.ma a m) (r.fresh h)
   · rw [r.base a o e m] at h; cases h
theorem R.setN (r : R C md A W ρ σ H) {i : Nat} (hm : mode md i = .ow) {s : S} {a : Addr} (ha : H a = none) (s1 : Same H H') (n : NewAt C.K A H a H' s) :
   ∃ A' W', Gr A W H A' W' H' /\ R C md A' W' (ρ.set i (some s)) (σ.set i (some (.ref a))) H' := by
 obtain ⟨B, hB, hBa, hBn, hBk, hcell⟩ : ∃ B : Addr -> Prop, (∀ b, B b -> H b = none) /\ B a /\ (∀ b, B b -> MutO (H' b)) /\ True /\ ∀ ok : Addr -> Prop, ok a -> Cell C.K (fun b => A b ∨ B b) H' ok (fun _ => True) s (.ref a) := by
   match s, n with
   | .d (.lst l), ⟨xs, h1, h2⟩ =>
     refine ⟨fun b => b = a, fun b e => by rw [e]; exact ha, rfl, fun b e => ⟨xs, by rw [e]; exact h1⟩, trivial, fun ok hok => ⟨a, xs, rfl, h1, .inr rfl, hok, h2.mono fun b _ o _ z => ?_⟩⟩
     rcases z with z | z
     · exact o.1 z
     · exact o.2 z
   | .pot ns i r' m, ⟨q, hq, hqa, h1, h2⟩ =>
     refine ⟨fun b => b = a, fun b e => by rw [e]; exact ha, rfl, fun b e => ⟨_, (show H' b = _ from (congrArg H' e).trans h1)⟩, trivial, fun ok hok => ⟨a, q, rfl, h1, h2, .inr rfl, hok, fun z => ?_, trivial⟩⟩
     rcases z with z | z
     · exact r.fresh hq z
     · exact hqa z
 refine ⟨fun b => A b ∨ B b, fun b => W b ∨ b = a, ⟨fun b h => .inl h, fun b h => h.imp id (hB b), fun b h => h.imp id fun e => by rw [e]; exact ha, Same.ext s1⟩, ?_⟩
 have other : ∀ j t, i ≠ j -> look ρ j = some t -> ∃ v, σ[j]? = some (some v) /\ SlotAt C (fun b => A b ∨ B b) (fun b => W b ∨ b = a) H' t v (mode md j) := fun j t hij e => by
   obtain ⟨w, e1, h1⟩ := r.slot j t e
   refine ⟨w, e1, ?_⟩
   have hn : ∀ b, (A b ∨ B b) -> A b ∨ H b = none := fun b h => h.imp id (hB b)
   have hw : ∀ b, (W b ∨ b = a) -> W b ∨ H b = none := fun b h => h.imp id fun e => by rw [e]; exact ha
   cases em : mode md j with
   | pl =>
     rw [em] at h1
     match t, h1 with
     | .scr ns, h1 => obtain ⟨a, z, h1⟩ := h1; exact ⟨a, z, h1.same s1⟩
     | .d x, h1 =>
       refine RepP.stay (My.stayT_same s1) (fun b xs o z => ⟨s1 _ _ z, fun w => ?_⟩) h1
       rcases hn b w with y | y
       · exact o y
       · rw [y] at z; cases z
   | ow => rw [em] at h1; exact Cell.grow s1 (fun b h => .inl h) hn (fun b _ h => ⟨.inl h.1, h.2⟩) h1
   | lk =>
     rw [em] at h1
     refine Cell.grow s1 (fun b h => .inl h) hn (fun b nn h z => ?_) h1
     rcases hw b z with y | y
     · exact h y
     · exact nn y
   | io => rw [em] at h1; exact Cell.grow s1 (fun b h => .inl h) hn (fun b _ h => ⟨.inl h.1, h.2⟩) h1
 exact {
   len := by rw [List.length_set, List.length_set]; exact r.len
   wa := fun b h => h.imp (r.wa b) fun e => by rw [e]; exact hBa
   ak := fun b h => by
     rcases h with h | h
     · obtain ⟨xs, e⟩ := r.ak b h; exact ⟨xs, s1 _ _ e⟩
     · exact hBn b h
   base := fun b o h1 h2 => s1 _ _ (r.base b o h1 h2)
   wf := fun b h => by
     rcases h with h | h
     · exact r.wf b h
     · rw [h]; exact .inl (r.h0 ha)
   ma := fun b h => .inl (r.ma b h)
   fo := fun hf b xs h n => .inl (r.fo hf b xs h n)
   slot := fun j t e => by
     by_cases hij : i = j
     · subst hij
       have hl := look_lt e
       rw [List.length_set] at hl
       rw [look_set_eq hl] at e
       cases e
       refine ⟨.ref a, set_get_eq (by rw [r.len]; exact hl), ?_⟩
       rw [hm]
       exact hcell _ ⟨.inr rfl, r.h0 ha⟩
     · rw [look_set_ne hij] at e
       obtain ⟨w, e1, h1⟩ := other j t hij e
       exact ⟨w, by rw [set_get hij]; exact e1, h1⟩
   inj := fun j k t t' b hjk m1 m2 e1 e2 i1 i2 l1 l2 => by
     have no : ∀ j t, i ≠ j -> mode md j ≠ .pl -> look ρ j = some t -> isM t = true -> σ[j]? = some (some (.ref a)) -> False := fun j t hij mj ej ij lj => by
       obtain ⟨w, e1, h1⟩ := r.slot j t ej
       rw [lj] at e1; cases e1
       obtain ⟨⟨xs, z⟩, _⟩ := SlotAt.at mj ij h1
       rw [ha] at z; cases z
     have hilt : i < σ.length ∨ ¬ i < σ.length := Nat.lt_or_ge i σ.length |>.imp id fun h => by omega
     by_cases n1 : i = j
     · subst n1
       have hl := look_lt e1
       rw [List.length_set] at hl
       rw [set_get_eq (by rw [r.len]; exact hl)] at l1
       cases l1
       rw [look_set_ne hjk] at e2
       rw [set_get hjk] at l2
       exact no k t' hjk m2 e2 i2 l2
     · by_cases n2 : i = k
       · subst n2
         have hl := look_lt e2
         rw [List.length_set] at hl
         rw [set_get_eq (by rw [r.len]; exact hl)] at l2
         cases l2
         rw [look_set_ne n1] at e1
         rw [set_get n1] at l1
         exact no j t n1 m1 e1 i1 l1
       · rw [look_set_ne n1] at e1
         rw [look_set_ne n2] at e2
         rw [set_get n1] at l1
         rw [set_get n2] at l2
         exact r.inj j k t t' b hjk m1 m2 e1 e2 i1 i2 l1 l2 }
theorem R.write (r : R C md A W ρ σ H) {i : Nat} (hm : mode md i = .ow ∨ mode md i = .io) {s s' : S} {a : Addr} (e : look ρ i = some s) (is : isM s = true) (is' : isM s' = true) (ev : σ[i]? = some (some (.ref a))) (b : But a H H') (ha : MutO (H' a))
   (n : ∀ ok okq : Addr -> Prop, ok a -> A a -> W a -> (∀ d v, RepP C.K H (fun b => ¬ A b) d v -> RepP C.K H' (fun b => ¬ A b) d v) -> Cell C.K A H ok okq s (.ref a) -> Cell C.K A H' ok okq s' (.ref a)) :
   Ext W H H' /\ R C md A W (ρ.set i (some s')) σ H' := by
 obtain ⟨w, e1, h1⟩ := r.slot i s e
 rw [ev] at e1; cases e1
 have wa : W a /\ A a := by
   rcases hm with hm | hm <;> (rw [hm] at h1; exact ⟨(Cell.at is h1).2.2.1, (Cell.at is h1).2.1⟩)
 have ex : Ext W H H' := fun c o nc h => b c o (fun z => nc (by rw [z]; exact wa.1)) h
 have stP : ∀ d v, RepP C.K H (fun b => ¬ A b) d v -> RepP C.K H' (fun b => ¬ A b) d v := fun d v h => r.stayP ex h
 have stPL : ∀ d v, RepPL C.K H (fun b => ¬ A b) d v -> RepPL C.K H' (fun b => ¬ A b) d v := fun d v h => r.stayPL ex h
 have hil := look_lt e
 refine ⟨ex, { len := by rw [List.length_set]; exact r.len, wa := r.wa, ak := fun c h => ?_, base := fun c o h1 h2 => ?_, wf := r.wf, ma := r.ma, fo := r.fo, slot := fun j t ej => ?_, inj := fun j k t t' c hjk m1 m2 e1 e2 i1 i2 l1 l2 => ?_ }⟩
 · by_cases hc : c = a
   · rw [hc]; exact ha
   · obtain ⟨xs, z⟩ := r.ak c h
     exact ⟨xs, b c _ hc z⟩
 · refine b c o (fun z => ?_) (r.base c o h1 h2)
   rcases r.wf a wa.1 with y | y
   · rw [z, y] at h1; cases h1
   · exact h2 (by rw [z]; exact y)
 · by_cases hij : i = j
   · subst hij
     rw [look_set_eq hil] at ej
     cases ej
     refine ⟨.ref a, ev, ?_⟩
     rcases hm with hm | hm
     · rw [hm] at h1 ⊢
       exact n _ _ (Cell.at is h1).2.2 wa.2 wa.1 stP h1
     · rw [hm] at h1 ⊢
       exact n _ _ (Cell.at is h1).2.2 wa.2 wa.1 stP h1
   · rw [look_set_ne hij] at ej
     obtain ⟨w, e1, h2⟩ := r.slot j t ej
     refine ⟨w, e1, ?_⟩
     have keep : ∀ c xs, c ≠ a -> H c = some (HO.lst xs) -> H' c = some (HO.lst xs) := fun c xs hc h => b c _ hc h
     have cell : ∀ ok okq : Addr -> Prop, mode md j ≠ .pl -> Cell C.K A H ok okq t w -> Cell C.K A H' ok okq t w := fun ok okq mj h => by
       match t, h with
       | .d (.lst l), h =>
         obtain ⟨c, xs, rfl, g1, g2, g3, g4⟩ := h
         refine ⟨c, xs, rfl, keep c xs (fun z => ?_) g1, g2, g3, stPL _ _ g4⟩
         subst z
         exact r.inj i j s _ c hij (by rcases hm with hm | hm <;> (rw [hm]; simp)) mj e ej is rfl ev e1
       | .pot ns i' r' m, h =>
         obtain ⟨p, q, rfl, g1, g2, g3, g4, g5, g6⟩ := h
         refine ⟨p, q, rfl, keep p _ (fun z => ?_) g1, keep q _ (fun z => g5 (by rw [z]; exact wa.2)) g2, g3, g4, g5, g6⟩
         subst z
         exact r.inj i j s _ p hij (by rcases hm with hm | hm <;> (rw [hm]; simp)) mj e ej is rfl ev e1
       | .d .non, h => exact stP _ _ h
       | .d (.bl _), h => exact stP _ _ h
       | .d (.int _), h => exact stP _ _ h
       | .d (.str _), h => exact stP _ _ h
       | .d (.tup _), h => exact stP _ _ h
       | .dc _, h => exact h.elim
       | .scr _, h => exact h.elim
     cases em : mode md j with
     | pl =>
       rw [em] at h2
       match t, h2 with
       | .d x, h2 => exact stP _ _ h2
       | .scr ns, h2 => obtain ⟨a, z, h2⟩ := h2; exact ⟨a, z, h2.ext ex r.wk⟩
     | ow => rw [em] at h2; exact cell _ _ (by rw [em]; simp) h2
     | lk => rw [em] at h2; exact cell _ _ (by rw [em]; simp) h2
     | io => rw [em] at h2; exact cell _ _ (by rw [em]; simp) h2
 · have fixl : ∀ j t, look (ρ.set i (some s')) j = some t -> isM t = true -> ∃ t0, look ρ j = some t0 /\ isM t0 = true := fun j t ej ij => by
     by_cases hij : i = j
     · subst hij; exact ⟨s, e, is⟩
     · rw [look_set_ne hij] at ej; exact ⟨t, ej, ij⟩
   obtain ⟨t0, f1, f2⟩ := fixl j t e1 i1
   obtain ⟨t1, f3, f4⟩ := fixl k t' e2 i2
   exact r.inj j k t0 t1 c hjk m1 m2 f1 f3 f2 f4 l1 l2
end
end Mir
namespace Mir
open PySem PySem.Spec PyProof.Rows L2
abbrev MG := D -> En -> Option En
abbrev MGs := List D -> En -> Option En
abbrev MN := En -> Option (S × En)
inductive Fl where
 | nx | brk | ct | ret (s : S)
abbrev MS := En -> Option (Fl × En)
def LG (C : Cn) (md : List Md) (fx : Nat -> Prop) (g : TG) (f : MG) : Prop := ∀ (A W : Addr -> Prop) (ρ : En) (σ : L2.St) (H : Hp) (v : V) (d : D) (ρ' : En) (Q : L2.St -> Hp -> Prop), R C md A W ρ σ H -> RepP C.K H (fun a => ¬ A a) d v -> f d ρ = some ρ' ->
 (∀ σ' H', Ext W H H' -> R C md A W ρ' σ' H' -> Fix fx σ σ' -> Q σ' H') -> g v σ H Q
def LGs (C : Cn) (md : List Md) (fx : Nat -> Prop) (g : TGs) (f : MGs) : Prop := ∀ (A W : Addr -> Prop) (ρ : En) (σ : L2.St) (H : Hp) (vs : List V) (ds : List D) (ρ' : En) (Q : L2.St -> Hp -> Prop), R C md A W ρ σ H -> RepPL C.K H (fun a => ¬ A a) ds vs -> f ds ρ = some ρ' ->
 (∀ σ' H', Ext W H H' -> R C md A W ρ' σ' H' -> Fix fx σ σ' -> Q σ' H') -> g vs σ H Q
def LN (C : Cn) (md : List Md) (t : TE) (f : MN) : Prop := ∀ (A W : Addr -> Prop) (ρ : En) (σ : L2.St) (H : Hp) (Q : VK) (s : S) (ρ' : En), R C md A W ρ σ H -> f ρ = some (s, ρ') ->
 (∀ a H1 H', Ext W H H1 -> R C md A W ρ' σ H1 -> H1 a = none -> Same H1 H' -> NewAt C.K A H1 a H' s -> Q (.ref a) H') -> t σ H Q
def NewR (K : PySem.W.Frag) (H0 H : Hp) : S -> V -> Prop
 | .d (.lst l), v => ∃ a xs, v = .ref a /\ H0 a = none /\ H a = some (.lst xs) /\ RepPL K H (fun b => H0 b = none /\ b ≠ a) l xs
 | .d x, v => RepP K H (fun a => H0 a = none) x v
 | _, _ => False
theorem NewR.repP {K : PySem.W.Frag} {H0 H : Hp} {d : D} {v : V} (h : NewR K H0 H (.d d) v) : RepP K H (fun a => H0 a = none) d v := by
 match d, h with
 | .lst l, h =>
   obtain ⟨a, xs, rfl, h1, h2, h3⟩ := h
   rw [RepP]
   exact ⟨a, xs, rfl, h2, h1, h3.mono fun _ _ o _ => o.1⟩
 | .non, h => exact h
 | .bl _, h => exact h
 | .int _, h => exact h
 | .str _, h => exact h
 | .tup _, h => exact h
theorem NewR.ofImm {K : PySem.W.Frag} {H0 H : Hp} {d : D} {v : V} (i : D.imm d = true) (h : Rep K H d v) : NewR K H0 H (.d d) v := by
 have z : RepP K H (fun a => H0 a = none) d v := RepP.ofImm i h
 match d, i with
 | .non, _ => exact z
 | .bl _, _ => exact z
 | .int _, _ => exact z
 | .str _, _ => exact z
 | .tup _, _ => exact z
def RetAt (C : Cn) (H : Hp) (s : S) (v : V) : Prop := NewR C.K C.H0 H s v ∨ (C.free = true /\ ∃ x, s = .d x /\ RepP C.K H (fun a => C.H0 a = none ∨ C.Q a) x v)
def EndAt (C : Cn) (md : List Md) (A W : Addr -> Prop) (σ : L2.St) (H : Hp) (D : Ends) (ρ' : En) : Fl -> Prop
 | .nx => ∀ A' W' σ' H', Gr A W H A' W' H' -> R C md A' W' ρ' σ' H' -> Fix (held md) σ σ' -> D.nx σ' H'
 | .brk => ∀ A' W' σ' H', Gr A W H A' W' H' -> R C md A' W' ρ' σ' H' -> Fix (held md) σ σ' -> D.bk σ' H'
 | .ct => ∀ A' W' σ' H', Gr A W H A' W' H' -> R C md A' W' ρ' σ' H' -> Fix (held md) σ σ' -> D.ct σ' H'
 | .ret s => ∀ A' W' σ' v H', Gr A W H A' W' H' -> R C md A' W' ρ' σ' H' -> Fix (held md) σ σ' -> RetAt C H' s v -> D.rt v H'
def LS (C : Cn) (md : List Md) (t : TS) (f : MS) : Prop := ∀ (A W : Addr -> Prop) (ρ : En) (σ : L2.St) (H : Hp) (D : Ends) (fl : Fl) (ρ' : En), R C md A W ρ σ H -> f ρ = some (fl, ρ') -> EndAt C md A W σ H D ρ' fl -> t D σ H
def mgName (i : Nat) : MG := fun d ρ => some (ρ.set i (some (.d d)))
def mgOwn (i : Nat) : MG := fun d ρ => if isM (.d d) = true then none else some (ρ.set i (some (.d d)))
def mgNil : MGs := fun ds ρ => match ds with
 | [] => some ρ
 | _ => none
def mgCons (f : MG) (g : MGs) : MGs := fun ds ρ => match ds with
 | d :: r => (f d ρ).bind fun ρ1 => g r ρ1
 | [] => none
def mgTup (n : Nat) (g : MGs) : MG := fun d ρ => match d with
 | .tup l => if l.length = n then g l ρ else none
 | _ => none
def setD (i : D) (v : D) : Option S -> Option S
 | some (.d (.lst l)) => match i with
   | .int k => (ixN l.length k).map fun j => .d (.lst (l.set j v))
   | _ => none
 | _ => none
def mgSub (md : List Md) (x : Nat) (fi : ME) : MG := fun d ρ => (look ρ x).bind fun _ => (fi ρ).bind fun y => (res y.2 y.1).bind fun i => (setD i d (look y.2 x)).bind fun s => some (y.2.set x (some s))
def mNext : MS := fun ρ => some (.nx, ρ)
def mSeq (f g : MS) : MS := fun ρ => (f ρ).bind fun x => match x.1 with
 | .nx => g x.2
 | fl => some (fl, x.2)
def mDrop (f : ME) : MS := fun ρ => (f ρ).bind fun x => some (.nx, x.2)
def mAsg (md : List Md) (f : ME) (g : MG) : MS := fun ρ => (f ρ).bind fun x => (sto md x.2 x.1).bind fun d => (g d x.2).bind fun ρ' => some (.nx, ρ')
def mAsgN (f : MN) (i : Nat) : MS := fun ρ => (f ρ).bind fun x => some (.nx, x.2.set i (some x.1))
def mIfS (c : MT) (f g : MS) : MS := fun ρ => (c ρ).bind fun x => if x.1 = true then f x.2 else g x.2
def mRet (f : ME) : MS := fun ρ => (f ρ).bind fun x => (immO (res x.2 x.1)).bind fun d => some (.ret (.d d), x.2)
def immS : S -> Option S
 | .d (.lst l) => if D.immL l = true then some (.d (.lst l)) else none
 | _ => none
def mRetNew (f : MN) : MS := fun ρ => (f ρ).bind fun x => (immS x.1).bind fun s => some (.ret s, x.2)
def mRetV (i : Nat) : MS := fun ρ => (look ρ i).bind fun s => (immS s).bind fun s => some (.ret s, ρ)
def mRetNone : MS := fun ρ => some (.ret (.d .non), ρ)
def mBrk : MS := fun ρ => some (.brk, ρ)
def mCt : MS := fun ρ => some (.ct, ρ)
section
variable {C : Cn} {md : List Md} {fx : Nat -> Prop}
theorem lg_name {i : Nat} (hm : mode md i = .pl) (hf : ¬ fx i) : LG C md fx (gName i) (mgName i) := by
 intro A W ρ σ H v d ρ' Q r h e k
 cases e
 exact k _ H (Ext.refl _ _) (r.setP hm h) fun j fj => set_get (fun z => hf (by rw [z]; exact fj))
theorem lg_own {i : Nat} (hm : mode md i = .ow) (hf : ¬ fx i) : LG C md fx (gName i) (mgOwn i) := by
 intro A W ρ σ H v d ρ' Q r h e k
 unfold mgOwn at e
 split at e
 · cases e
 · cases e
   rename_i hn
   exact k _ H (Ext.refl _ _) (r.setF hm (by simpa using hn) h) fun j fj => set_get (fun z => hf (by rw [z]; exact fj))
theorem lgs_nil : LGs C md fx gNil mgNil := by
 intro A W ρ σ H vs ds ρ' Q r h e k
 unfold mgNil at e
 match ds, e with
 | [], e => cases e; exact ⟨h.nil_inv, k _ H (Ext.refl _ _) r (Fix.refl _ _)⟩
theorem lgs_cons {t : TG} {u : TGs} {f : MG} {g : MGs} (h1 : LG C md fx t f) (h2 : LGs C md fx u g) : LGs C md fx (gCons t u) (mgCons f g) := by
 intro A W ρ σ H vs ds ρ' Q r h e k
 unfold mgCons at e
 match ds, e with
 | d :: ds', e =>
   simp only [Option.bind_eq_some_iff] at e
   obtain ⟨ρ1, e1, e2⟩ := e
   obtain ⟨v, vr, rfl, p1, p2⟩ := h.cons_inv
   refine ⟨v, vr, rfl, h1 A W ρ σ H v d ρ1 _ r p1 e1 fun σ1 H1 x1 r1 f1 => ?_⟩
   exact h2 A W ρ1 σ1 H1 vr ds' ρ' _ r1 (r.stayPL x1 p2) e2 fun σ2 H2 x2 r2 f2 => k σ2 H2 (x1.trans x2) r2 (f1.trans f2)
theorem lg_tup {n : Nat} {t : TGs} {g : MGs} (h : LGs C md fx t g) : LG C md fx (gTup C.K n t) (mgTup n g) := by
 intro A W ρ σ H v d ρ' Q r p e k
 unfold mgTup at e
 match d, e with
 | .tup l, e =>
   replace e : (if l.length = n then g l ρ else none) = some ρ' := e
   split at e
   · rename_i hl
     rw [RepP] at p
     obtain ⟨a, xs, rfl, p1, p2⟩ := p
     exact ⟨a, xs, rfl, p1, by rw [p2.length]; exact hl, h A W ρ σ H xs l ρ' Q r p2 e k⟩
   · cases e
theorem setD_some {i v : D} {o : Option S} {s : S} (h : setD i v o = some s) : ∃ l k j, o = some (.d (.lst l)) /\ i = .int k /\ ixN l.length k = some j /\ s = .d (.lst (l.set j v)) := by
 match o, i, h with
 | some (.d (.lst l)), .int k, h =>
   unfold setD at h
   simp only [Option.map_eq_some_iff] at h
   obtain ⟨j, e, rfl⟩ := h
   exact ⟨l, k, j, rfl, rfl, e, rfl⟩
theorem lg_sub {x : Nat} {ti : TE} {fi : ME} (hm : mode md x = .ow ∨ mode md x = .io) (hi : LE C md ti fi) : LG C md fx (gSub (tVar x) ti rSetL) (mgSub md x fi) := by
 intro A W ρ σ H v d ρ' Q r p e k
 unfold mgSub at e
 simp only [Option.bind_eq_some_iff] at e
 obtain ⟨s0, e0, ⟨o, ρ1⟩, e1, i, e2, s, e3, e4⟩ := e
 cases e4
 obtain ⟨l, kk, j, f1, rfl, f2, rfl⟩ := setD_some e3
 obtain ⟨w, hw, _⟩ := r.slot x s0 e0
 refine ⟨w, hw, ?_⟩
 refine hi A W ρ σ H _ o ρ1 r e1 fun v1 H1 x1 r1 p1 => ?_
 obtain ⟨w', hw', h1⟩ := r1.slot x _ f1
 rw [hw] at hw'; cases hw'
 obtain ⟨a, xs, rfl, g1, g2⟩ : ∃ a xs, w = .ref a /\ H1 a = some (.lst xs) /\ RepPL C.K H1 (fun b => ¬ A b) l xs := by
   rcases hm with hm | hm <;> (rw [hm] at h1; obtain ⟨a, xs, q1, q2, q3, q4, q5⟩ := h1; exact ⟨a, xs, q1, q2, q5⟩)
 obtain rfl := (p1.get r1 e2).int_inv
 refine ⟨a, xs, kk, j, rfl, rfl, g1, by rw [g2.length]; exact f2, ?_⟩
 obtain ⟨H2, e5, b2, h2⟩ := My.wr_ex H1 a (.lst (xs.set j v))
 rw [e5]
 have pv := r.stayP x1 p
 obtain ⟨x2, r2⟩ := r1.write hm f1 rfl rfl hw b2 ⟨_, h2⟩ (s' := .d (.lst (l.set j d))) fun ok okq oa aa wa st c => by
   obtain ⟨a', xs', q1, q2, q3, q4, q5⟩ := c
   cases q1
   rw [g1] at q2; cases q2
   refine ⟨a, _, rfl, h2, aa, oa, ?_⟩
   have := (q5.set j pv)
   exact r1.stayPL (fun c o nc h => b2 c o (fun z => nc (by rw [z]; exact wa)) h) this
 exact k σ H2 (x1.trans x2) r2 (Fix.refl _ _)
theorem ls_next : LS C md tNext mNext := by
 intro A W ρ σ H D fl ρ' r e k
 cases e
 exact k A W σ H (Gr.refl _ _ _) r (Fix.refl _ _)
theorem R.mutw {A W A' W' : Addr -> Prop} {ρ ρ' : En} {σ σ' : L2.St} {H H' : Hp} (r : R C md A W ρ σ H) (g : Gr A W H A' W' H') (r' : R C md A' W' ρ' σ' H') : ∀ a, W a -> MutO (H' a) := fun a w => r'.ak a (g.aa a (r.wa a w))
theorem EndAt.then {A W A' W' : Addr -> Prop} {ρ ρ1 ρ' : En} {σ σ' : L2.St} {H H' : Hp} {D : Ends} {fl : Fl} (r : R C md A W ρ σ H) (g : Gr A W H A' W' H') (r' : R C md A' W' ρ1 σ' H') (f : Fix (held md) σ σ') (h : EndAt C md A W σ H D ρ' fl) : EndAt C md A' W' σ' H' D ρ' fl := by
 cases fl with
 | nx => exact fun A2 W2 σ2 H2 g2 r2 f2 => h A2 W2 σ2 H2 (g.trans r.wa (r.mutw g r') g2) r2 (f.trans f2)
 | brk => exact fun A2 W2 σ2 H2 g2 r2 f2 => h A2 W2 σ2 H2 (g.trans r.wa (r.mutw g r') g2) r2 (f.trans f2)
 | ct => exact fun A2 W2 σ2 H2 g2 r2 f2 => h A2 W2 σ2 H2 (g.trans r.wa (r.mutw g r') g2) r2 (f.trans f2)
 | ret s => exact fun A2 W2 σ2 v H2 g2 r2 f2 z => h A2 W2 σ2 v H2 (g.trans r.wa (r.mutw g r') g2) r2 (f.trans f2) z
theorem ls_seq {t u : TS} {f g : MS} (h1 : LS C md t f) (h2 : LS C md u g) : LS C md (tSeq t u) (mSeq f g) := by
 intro A W ρ σ H D fl ρ' r e k
 unfold mSeq at e
 simp only [Option.bind_eq_some_iff] at e
 obtain ⟨⟨fl1, ρ1⟩, e1, e2⟩ := e
 refine h1 A W ρ σ H _ fl1 ρ1 r e1 ?_
 cases fl1 with
 | nx => exact fun A1 W1 σ1 H1 g1 r1 f1 => h2 A1 W1 ρ1 σ1 H1 D fl ρ' r1 e2 (EndAt.then r g1 r1 f1 k)
 | brk => cases e2; exact k
 | ct => cases e2; exact k
 | ret s => cases e2; exact k
theorem ls_drop {t : TE} {f : ME} (h : LE C md t f) : LS C md (tDrop t) (mDrop f) := by
 intro A W ρ σ H D fl ρ' r e k
 unfold mDrop at e
 simp only [Option.bind_eq_some_iff] at e
 obtain ⟨⟨o, ρ1⟩, e1, e2⟩ := e
 cases e2
 exact h A W ρ σ H _ o _ r e1 fun v H1 x1 r1 _ => k A W σ H1 (Gr.ofExt x1) r1 (Fix.refl _ _)
theorem ls_asg {t : TE} {f : ME} {g : TG} {fg : MG} (h : LE C md t f) (hg : LG C md (held md) g fg) : LS C md (tAsg t g) (mAsg md f fg) := by
 intro A W ρ σ H D fl ρ' r e k
 unfold mAsg at e
 simp only [Option.bind_eq_some_iff] at e
 obtain ⟨⟨o, ρ1⟩, e1, d, e2, ρ2, e3, e4⟩ := e
 cases e4
 refine h A W ρ σ H _ o ρ1 r e1 fun v H1 x1 r1 p1 => ?_
 exact hg A W ρ1 σ H1 v d _ _ r1 (p1.sto r1 e2) e3 fun σ2 H2 x2 r2 f2 => k A W σ2 H2 (Gr.ofExt (x1.trans x2)) r2 f2
theorem ls_asgN {t : TE} {f : MN} {i : Nat} (hm : mode md i = .ow) (h : LN C md t f) : LS C md (tAsg t (gName i)) (mAsgN f i) := by
 intro A W ρ σ H D fl ρ' r e k
 unfold mAsgN at e
 simp only [Option.bind_eq_some_iff] at e
 obtain ⟨⟨s, ρ1⟩, e1, e4⟩ := e
 cases e4
 refine h A W ρ σ H _ s ρ1 r e1 fun a H1 H2 x1 r1 ha s1 n => ?_
 obtain ⟨A2, W2, g2, r2⟩ := r1.setN hm ha s1 n
 refine k A2 W2 _ H2 ((Gr.ofExt x1).trans r.wa (fun a w => r1.ak a (r.wa a w)) g2) r2 fun j fj => set_get (fun z => ?_)
 rcases fj with fj | fj <;> (rw [<- z, hm] at fj; cases fj)
theorem ls_if {c : TT} {t u : TS} {fc : MT} {f g : MS} (hc : LT C md c fc) (h1 : LS C md t f) (h2 : LS C md u g) : LS C md (tIfS c t u) (mIfS fc f g) := by
 intro A W ρ σ H D fl ρ' r e k
 unfold mIfS at e
 simp only [Option.bind_eq_some_iff] at e
 obtain ⟨⟨b, ρ1⟩, e1, e2⟩ := e
 refine hc A W ρ σ H _ b ρ1 r e1 fun H1 x1 r1 => ?_
 have k' := EndAt.then r (Gr.ofExt x1) r1 (Fix.refl _ _) k
 cases b with
 | true => exact iteT (h1 A W ρ1 σ H1 D fl ρ' r1 (by simpa using e2) k')
 | false => exact iteF (h2 A W ρ1 σ H1 D fl ρ' r1 (by simpa using e2) k')
theorem immO_some {o : Option D} {d : D} (h : immO o = some d) : o = some d /\ D.imm d = true := by
 unfold immO at h
 split at h
 · split at h
   · cases h; exact ⟨rfl, by assumption⟩
   · cases h
 · cases h
theorem ls_ret {t : TE} {f : ME} (h : LE C md t f) : LS C md (tRet t) (mRet f) := by
 intro A W ρ σ H D fl ρ' r e k
 unfold mRet at e
 simp only [Option.bind_eq_some_iff] at e
 obtain ⟨⟨o, ρ1⟩, e1, d, e2, e3⟩ := e
 cases e3
 obtain ⟨e2, hi⟩ := immO_some e2
 exact h A W ρ σ H _ o _ r e1 fun v H1 x1 r1 p1 => k A W σ v H1 (Gr.ofExt x1) r1 (Fix.refl _ _) (.inl (NewR.ofImm hi (p1.get r1 e2).rep))
theorem immS_some {s s' : S} (h : immS s = some s') : ∃ l, s = .d (.lst l) /\ s' = s /\ D.immL l = true := by
 match s, h with
 | .d (.lst l), h =>
   replace h : (if D.immL l = true then some (S.d (.lst l)) else none) = some s' := h
   split at h
   · cases h; exact ⟨l, rfl, rfl, by assumption⟩
   · cases h
theorem ls_retNew {t : TE} {f : MN} (h : LN C md t f) : LS C md (tRet t) (mRetNew f) := by
 intro A W ρ σ H D fl ρ' r e k
 unfold mRetNew at e
 simp only [Option.bind_eq_some_iff] at e
 obtain ⟨⟨s, ρ1⟩, e1, s', e2, e3⟩ := e
 cases e3
 obtain ⟨l, rfl, rfl, hi⟩ := immS_some e2
 refine h A W ρ σ H _ _ _ r e1 fun a H1 H2 x1 r1 ha s1 n => k A W σ (.ref a) H2 (Gr.ofExt (x1.trans (Same.ext s1))) (r1.same s1) (Fix.refl _ _) ?_
 obtain ⟨xs, h1, h2⟩ := n
 exact .inl ⟨a, xs, rfl, r1.h0 ha, h1, RepPL.ofImm hi h2.repL⟩
theorem ls_retV {i : Nat} (hm : mode md i = .ow) : LS C md (tRet (tVar i)) (mRetV i) := by
 intro A W ρ σ H D fl ρ' r e k
 unfold mRetV at e
 simp only [Option.bind_eq_some_iff] at e
 obtain ⟨s, e1, s', e2, e3⟩ := e
 cases e3
 obtain ⟨l, rfl, rfl, hi⟩ := immS_some e2
 obtain ⟨v, ev, h1⟩ := r.slot i _ e1
 refine ⟨v, ev, k A W σ v H (Gr.refl _ _ _) r (Fix.refl _ _) ?_⟩
 rw [hm] at h1
 obtain ⟨a, xs, rfl, q2, q3, q4, q5⟩ := h1
 exact .inl ⟨a, xs, rfl, q4.2, q2, RepPL.ofImm hi q5.repL⟩
def mRetF (md : List Md) (f : ME) : MS := fun ρ => (f ρ).bind fun x => (sto md x.2 x.1).bind fun d => some (.ret (.d d), x.2)
theorem ls_retF {t : TE} {f : ME} (hf : C.free = true) (h : LE C md t f) : LS C md (tRet t) (mRetF md f) := by
 intro A W ρ σ H D fl ρ' r e k
 unfold mRetF at e
 simp only [Option.bind_eq_some_iff] at e
 obtain ⟨⟨o, ρ1⟩, e1, d, e2, e3⟩ := e
 cases e3
 refine h A W ρ σ H _ o _ r e1 fun v H1 x1 r1 p1 => k A W σ v H1 (Gr.ofExt x1) r1 (Fix.refl _ _) (.inr ⟨hf, d, rfl, ?_⟩)
 refine (p1.sto r1 e2).mono fun a xs na ha => ?_
 cases e0 : C.H0 a with
 | none => exact .inl rfl
 | some o0 =>
   right
   by_cases hm : C.M a
   · exact absurd (r1.ma a hm) na
   · have z := r1.base a o0 e0 hm
     rw [ha] at z
     cases z
     by_cases hq : C.Q a
     · exact hq
     · exact absurd (r1.fo hf a xs e0 hq) na
theorem ls_retNone : LS C md tRetN mRetNone := by
 intro A W ρ σ H D fl ρ' r e k
 cases e
 exact k A W σ .non H (Gr.refl _ _ _) r (Fix.refl _ _) (.inl (show RepP _ _ _ _ _ from repP_non))
theorem ls_brk : LS C md tBreak mBrk := by
 intro A W ρ σ H D fl ρ' r e k
 cases e
 exact k A W σ H (Gr.refl _ _ _) r (Fix.refl _ _)
theorem ls_ct : LS C md tCont mCt := by
 intro A W ρ σ H D fl ρ' r e k
 cases e
 exact k A W σ H (Gr.refl _ _ _) r (Fix.refl _ _)
def lstS : Option S -> Option (List D)
 | some (.d (.lst l)) => some l
 | _ => none
theorem lstS_some {o : Option S} {l : List D} (h : lstS o = some l) : o = some (.d (.lst l)) := by
 match o, h with
 | some (.d (.lst m)), h => cases h; rfl
theorem R.cellAt {A W : Addr -> Prop} {ρ : En} {σ : L2.St} {H : Hp} {i : Nat} {l : List D} {w : V} (r : R C md A W ρ σ H) (hm : mode md i = .ow ∨ mode md i = .io) (e : look ρ i = some (.d (.lst l))) (ew : σ[i]? = some (some w)) :
   ∃ a xs, w = .ref a /\ H a = some (.lst xs) /\ RepPL C.K H (fun b => ¬ A b) l xs := by
 obtain ⟨w', hw', h1⟩ := r.slot i _ e
 rw [ew] at hw'; cases hw'
 rcases hm with hm | hm <;> (rw [hm] at h1; obtain ⟨a, xs, q1, q2, q3, q4, q5⟩ := h1; exact ⟨a, xs, q1, q2, q5⟩)
theorem R.writeL {A W : Addr -> Prop} {ρ : En} {σ : L2.St} {H H' : Hp} {i : Nat} {l l' : List D} {a : Addr} {ys : List V} (r : R C md A W ρ σ H) (hm : mode md i = .ow ∨ mode md i = .io) (e : look ρ i = some (.d (.lst l))) (ew : σ[i]? = some (some (.ref a)))
   (b : But a H H') (h : H' a = some (.lst ys)) (rp : RepPL C.K H (fun b => ¬ A b) l' ys) : Ext W H H' /\ R C md A W (ρ.set i (some (.d (.lst l')))) σ H' := by
 refine r.write hm e rfl rfl ew b ⟨_, h⟩ fun ok okq oa aa wa st c => ⟨a, ys, rfl, h, aa, oa, ?_⟩
 exact r.stayPL (fun c o nc h => b c o (fun z => nc (by rw [z]; exact wa)) h) rp
def mAppend (md : List Md) (i : Nat) (f : MA) : ME := fun ρ => (lstS (look ρ i)).bind fun _ => (f ρ).bind fun x => (stos md x.2 x.1).bind fun ds => (lstS (look x.2 i)).bind fun l => match ds with
 | [d] => if l.length < sizeLine then some (.val .non, x.2.set i (some (.d (.lst (l ++ [d]))))) else none
 | _ => none
theorem le_append {i : Nat} {t : TA} {f : MA} (hm : mode md i = .ow ∨ mode md i = .io) (h : LA C md t f) : LE C md (tBM C.K "list" rAppend (tVar i) t) (mAppend md i f) := by
 intro A W ρ σ H Q o ρ' r e k
 unfold mAppend at e
 simp only [Option.bind_eq_some_iff] at e
 obtain ⟨l0, e0, ⟨os, ρ1⟩, e1, ds, e2, l, e3, e4⟩ := e
 match ds, e2, e4 with
 | [d], e2, e4 =>
   dsimp only at e4
   split at e4
   · cases e4
     rename_i hz
     have e0 := lstS_some e0
     have e3 := lstS_some e3
     obtain ⟨w, ew, _⟩ := r.slot i _ e0
     obtain ⟨a, xs, rfl, q1, q2⟩ := r.cellAt hm e0 ew
     refine ⟨_, ew, .inl ⟨rfl, xs, .inl (.inl q1)⟩, ?_⟩
     refine h A W ρ σ H _ os ρ1 r e1 fun vs H1 x1 r1 p1 => ?_
     obtain ⟨v, z, rfl, pv, pz⟩ := (p1.stos r1 e2).cons_inv
     obtain rfl := pz.nil_inv
     obtain ⟨a', ys, q3, q4, q5⟩ := r1.cellAt hm e3 ew
     cases q3
     refine ⟨a, ys, v, rfl, rfl, q4, by rw [q5.length]; exact hz, ?_⟩
     obtain ⟨H2, e5, b2, h2⟩ := My.wr_ex H1 a (.lst (ys ++ [v]))
     rw [e5]
     obtain ⟨x2, r2⟩ := r1.writeL hm e3 ew b2 h2 (q5.append (.cons pv .nil))
     exact k _ H2 (x1.trans x2) r2 (show RepP _ _ _ _ _ from repP_non)
   · cases e4
def mPop (i : Nat) : ME := fun ρ => (lstS (look ρ i)).bind fun l => (l[l.length - 1]?).bind fun d => some (.val d, ρ.set i (some (.d (.lst l.dropLast))))
theorem le_pop {i : Nat} (hm : mode md i = .ow ∨ mode md i = .io) : LE C md (tBM0 C.K "list" rPop (tVar i)) (mPop i) := by
 intro A W ρ σ H Q o ρ' r e k
 unfold mPop at e
 simp only [Option.bind_eq_some_iff] at e
 obtain ⟨l, e0, d, e1, e2⟩ := e
 cases e2
 have e0 := lstS_some e0
 obtain ⟨w, ew, _⟩ := r.slot i _ e0
 obtain ⟨a, xs, rfl, q1, q2⟩ := r.cellAt hm e0 ew
 refine ⟨_, ew, .inl ⟨rfl, xs, .inl (.inl q1)⟩, ?_⟩
 obtain ⟨y, ey, py⟩ := q2.get e1
 rw [<- q2.length] at ey
 refine ⟨a, xs, y, rfl, rfl, q1, ey, ?_⟩
 obtain ⟨H2, e5, b2, h2⟩ := My.wr_ex H a (.lst xs.dropLast)
 rw [e5]
 obtain ⟨x2, r2⟩ := r.writeL hm e0 ew b2 h2 q2.dropLast
 exact k _ H2 x2 r2 (show RepP _ _ _ _ _ from r.stayP x2 py)
def mReverse (i : Nat) : ME := fun ρ => (lstS (look ρ i)).bind fun l => some (.val .non, ρ.set i (some (.d (.lst l.reverse))))
theorem le_reverse {i : Nat} (hm : mode md i = .ow ∨ mode md i = .io) : LE C md (tBM0 C.K "list" rReverse (tVar i)) (mReverse i) := by
 intro A W ρ σ H Q o ρ' r e k
 unfold mReverse at e
 simp only [Option.bind_eq_some_iff] at e
 obtain ⟨l, e0, e2⟩ := e
 cases e2
 have e0 := lstS_some e0
 obtain ⟨w, ew, _⟩ := r.slot i _ e0
 obtain ⟨a, xs, rfl, q1, q2⟩ := r.cellAt hm e0 ew
 refine ⟨_, ew, .inl ⟨rfl, xs, .inl (.inl q1)⟩, ?_⟩
 refine ⟨a, xs, rfl, rfl, q1, ?_⟩
 obtain ⟨H2, e5, b2, h2⟩ := My.wr_ex H a (.lst xs.reverse)
 rw [e5]
 obtain ⟨x2, r2⟩ := r.writeL hm e0 ew b2 h2 q2.reverse
 exact k _ H2 x2 r2 (show RepP _ _ _ _ _ from repP_non)
theorem RepPL.apart {K : PySem.W.Frag} {H : Hp} {ok : Addr -> Prop} {l : List D} {xs : List V} {p : Addr} (h : RepPL K H ok l xs) (hp : H p = none) : RepPL K H (fun b => ok b /\ b ≠ p) l xs :=
 h.mono fun b xs o z => ⟨o, fun e => by subst e; rw [hp] at z; cases z⟩
def mnLst (md : List Md) (fa : MA) : MN := fun ρ => (fa ρ).bind fun x => (stos md x.2 x.1).bind fun ds => if ds.length <= sizeLine then some (.d (.lst ds), x.2) else none
theorem ln_lst {t : TA} {fa : MA} (ha : LA C md t fa) : LN C md (tLst t) (mnLst md fa) := by
 intro A W ρ σ H Q s ρ' r0 e k
 unfold mnLst at e
 simp only [Option.bind_eq_some_iff] at e
 obtain ⟨⟨o1, ρ1⟩, e1, ds, e3, e5⟩ := e
 split at e5
 · cases e5
   rename_i hz
   refine ha A W ρ σ H _ o1 _ r0 e1 fun v1 H1 x1 r1 p1 => ?_
   have q := p1.stos r1 e3
   refine ⟨by rw [q.length]; exact hz, fun p hp => ?_⟩
   have s := new_same (o := .lst v1) hp
   exact k p H1 _ x1 r1 hp s ⟨v1, upd_same, (q.apart hp).same s⟩
 · cases e5
end
end Mir
namespace Mir
open PySem PySem.Spec PyProof.Rows L2
def SL (K : PySem.W.Frag) (H : Hp) (ok : Addr -> Prop) : List S -> List V -> Prop
 | [], vs => vs = []
 | s :: ss, vs => ∃ v r, vs = v :: r /\ SRep K H ok s v /\ SL K H ok ss r
def spP (K : PySem.W.Frag) (m : List S -> Option S) : Sp := fun vs H Q _ => ∃ ss r, SL K H (fun _ => True) ss vs /\ m ss = some r /\ ∀ v H', Same H H' -> NewR K H H' r v -> Q v H'
def IoAt (K : PySem.W.Frag) (H : Hp) (p q : Addr) : S -> Prop
 | .pot ns i r m => q ≠ p /\ H p = some (.lst [.ref q, .int i, .int r, .int m]) /\ H q = some (.lst (ns.map V.int))
 | .d (.lst l) => D.immL l = true /\ ∃ xs, H p = some (.lst xs) /\ RepL K H l xs
 | _ => False
def isPot : S -> Bool
 | .pot _ _ _ _ => true
 | _ => false
def NewM (K : PySem.W.Frag) (H H' : Hp) (q : Addr) (s0 r : S) (v : V) : Prop := NewR K H H' r v ∨ (isPot s0 = true /\ ∃ x, r = .d x /\ RepP K H' (fun a => H a = none ∨ a = q) x v)
def spM (K : PySem.W.Frag) (m : List S -> Option (S × S)) : Sp := fun vs H Q _ => ∃ p q s0 ss vs' r s1, vs = .ref p :: vs' /\ IoAt K H p q s0 /\ SL K H (fun a => a ≠ p) ss vs' /\ m (s0 :: ss) = some (r, s1) /\
 ∀ v H', But p H H' -> IoAt K H' p q s1 -> NewM K H H' q s0 r v -> Q v H'
def mCall (m : List S -> Option S) (f : MA) : ME := fun ρ => (f ρ).bind fun x => (ressS x.2 x.1).bind fun ss => (m ss).bind fun r => (unD (some r)).bind fun d => some (.val d, x.2)
def mnCall (m : List S -> Option S) (f : MA) : MN := fun ρ => (f ρ).bind fun x => (ressS x.2 x.1).bind fun ss => (m ss).bind fun r => (immS r).bind fun s => some (s, x.2)
def okIo : S -> Option S
 | .pot ns i r m => some (.pot ns i r m)
 | .d (.lst l) => if D.immL l = true then some (.d (.lst l)) else none
 | _ => none
def okIo2 : S -> S -> Option S
 | .pot _ _ _ _, .pot ns i r m => some (.pot ns i r m)
 | .d (.lst _), .d (.lst l) => if D.immL l = true then some (.d (.lst l)) else none
 | _, _ => none
def mCallM (md : List Md) (i : Nat) (m : List S -> Option (S × S)) (f : MA) : ME := fun ρ => (look ρ i).bind fun _ => (f ρ).bind fun x => (stos md x.2 x.1).bind fun ds => ((look x.2 i).bind okIo).bind fun s0 => (m (s0 :: ds.map S.d)).bind fun y =>
 (unD (some y.1)).bind fun d => (okIo2 s0 y.2).bind fun s1 => some (.val d, x.2.set i (some s1))
section
variable {C : Cn} {md : List Md} {fx : Nat -> Prop}
theorem RepT.any {K : PySem.W.Frag} {H : Hp} {ok : Addr -> Prop} {d : D} {v : V} (h : RepT K H ok d v) : RepP K H (fun _ => True) d v := by
 match d, h with
 | .lst l, h =>
   obtain ⟨a, xs, rfl, h1, h2⟩ := h
   rw [RepP]
   exact ⟨a, xs, rfl, h1, trivial, h2.mono fun _ _ _ _ => trivial⟩
 | .non, h => exact RepP.mono (ok := ok) (show RepP K H ok _ v from h) fun _ _ _ _ => trivial
 | .bl _, h => exact RepP.mono (ok := ok) (show RepP K H ok _ v from h) fun _ _ _ _ => trivial
 | .int _, h => exact RepP.mono (ok := ok) (show RepP K H ok _ v from h) fun _ _ _ _ => trivial
 | .str _, h => exact RepP.mono (ok := ok) (show RepP K H ok _ v from h) fun _ _ _ _ => trivial
 | .tup _, h => exact RepP.mono (ok := ok) (show RepP K H ok _ v from h) fun _ _ _ _ => trivial
theorem OpsAt.args {A W : Addr -> Prop} {ρ : En} {σ : L2.St} {H : Hp} (r : R C md A W ρ σ H) : ∀ {os : List Op} {vs : List V} {ss : List S}, OpsAt C A σ H os vs -> ressS ρ os = some ss -> (∀ s ∈ ss, ∃ d, s = .d d) -> SL C.K H (fun _ => True) ss vs
 | [], vs, ss, h, e, _ => by cases e; exact h
 | o :: os, vs, ss, h, e, hd => by
   obtain ⟨v, t, rfl, h1, h2⟩ := h
   unfold ressS at e
   simp only [Option.bind_eq_some_iff] at e
   obtain ⟨s, e1, ss', e2, e3⟩ := e
   cases e3
   obtain ⟨d, rfl⟩ := hd s (by simp)
   refine ⟨v, t, rfl, ?_, OpsAt.args r h2 e2 fun s hs => hd s (by simp [hs])⟩
   have e1' : res ρ o = some d := by
     cases o with
     | val d' => cases e1; rfl
     | var i => show unD (look ρ i) = some d; rw [show look ρ i = some (.d d) from e1]; rfl
   exact (h1.get r e1').any
end
def allD' : List S -> Option (List S)
 | [] => some []
 | .d x :: r => (allD' r).map (S.d x :: ·)
 | _ => none
theorem allD'_some : ∀ {ss ss' : List S}, allD' ss = some ss' -> ss' = ss /\ ∀ s ∈ ss, ∃ d, s = .d d
 | [], ss', h => by cases h; exact ⟨rfl, by simp⟩
 | .d x :: r, ss', h => by
   replace h : (allD' r).map (S.d x :: ·) = some ss' := h
   simp only [Option.map_eq_some_iff] at h
   obtain ⟨t, e, rfl⟩ := h
   obtain ⟨rfl, h2⟩ := allD'_some e
   refine ⟨rfl, fun s hs => ?_⟩
   rcases List.mem_cons.mp hs with hs | hs
   · exact ⟨x, hs⟩
   · exact h2 s hs
theorem ressS_of {ρ : En} : ∀ {os : List Op} {ds : List D}, ress ρ os = some ds -> ressS ρ os = some (ds.map S.d)
 | [], ds, h => by cases h; rfl
 | o :: os, ds, h => by
   unfold ress at h
   simp only [Option.bind_eq_some_iff] at h
   obtain ⟨d, e1, ds', e2, e3⟩ := h
   cases e3
   unfold ressS
   rw [ressS_of e2]
   have : resS ρ o = some (.d d) := by
     cases o with
     | val d' => cases e1; rfl
     | var i => exact unD_some e1
   rw [this]; rfl
section
variable {C : Cn} {md : List Md} {fx : Nat -> Prop}
def mCallD (m : List S -> Option S) (f : MA) : ME := fun ρ => (f ρ).bind fun x => (ress x.2 x.1).bind fun ds => (m (ds.map S.d)).bind fun r => (unD (some r)).bind fun d => some (.val d, x.2)
def mnCallD (m : List S -> Option S) (f : MA) : MN := fun ρ => (f ρ).bind fun x => (ress x.2 x.1).bind fun ds => (m (ds.map S.d)).bind fun r => (immS r).bind fun s => some (s, x.2)
theorem SL.ofD {K : PySem.W.Frag} {H : Hp} {ok : Addr -> Prop} : ∀ {ds : List D} {vs : List V}, RepTL K H ok ds vs -> SL K H (fun _ => True) (ds.map S.d) vs
 | [], vs, h => h
 | d :: ds, vs, h => by
   obtain ⟨v, r, rfl, h1, h2⟩ := h
   exact ⟨v, r, rfl, h1.any, SL.ofD h2⟩
theorem SL.ofP {K : PySem.W.Frag} {H : Hp} {ok ok' : Addr -> Prop} (m : ∀ a, ok a -> ok' a) : ∀ {ds : List D} {vs : List V}, RepPL K H ok ds vs -> SL K H ok' (ds.map S.d) vs
 | [], vs, h => h.nil_inv
 | d :: ds, vs, h => by
   obtain ⟨v, r, rfl, h1, h2⟩ := h.cons_inv
   exact ⟨v, r, rfl, RepP.mono h1 fun a _ o _ => m a o, SL.ofP m h2⟩
theorem le_call {t : TA} {f : MA} {m : List S -> Option S} {E : XK} (h : LA C md t f) : LE C md (tCall (spP C.K m) [] E t) (mCallD m f) := by
 intro A W ρ σ H Q o ρ' r e k
 unfold mCallD at e
 simp only [Option.bind_eq_some_iff] at e
 obtain ⟨⟨os, ρ1⟩, e1, ds, e2, s, e3, d, e4, e5⟩ := e
 cases e5
 cases unD_some e4
 refine h A W ρ σ H _ os _ r e1 fun vs H1 x1 r1 p1 => ?_
 rw [List.append_nil]
 refine ⟨ds.map S.d, _, SL.ofD (p1.get r1 e2), e3, fun v H2 s2 n => ?_⟩
 exact k v H2 (x1.trans (Same.ext s2)) (r1.same s2) (show RepP _ _ _ _ _ from n.repP.mono fun a _ o _ => r1.fresh o)
theorem ln_call {t : TA} {f : MA} {m : List S -> Option S} {E : XK} (h : LA C md t f) : LN C md (tCall (spP C.K m) [] E t) (mnCallD m f) := by
 intro A W ρ σ H Q s ρ' r e k
 unfold mnCallD at e
 simp only [Option.bind_eq_some_iff] at e
 obtain ⟨⟨os, ρ1⟩, e1, ds, e2, s0, e3, s', e4, e5⟩ := e
 cases e5
 obtain ⟨l, rfl, rfl, hi⟩ := immS_some e4
 refine h A W ρ σ H _ os _ r e1 fun vs H1 x1 r1 p1 => ?_
 rw [List.append_nil]
 refine ⟨ds.map S.d, _, SL.ofD (p1.get r1 e2), e3, fun v H2 s2 n => ?_⟩
 obtain ⟨a, xs, rfl, h1, h2, h3⟩ := n
 exact k a H1 H2 x1 r1 h1 s2 ⟨xs, h2, RepPL.ofImm hi h3.repL⟩
theorem okIo_some {s s' : S} (h : okIo s = some s') : s' = s /\ isM s = true /\ ∀ l, s = .d (.lst l) -> D.immL l = true := by
 match s, h with
 | .pot ns i r m, h => cases h; exact ⟨rfl, rfl, fun l z => by cases z⟩
 | .d (.lst l), h =>
   replace h : (if D.immL l = true then some (S.d (.lst l)) else none) = some s' := h
   split at h
   · cases h; rename_i hi; exact ⟨rfl, rfl, fun m z => by cases z; exact hi⟩
   · cases h
theorem okIo2_some {s0 s s' : S} (h : okIo2 s0 s = some s') : s' = s /\ isM s = true /\ (∀ l, s = .d (.lst l) -> D.immL l = true) /\ ∀ ns i r m, s = .pot ns i r m -> ∃ ns i r m, s0 = .pot ns i r m := by
 match s0, s, h with
 | .pot _ _ _ _, .pot ns i r m, h => cases h; exact ⟨rfl, rfl, (fun l z => by cases z), fun _ _ _ _ _ => ⟨_, _, _, _, rfl⟩⟩
 | .d (.lst _), .d (.lst l), h =>
   replace h : (if D.immL l = true then some (S.d (.lst l)) else none) = some s' := h
   split at h
   · cases h; rename_i hi; exact ⟨rfl, rfl, (fun m z => by cases z; exact hi), (fun _ _ _ _ z => by cases z)⟩
   · cases h
theorem le_callM {i : Nat} {t : TA} {f : MA} {m : List S -> Option (S × S)} {E : XK} (hm : mode md i = .ow ∨ mode md i = .io) (h : LA C md t f) : LE C md (tCall (spM C.K m) [] E (tCons (tVar i) t)) (mCallM md i m f) := by
 intro A W ρ σ H Q o ρ' r e k
 unfold mCallM at e
 simp only [Option.bind_eq_some_iff] at e
 obtain ⟨sx, e0, ⟨os, ρ1⟩, e1, ds, e2, s0, ⟨s0', e3, e3'⟩, ⟨y1, y2⟩, e4, d, e5, s1, e6, e7⟩ := e
 cases e7
 cases unD_some e5
 obtain ⟨rfl, is0, im0⟩ := okIo_some e3'
 obtain ⟨rfl, is1, im1, kd⟩ := okIo2_some e6
 obtain ⟨w, ew, _⟩ := r.slot i _ e0
 refine ⟨w, ew, ?_⟩
 refine h A W ρ σ H _ os _ r e1 fun vs H1 x1 r1 p1 => ?_
 show spM C.K m ((w :: vs) ++ []) H1 Q E
 rw [List.append_nil]
 dsimp only at e2 e3 e4 e5 e6 is1 im1 kd k
 obtain ⟨w', ew', c1⟩ := r1.slot i _ e3
 rw [ew] at ew'; cases ew'
 obtain ⟨okc, okq, c⟩ : ∃ okc okq, Cell C.K A H1 okc okq s0 w := by rcases hm with hm | hm <;> (rw [hm] at c1; exact ⟨_, _, c1⟩)
 obtain ⟨p, q, rfl, io, aq⟩ : ∃ p q, w = .ref p /\ IoAt C.K H1 p q s0 /\ (∀ ns i r m, s0 = .pot ns i r m -> ¬ A q) := by
   match s0, is0, im0, c with
   | .pot ns i r m, _, _, c =>
     obtain ⟨p, q, rfl, h1, h2, h3, h4, h5, h6⟩ := c
     exact ⟨p, q, rfl, ⟨fun z => h5 (by rw [z]; exact h3), h1, h2⟩, fun _ _ _ _ _ => h5⟩
   | .d (.lst l), _, im, c =>
     obtain ⟨p, xs, rfl, h1, h2, h3, h4⟩ := c
     exact ⟨p, p, rfl, ⟨im l rfl, xs, h1, h4.repL⟩, fun _ _ _ _ z => by cases z⟩
 have ap : A p := (Cell.at is0 c).2.1
 refine ⟨p, q, s0, ds.map S.d, vs, _, s1, rfl, io, SL.ofP (fun a o z => o (by rw [z]; exact ap)) (p1.stos r1 e2), e4, fun v H2 b2 io2 n => ?_⟩
 have mu : MutO (H2 p) := by
   match s1, is1, io2 with
   | .pot ns i r m, _, io2 => exact ⟨_, io2.2.1⟩
   | .d (.lst l), _, io2 => obtain ⟨_, xs, z, _⟩ := io2; exact ⟨xs, z⟩
 obtain ⟨x2, r2⟩ := r1.write hm e3 is0 is1 ew b2 mu (s' := s1) fun ok okq oa aa wa st c => by
   match s1, is1, im1, io2, kd with
   | .pot ns i r m, _, _, io2, kd =>
     obtain ⟨g1, g2, g3⟩ := io2
     obtain ⟨ns', i', r', m', rfl⟩ := kd ns i r m rfl
     obtain ⟨p', q', z, h1, h2, h3, h4, h5, h6⟩ := c
     cases z
     have : q' = q := by
       have z := io.2.1
       rw [h1] at z
       injection z with z; injection z with z; injection z with z; injection z
     subst this
     exact ⟨p, q', rfl, g2, g3, aa, oa, h5, h6⟩
   | .d (.lst l), _, im, io2, _ =>
     obtain ⟨_, xs, z, z2⟩ := io2
     exact ⟨p, xs, rfl, z, aa, oa, RepPL.ofImm (im l rfl) z2⟩
 refine k v H2 (x1.trans x2) r2 ?_
 rcases n with n | ⟨ip, x, z, n⟩
 · exact (show RepP _ _ _ _ _ from n.repP.mono fun a _ o _ => r1.fresh o)
 · cases z
   refine (show RepP _ _ _ _ _ from n.mono fun a _ o _ => ?_)
   rcases o with o | o
   · exact r1.fresh o
   · rw [o]
     match s0, ip, aq with
     | .pot ns i r m, _, aq => exact aq ns i r m rfl
end
end Mir
namespace Mir
open PySem PySem.Spec PyProof.Rows L2
abbrev MI := En -> Option (List D × En)
def ItAt (C : Cn) (A W : Addr -> Prop) (J : It) (ds : List D) (H : Hp) : Prop := ∀ (A' W' : Addr -> Prop) (H' : Hp), Gr A W H A' W' H' -> ∀ i,
 (∀ d, ds[i]? = some d -> J.go i H' /\ ∀ x H'', J.yld i H' x H'' -> H'' = H' /\ RepP C.K H' (fun a => ¬ A' a) d x) /\ (ds.length <= i -> J.stop i H')
def LI (C : Cn) (md : List Md) (lj : Option Nat) (wi : TI) (f : MI) : Prop := ∀ (A W : Addr -> Prop) (ρ : En) (σ : L2.St) (H : Hp) (Q : It -> Hp -> Prop) (ds : List D) (ρ' : En), R C md A W ρ σ H -> f ρ = some (ds, ρ') ->
 (∀ J H', Ext W H H' -> R C md A W ρ' σ H' -> (∀ W2 : Addr -> Prop, (∀ a, W2 a -> W a) -> (∀ j a s, lj = some j -> mode md j ≠ .pl -> look ρ' j = some s -> isM s = true -> σ[j]? = some (some (.ref a)) -> ¬ W2 a) -> ItAt C A W2 J ds H') -> Q J H') -> wi σ H Q
def rngD (lo : Int) (n : Nat) : List D := (List.range n).map fun k => D.int (lo + (k : Nat))
def mRng1 (f : MA) : MI := fun ρ => (f ρ).bind fun x => (ress x.2 x.1).bind fun ds => match ds with
 | [.int j] => if -(2 ^ 62) <= j /\ j < 2 ^ 62 then some (rngD 0 j.toNat, x.2) else none
 | _ => none
def mRng2 (f : MA) : MI := fun ρ => (f ρ).bind fun x => (ress x.2 x.1).bind fun ds => match ds with
 | [.int i, .int j] => if -(2 ^ 62) <= i /\ i < 2 ^ 62 /\ -(2 ^ 62) <= j /\ j < 2 ^ 62 then some (rngD i (j - i).toNat, x.2) else none
 | _ => none
def signsD (z : Str) : List D := z.cps.toList.map fun c => D.str ⟨#[c]⟩
def seqD : D -> Option (List D)
 | .str z => some (signsD z)
 | .tup l => some l
 | .lst l => some l
 | _ => none
def mSeqI (md : List Md) (f : ME) : MI := fun ρ => (f ρ).bind fun x => (sto md x.2 x.1).bind fun d => (seqD d).bind fun l => some (l, x.2)
def mSeqV (j : Nat) : MI := fun ρ => (lstS (look ρ j)).bind fun l => some (l, ρ)
section
variable {C : Cn} {md : List Md}
theorem it_rng (A W : Addr -> Prop) (lo : Int) (n : Nat) (H : Hp) : ItAt C A W (Itr lo n) (rngD lo n) H := by
 intro A' W' H' g i
 refine ⟨fun d e => ?_, fun h => ?_⟩
 · unfold rngD at e
   rw [List.getElem?_map, Option.map_eq_some_iff] at e
   obtain ⟨k, e1, rfl⟩ := e
   have hk := List.getElem?_eq_some_iff.mp e1
   obtain ⟨h1, h2⟩ := hk
   rw [List.length_range] at h1
   rw [List.getElem_range] at h2
   subst h2
   refine ⟨h1, fun x H'' y => ⟨y.1, ?_⟩⟩
   rw [y.2]
   exact repP_int
 · simp [rngD] at h
   exact h
theorem li_rng1 {t : TA} {f : MA} (h : LA C md t f) : LI C md none (iRng1 t) (mRng1 f) := by
 intro A W ρ σ H Q ds ρ' r e k
 unfold mRng1 at e
 simp only [Option.bind_eq_some_iff] at e
 obtain ⟨⟨os, ρ1⟩, e1, xs, e2, e3⟩ := e
 match xs, e2, e3 with
 | [.int j], e2, e3 =>
   dsimp only at e3
   split at e3
   · rename_i hj
     cases e3
     refine h A W ρ σ H _ os _ r e1 fun vs H1 x1 r1 p1 => ?_
     obtain ⟨v, rfl, pv⟩ := (p1.get r1 e2).one_inv
     obtain rfl := pv.int_inv
     exact ⟨j, rfl, hj.1, hj.2, k _ H1 x1 r1 fun W2 _ _ => it_rng _ _ _ _ _⟩
   · cases e3
theorem li_rng2 {t : TA} {f : MA} (h : LA C md t f) : LI C md none (iRng2 t) (mRng2 f) := by
 intro A W ρ σ H Q ds ρ' r e k
 unfold mRng2 at e
 simp only [Option.bind_eq_some_iff] at e
 obtain ⟨⟨os, ρ1⟩, e1, xs, e2, e3⟩ := e
 match xs, e2, e3 with
 | [.int i, .int j], e2, e3 =>
   dsimp only at e3
   split at e3
   · rename_i hj
     cases e3
     refine h A W ρ σ H _ os _ r e1 fun vs H1 x1 r1 p1 => ?_
     obtain ⟨v, w, rfl, pv, pw⟩ := p1.get r1 e2
     obtain ⟨u, rfl, pu⟩ := RepTL.one_inv pw
     obtain rfl := pv.int_inv
     obtain rfl := pu.int_inv
     exact ⟨i, j, rfl, hj, k _ H1 x1 r1 fun W2 _ _ => it_rng _ _ _ _ _⟩
   · cases e3
theorem it_list {A W : Addr -> Prop} {ρ : En} {σ : L2.St} {H : Hp} {W2 : Addr -> Prop} (r : R C md A W ρ σ H) (hw : ∀ a, W2 a -> W a) {a : Addr} {xs : List V} {l : List D} (h : H a = some (.lst xs)) (na : ¬ W2 a) (p : RepPL C.K H (fun b => ¬ A b) l xs) : ItAt C A W2 (Itl C.K a) l H := by
 intro A' W' H' g i
 have h' : H' a = some (.lst xs) := g.ext a _ na h
 have p' : RepPL C.K H' (fun b => ¬ A' b) l xs := p.stay (g.ext.stayT fun a w => r.wk a (hw a w)) fun b ys o z => ⟨g.ext b _ (fun w => o (r.wa b (hw b w))) z, fun w => by
   rcases g.an b w with y | y
   · exact o y
   · rw [y] at z; cases z⟩
 refine ⟨fun d e => ?_, fun hl => ?_⟩
 · obtain ⟨x, ex, px⟩ := p'.get e
   refine ⟨⟨xs, x, .inl (.inl h'), ex⟩, fun y H'' yl => ⟨yl.1, ?_⟩⟩
   have := yl.2 xs (.inl (.inl h'))
   rw [ex] at this
   cases this
   exact px
 · exact ⟨xs, .inl (.inl h'), by rw [p'.length]; exact hl⟩
theorem it_tup {A W : Addr -> Prop} {ρ : En} {σ : L2.St} {H : Hp} {W2 : Addr -> Prop} (r : R C md A W ρ σ H) (hw : ∀ a, W2 a -> W a) {a : Addr} {xs : List V} {l : List D} (h : SqT C.K H a xs) (p : RepPL C.K H (fun b => ¬ A b) l xs) : ItAt C A W2 (Itt C.K a) l H := by
 intro A' W' H' g i
 have st : StayT C.K H H' := g.ext.stayT fun a w => r.wk a (hw a w)
 have h' : SqT C.K H' a xs := st _ _ h
 have p' : RepPL C.K H' (fun b => ¬ A' b) l xs := p.stay st fun b ys o z => ⟨g.ext b _ (fun w => o (r.wa b (hw b w))) z, fun w => by
   rcases g.an b w with y | y
   · exact o y
   · rw [y] at z; cases z⟩
 refine ⟨fun d e => ?_, fun hl => ?_⟩
 · obtain ⟨x, ex, px⟩ := p'.get e
   refine ⟨⟨xs, x, h', ex⟩, fun y H'' yl => ⟨yl.1, ?_⟩⟩
   have := yl.2 xs h'
   rw [ex] at this
   cases this
   exact px
 · exact ⟨xs, h', by rw [p'.length]; exact hl⟩
theorem it_str (A W : Addr -> Prop) (z : Str) (H : Hp) : ItAt C A W (Its z) (signsD z) H := by
 intro A' W' H' g i
 refine ⟨fun d e => ?_, fun h => ?_⟩
 · unfold signsD at e
   rw [List.getElem?_map, Option.map_eq_some_iff] at e
   obtain ⟨c, e1, rfl⟩ := e
   obtain ⟨h1, h2⟩ := List.getElem?_eq_some_iff.mp e1
   refine ⟨(show i < z.cps.size by simpa using h1), fun x H'' y => ⟨y.1, ?_⟩⟩
   obtain ⟨_, c', e2, rfl⟩ := y
   rw [e1] at e2; cases e2
   exact repP_str
 · simp [signsD] at h
   exact h
theorem li_seq {t : TE} {f : ME} (h : LE C md t f) : LI C md none (iSeq C.K t) (mSeqI md f) := by
 intro A W ρ σ H Q ds ρ' r e k
 unfold mSeqI at e
 simp only [Option.bind_eq_some_iff] at e
 obtain ⟨⟨o, ρ1⟩, e1, d, e2, l, e3, e4⟩ := e
 cases e4
 refine h A W ρ σ H _ o _ r e1 fun v H1 x1 r1 p1 => ?_
 have p := p1.sto r1 e2
 match d, e3, p with
 | .str z, e3, p =>
   cases e3
   rw [RepP] at p
   subst p
   exact k _ H1 x1 r1 fun W2 _ _ => it_str _ _ _ _
 | .tup l, e3, p =>
   cases e3
   rw [RepP] at p
   obtain ⟨a, xs, rfl, h1, h2⟩ := p
   exact .inr ⟨⟨xs, h1⟩, k _ H1 x1 r1 fun W2 hw _ => it_tup r1 hw h1 h2⟩
 | .lst l, e3, p =>
   cases e3
   rw [RepP] at p
   obtain ⟨a, xs, rfl, h1, h2, h3⟩ := p
   exact .inl ⟨⟨xs, .inl (.inl h1)⟩, k _ H1 x1 r1 fun W2 hw _ => it_list r1 hw h1 (fun w => h2 (r1.wa a (hw a w))) h3⟩
theorem SlotAt.cell {A W : Addr -> Prop} {H : Hp} {s : S} {v : V} {m : Md} (hm : m ≠ .pl) (h : SlotAt C A W H s v m) : ∃ ok okq, Cell C.K A H ok okq s v := by
 cases m with
 | pl => exact absurd rfl hm
 | ow => exact ⟨_, _, h⟩
 | lk => exact ⟨_, _, h⟩
 | io => exact ⟨_, _, h⟩
theorem li_own {j : Nat} (hm : mode md j ≠ .pl) : LI C md (some j) (iSeq C.K (tVar j)) (mSeqV j) := by
 intro A W ρ σ H Q ds ρ' r e k
 unfold mSeqV at e
 simp only [Option.bind_eq_some_iff] at e
 obtain ⟨l, e1, e2⟩ := e
 cases e2
 have e1 := lstS_some e1
 obtain ⟨w, ew, c⟩ := r.slot j _ e1
 obtain ⟨ok, okq, c⟩ := c.cell hm
 obtain ⟨a, xs, rfl, h1, h2, h3, h4⟩ := c
 exact ⟨_, ew, .inl ⟨⟨xs, .inl (.inl h1)⟩, k _ H (Ext.refl _ _) r fun W2 hw hl => it_list r hw h1 (hl j a _ rfl hm e1 rfl ew) h4⟩⟩
theorem li_lk {j : Nat} (hm : mode md j = .lk) : LI C md none (iSeq C.K (tVar j)) (mSeqV j) := by
 intro A W ρ σ H Q ds ρ' r e k
 unfold mSeqV at e
 simp only [Option.bind_eq_some_iff] at e
 obtain ⟨l, e1, e2⟩ := e
 cases e2
 have e1 := lstS_some e1
 obtain ⟨w, ew, c⟩ := r.slot j _ e1
 rw [hm] at c
 obtain ⟨a, xs, rfl, h1, h2, h3, h4⟩ := c
 exact ⟨_, ew, .inl ⟨⟨xs, .inl (.inl h1)⟩, k _ H (Ext.refl _ _) r fun W2 hw hl => it_list r hw h1 (fun w => h3 (hw a w)) h4⟩⟩
abbrev MB := En -> List D -> Option (En × List D)
def LB (C : Cn) (md : List Md) (nt : Nat) (tb : TB) (f : MB) : Prop := ∀ (A W : Addr -> Prop) (ρ : En) (σ : L2.St) (H : Hp) (acc : List V) (as : List D) (Q : L2.St -> Hp -> List V -> Prop) (ρ' : En) (as' : List D), R C md A W ρ σ H -> RepPL C.K H (fun a => ¬ A a) as acc -> f ρ as = some (ρ', as') ->
 (∀ σ' H' acc', Ext W H H' -> R C md A W ρ' σ' H' -> RepPL C.K H' (fun a => ¬ A a) as' acc' -> Fix (fun j => nt <= j) σ σ' -> Q σ' H' acc') -> tb σ H acc Q
def mEmit (md : List Md) (f : ME) : MB := fun ρ as => (f ρ).bind fun x => (sto md x.2 x.1).bind fun d => if as.length < sizeLine then some (x.2, as ++ [d]) else none
def lpM (fg : MG) (ft : MT) (fb : MB) : List D -> MB
 | [], ρ, as => some (ρ, as)
 | d :: ds, ρ, as => (fg d ρ).bind fun ρ1 => (ft ρ1).bind fun y => if y.1 = true then (fb y.2 as).bind fun z => lpM fg ft fb ds z.1 z.2 else lpM fg ft fb ds y.2 as
def mIn (fi : MI) (lp : List D -> MB) : MB := fun ρ as => (fi ρ).bind fun y => lp y.1 y.2 as
theorem lb_emit {nt : Nat} {te : TE} {f : ME} (h : LE C md te f) : LB C md nt (tEmit te) (mEmit md f) := by
 intro A W ρ σ H acc as Q ρ' as' r ra e k
 unfold mEmit at e
 simp only [Option.bind_eq_some_iff] at e
 obtain ⟨⟨o, ρ1⟩, e1, d, e2, e3⟩ := e
 split at e3
 · rename_i hz
   cases e3
   refine h A W ρ σ H _ o _ r e1 fun v H1 x1 r1 p1 => ⟨by rw [ra.length]; exact hz, ?_⟩
   exact k σ H1 _ x1 r1 ((r.stayPL x1 ra).append (.cons (p1.sto r1 e2) .nil)) (Fix.refl _ _)
 · cases e3
theorem lb_lp {nt : Nat} {g : TG} {tt : TT} {tb : TB} {fg : MG} {ft : MT} {fb : MB} (hg : LG C md (fun j => nt <= j) g fg) (ht : LT C md tt ft) (hb : LB C md nt tb fb) {J : It} {A W : Addr -> Prop} {ds : List D} {H0 : Hp} (it : ItAt C A W J ds H0) :
   ∀ (ρ : En) (σ : L2.St) (acc : List V) (as : List D) (Q : L2.St -> Hp -> List V -> Prop) (ρ' : En) (as' : List D), R C md A W ρ σ H0 -> RepPL C.K H0 (fun a => ¬ A a) as acc -> lpM fg ft fb ds ρ as = some (ρ', as') ->
 (∀ σ' H' acc', Ext W H0 H' -> R C md A W ρ' σ' H' -> RepPL C.K H' (fun a => ¬ A a) as' acc' -> Fix (fun j => nt <= j) σ σ' -> Q σ' H' acc') -> lpW g tt tb J σ H0 acc Q := by
 intro ρ σ acc as Q ρ' as' r ra e k
 refine ⟨fun i m σ1 H1 acc1 => m = ds.length - i /\ i <= ds.length /\ ∃ ρ1 as1, Ext W H0 H1 /\ R C md A W ρ1 σ1 H1 /\ RepPL C.K H1 (fun a => ¬ A a) as1 acc1 /\ Fix (fun j => nt <= j) σ σ1 /\ lpM fg ft fb (ds.drop i) ρ1 as1 = some (ρ', as'),
   ⟨ds.length, by simp, Nat.zero_le _, ρ, as, Ext.refl _ _, r, ra, Fix.refl _ _, by simpa using e⟩, ?_⟩
 rintro i m σ1 H1 acc1 ⟨rfl, hi, ρ1, as1, x1, r1, ra1, f1, e1⟩
 obtain ⟨i1, i2⟩ := it A W H1 (Gr.ofExt x1) i
 by_cases hlt : i < ds.length
 · obtain ⟨go, yl⟩ := i1 ds[i] (by simp [hlt])
   rw [List.drop_eq_getElem_cons hlt] at e1
   unfold lpM at e1
   simp only [Option.bind_eq_some_iff] at e1
   obtain ⟨ρ2, e2, ⟨b, ρ3⟩, e3, e4⟩ := e1
   refine .inr ⟨go, fun σ' H' acc' => Ext W H0 H' /\ ∃ ρ4 as4, R C md A W ρ4 σ' H' /\ RepPL C.K H' (fun a => ¬ A a) as4 acc' /\ Fix (fun j => nt <= j) σ σ' /\ lpM fg ft fb (ds.drop (i + 1)) ρ4 as4 = some (ρ', as'), ?_, ?_⟩
   · rintro σ' H' acc' ⟨x, ρ4, as4, h1, h2, h3, h4⟩
     exact ⟨ds.length - (i + 1), by omega, rfl, hlt, ρ4, as4, x, h1, h2, h3, h4⟩
   · intro x H'' y
     obtain ⟨rfl, px⟩ := yl x H'' y
     refine hg A W ρ1 σ1 _ x ds[i] ρ2 _ r1 px e2 fun σ2 H2 x2 r2 f2 => ?_
     refine ht A W ρ2 σ2 H2 _ b ρ3 r2 e3 fun H3 x3 r3 => ?_
     have ra3 := r2.stayPL x3 (r1.stayPL x2 ra1)
     cases b with
     | true =>
       simp only [if_true, Option.bind_eq_some_iff] at e4
       obtain ⟨⟨ρ4, as4⟩, e5, e6⟩ := e4
       refine iteT (hb A W ρ3 σ2 H3 acc1 as1 _ ρ4 as4 r3 ra3 e5 fun σ4 H4 acc4 x4 r4 ra4 f4 => ?_)
       exact ⟨((x1.trans x2).trans x3).trans x4, ρ4, as4, r4, ra4, (f1.trans f2).trans f4, e6⟩
     | false =>
       simp only [Bool.false_eq_true, if_false] at e4
       exact iteF ⟨(x1.trans x2).trans x3, ρ3, as1, r3, ra3, f1.trans f2, e4⟩
 · have e0 : i = ds.length := by omega
   subst e0
   rw [List.drop_length] at e1
   cases e1
   exact .inl ⟨i2 (Nat.le_refl _), k σ1 H1 acc1 x1 r1 ra1 f1⟩
theorem lb_in {nt : Nat} {wi : TI} {g : TG} {tt : TT} {tb : TB} {fi : MI} {fg : MG} {ft : MT} {fb : MB} (hi : LI C md none wi fi) (hg : LG C md (fun j => nt <= j) g fg) (ht : LT C md tt ft) (hb : LB C md nt tb fb) :
   LB C md nt (tIn wi (lpW g tt tb)) (mIn fi (lpM fg ft fb)) := by
 intro A W ρ σ H acc as Q ρ' as' r ra e k
 unfold mIn at e
 simp only [Option.bind_eq_some_iff] at e
 obtain ⟨⟨ds, ρ1⟩, e1, e2⟩ := e
 refine hi A W ρ σ H _ ds ρ1 r e1 fun J H1 x1 r1 it => ?_
 exact lb_lp hg ht hb (it W (fun _ h => h) (fun _ _ _ z => by cases z)) ρ1 σ acc as Q ρ' as' r1 (r.stayPL x1 ra) e2 fun σ' H' acc' x r' ra' f' => k σ' H' acc' (x1.trans x) r' ra' f'
end
end Mir
namespace Mir
open PySem PySem.Spec PyProof.Rows L2
def inEn (nt : Nat) (ix : List Nat) (ρ : En) : En := List.replicate nt none ++ ix.map fun j => look ρ j
def inMd (md : List Md) (kp : List Nat) (j : Nat) : Md := match mode md j with
 | .pl => .pl
 | m => if kp.contains j then m else .lk
def mdIn (md : List Md) (nt : Nat) (ix kp : List Nat) : List Md := List.replicate nt .pl ++ ix.map (inMd md kp)
def wbk (kp : List Nat) (nt : Nat) (ix : List Nat) (ρI : En) : Nat -> En -> En
 | _, [] => []
 | j, x :: r => (if kp.contains j then look ρI (nt + ix.idxOf j) else x) :: wbk kp nt ix ρI (j + 1) r
def wb (kp : List Nat) (nt : Nat) (ix : List Nat) (ρI ρ : En) : En := if kp.isEmpty then ρ else wbk kp nt ix ρI 0 ρ
theorem look_rep : ∀ {nt k : Nat} {l : En}, look (List.replicate nt none ++ l) k = if k < nt then none else look l (k - nt)
 | 0, k, l => by simp
 | nt + 1, 0, l => by simp [List.replicate_succ, look]
 | nt + 1, k + 1, l => by
   rw [List.replicate_succ, List.cons_append, look, look_rep (nt := nt) (k := k)]
   by_cases h : k < nt
   · simp [h]
   · simp [h]
theorem look_map {f : Nat -> Option S} : ∀ {ix : List Nat} {n : Nat}, look (ix.map f) n = (ix[n]?).bind f
 | [], n => by simp [look]
 | j :: r, 0 => by simp [look]
 | j :: r, n + 1 => by simp only [List.map_cons, look, List.getElem?_cons_succ]; exact look_map
theorem mode_rep : ∀ {nt k : Nat} {l : List Md}, mode (List.replicate nt .pl ++ l) k = if k < nt then .pl else mode l (k - nt)
 | 0, k, l => by simp
 | nt + 1, 0, l => by simp [List.replicate_succ, mode]
 | nt + 1, k + 1, l => by
   rw [List.replicate_succ, List.cons_append, mode, mode_rep (nt := nt) (k := k)]
   by_cases h : k < nt
   · simp [h]
   · simp [h]
theorem mode_map {f : Nat -> Md} : ∀ {ix : List Nat} {n : Nat}, mode (ix.map f) n = ((ix[n]?).map f).getD .pl
 | [], n => by simp [mode]
 | j :: r, 0 => by simp [mode]
 | j :: r, n + 1 => by simp only [List.map_cons, mode, List.getElem?_cons_succ]; exact mode_map
theorem in_some {nt : Nat} {ix : List Nat} {ρ : En} {k : Nat} {s : S} (h : look (inEn nt ix ρ) k = some s) : nt <= k /\ ∃ j, ix[k - nt]? = some j /\ look ρ j = some s := by
 unfold inEn at h
 rw [look_rep] at h
 split at h
 · cases h
 · rename_i hk
   rw [look_map, Option.bind_eq_some_iff] at h
   exact ⟨by omega, h⟩
theorem cst_get {nt : Nat} {ix : List Nat} {σ : L2.St} {k j : Nat} (hk : nt <= k) (h : ix[k - nt]? = some j) : (cst nt ix σ)[k]? = some (σ.getD j none) := by
 unfold cst
 rw [List.getElem?_append_right (by simpa using hk), List.length_replicate, List.getElem?_map, h]
 rfl
theorem mdIn_get {md : List Md} {nt : Nat} {ix kp : List Nat} {k j : Nat} (hk : nt <= k) (h : ix[k - nt]? = some j) : mode (mdIn md nt ix kp) k = inMd md kp j := by
 unfold mdIn
 rw [mode_rep, if_neg (by omega), mode_map, h]
 rfl
theorem getD_some {σ : L2.St} {j : Nat} {v : V} : σ.getD j none = some v ↔ σ[j]? = some (some v) := by
 rw [List.getD_eq_getElem?_getD]
 cases e : σ[j]? with
 | none => simp
 | some x => simp
theorem nodup_get : ∀ {ix : List Nat} (hx : ix.Nodup) {a b j : Nat} (h1 : ix[a]? = some j) (h2 : ix[b]? = some j), a = b
 | [], hx, a, b, j, h1, h2 => by simp at h1
 | x :: r, hx, 0, 0, j, h1, h2 => rfl
 | x :: r, hx, 0, b + 1, j, h1, h2 => by
   simp at h1 h2; subst h1
   exact absurd (List.mem_of_getElem? h2) (List.nodup_cons.mp hx).1
 | x :: r, hx, a + 1, 0, j, h1, h2 => by
   simp at h1 h2; subst h2
   exact absurd (List.mem_of_getElem? h1) (List.nodup_cons.mp hx).1
 | x :: r, hx, a + 1, b + 1, j, h1, h2 => by
   simp at h1 h2
   rw [nodup_get (List.nodup_cons.mp hx).2 h1 h2]
theorem look_wbk {kp : List Nat} {nt : Nat} {ix : List Nat} {ρI : En} : ∀ {ρ : En} {j0 j : Nat}, look (wbk kp nt ix ρI j0 ρ) j = if j < ρ.length /\ kp.contains (j0 + j) = true then look ρI (nt + ix.idxOf (j0 + j)) else look ρ j
 | [], j0, j => by simp [wbk, look]
 | x :: r, j0, 0 => by
   simp only [wbk, look, Nat.add_zero, List.length_cons]
   by_cases h : kp.contains j0 = true
   · rw [if_pos h, if_pos ⟨by omega, h⟩]
   · rw [if_neg h, if_neg (fun z => h z.2)]
 | x :: r, j0, j + 1 => by
   simp only [wbk, look]
   rw [look_wbk (ρ := r) (j0 := j0 + 1) (j := j), show j0 + 1 + j = j0 + (j + 1) by omega]
   simp only [List.length_cons, Nat.add_lt_add_iff_right]
theorem look_wb {kp : List Nat} {nt : Nat} {ix : List Nat} {ρI ρ : En} {j : Nat} : look (wb kp nt ix ρI ρ) j = if j < ρ.length /\ j ∈ kp then look ρI (nt + ix.idxOf j) else look ρ j := by
 unfold wb
 cases kp with
 | nil => simp
 | cons a r =>
   rw [if_neg (by simp), look_wbk]
   simp only [Nat.zero_add, List.contains_iff_mem]
theorem len_wb {kp : List Nat} {nt : Nat} {ix : List Nat} {ρI ρ : En} : (wb kp nt ix ρI ρ).length = ρ.length := by
 have go : ∀ (ρ : En) j, (wbk kp nt ix ρI j ρ).length = ρ.length := by
   intro ρ
   induction ρ with
   | nil => intro j; rfl
   | cons x r ih => intro j; simp [wbk, ih]
 unfold wb
 split
 · rfl
 · exact go _ _
section
variable {C : Cn} {md : List Md} {A W : Addr -> Prop} {ρ : En} {σ : L2.St} {H : Hp} {nt : Nat} {ix kp : List Nat}
def WI (md : List Md) (kp : List Nat) (ρ : En) (σ : L2.St) (W : Addr -> Prop) (a : Addr) : Prop := W a /\ ∃ j s, j ∈ kp /\ mode md j ≠ .pl /\ look ρ j = some s /\ isM s = true /\ σ[j]? = some (some (.ref a))
theorem Cell.okMono {K : PySem.W.Frag} {ok ok' okq okq' : Addr -> Prop} {s : S} {v : V} (h : Cell K A H ok okq s v) (m : ∀ a, isM s = true -> v = .ref a -> ok a -> ok' a) (mq : ∀ a, okq a -> okq' a) : Cell K A H ok' okq' s v := by
 match s, h with
 | .d (.lst l), h =>
   obtain ⟨a, xs, e, h1, h2, h3, h4⟩ := h
   exact ⟨a, xs, e, h1, h2, m a rfl e h3, h4⟩
 | .pot ns i r m', h =>
   obtain ⟨p, q, e, h1, h2, h3, h4, h5, h6⟩ := h
   exact ⟨p, q, e, h1, h2, h3, m p rfl e h4, h5, mq q h6⟩
 | .d .non, h => exact h
 | .d (.bl _), h => exact h
 | .d (.int _), h => exact h
 | .d (.str _), h => exact h
 | .d (.tup _), h => exact h
 | .dc _, h => exact h.elim
 | .scr _, h => exact h.elim
theorem R.notWI (r : R C md A W ρ σ H) {j : Nat} {s : S} {a : Addr} (hk : j ∉ kp) (hm : mode md j ≠ .pl) (e : look ρ j = some s) (i : isM s = true) (ev : σ[j]? = some (some (.ref a))) : ¬ WI md kp ρ σ W a := by
 rintro ⟨_, j', s', k', m', e', i', v'⟩
 exact r.inj j j' s s' a (fun z => hk (by rw [z]; exact k')) hm m' e e' i i' ev v'
theorem R.inner (r : R C md A W ρ σ H) (hx : ix.Nodup) : R C (mdIn md nt ix kp) A (WI md kp ρ σ W) (inEn nt ix ρ) (cst nt ix σ) H where
 len := by simp [cst, inEn]
 wa := fun a h => r.wa a h.1
 ak := r.ak
 base := r.base
 wf := fun a h => r.wf a h.1
 ma := r.ma
 fo := r.fo
 slot := fun k s e => by
   obtain ⟨hk, j, e1, e2⟩ := in_some e
   obtain ⟨v, ev, c⟩ := r.slot j s e2
   refine ⟨v, by rw [cst_get hk e1, getD_some.mpr ev], ?_⟩
   rw [mdIn_get hk e1]
   unfold inMd
   cases em : mode md j with
   | pl =>
     rw [em] at c
     match s, c with
     | .d x, c => exact c
     | .scr ns, c => exact c
   | ow =>
     rw [em] at c
     dsimp only
     split
     · rename_i hc
       refine Cell.okMono c (fun a i z o => ⟨⟨o.1, j, s, by simpa using hc, by rw [em]; simp, e2, i, by rw [ev, z]⟩, o.2⟩) (fun _ h => h)
     · rename_i hc
       exact Cell.okMono c (fun a i z o => r.notWI (by simpa using hc) (by rw [em]; simp) e2 i (by rw [ev, z])) (fun _ h => h)
   | lk =>
     rw [em] at c
     dsimp only
     have z : Cell C.K A H (fun a => ¬ WI md kp ρ σ W a) (fun _ => True) s v := Cell.okMono c (fun a i z o w => o w.1) (fun _ h => h)
     split <;> exact z
   | io =>
     rw [em] at c
     dsimp only
     split
     · rename_i hc
       refine Cell.okMono c (fun a i z o => ⟨⟨o.1, j, s, by simpa using hc, by rw [em]; simp, e2, i, by rw [ev, z]⟩, o.2⟩) (fun _ h => h)
     · rename_i hc
       exact Cell.okMono c (fun a i z o => r.notWI (by simpa using hc) (by rw [em]; simp) e2 i (by rw [ev, z])) (fun _ _ => trivial)
 inj := fun k1 k2 s s' a hne m1 m2 e1 e2 i1 i2 l1 l2 => by
   obtain ⟨hk1, j1, f1, g1⟩ := in_some e1
   obtain ⟨hk2, j2, f2, g2⟩ := in_some e2
   rw [mdIn_get hk1 f1] at m1
   rw [mdIn_get hk2 f2] at m2
   rw [cst_get hk1 f1] at l1
   rw [cst_get hk2 f2] at l2
   have n1 : mode md j1 ≠ .pl := fun z => m1 (by unfold inMd; rw [z])
   have n2 : mode md j2 ≠ .pl := fun z => m2 (by unfold inMd; rw [z])
   refine r.inj j1 j2 s s' a (fun z => hne ?_) n1 n2 g1 g2 i1 i2 (getD_some.mp (Option.some.inj l1)) (getD_some.mp (Option.some.inj l2))
   subst z
   have := nodup_get hx f1 f2
   omega
theorem Ext.mono {W W' : Addr -> Prop} {H H' : Hp} (e : Ext W H H') (m : ∀ a, W a -> W' a) : Ext W' H H' := fun b o n h => e b o (fun w => n (m b w)) h
theorem idx_get {ix : List Nat} {j : Nat} (h : j ∈ ix) : ix[ix.idxOf j]? = some j := by
 have hl := List.idxOf_lt_length_of_mem h
 rw [List.getElem?_eq_getElem hl]
 congr 1
 exact List.getElem_idxOf hl
theorem R.outer {ρI : En} {σI : L2.St} {H' : Hp} (r : R C md A W ρ σ H) (hx : ix.Nodup) (hk : ∀ j ∈ kp, j ∈ ix /\ (mode md j = .ow ∨ mode md j = .io)) (r' : R C (mdIn md nt ix kp) A (WI md kp ρ σ W) ρI σI H') (x : Ext (WI md kp ρ σ W) H H')
   (f : Fix (fun j => nt <= j) (cst nt ix σ) σI) : R C md A W (wb kp nt ix ρI ρ) σ H' := by
 have xw : Ext W H H' := x.mono fun a h => h.1
 have kept : ∀ j s, j ∈ kp -> look ρI (nt + ix.idxOf j) = some s -> ∃ v, σ[j]? = some (some v) /\ SlotAt C A (WI md kp ρ σ W) H' s v (mode md j) := fun j s hj e => by
   obtain ⟨hi, hm⟩ := hk j hj
   obtain ⟨v, ev, c⟩ := r'.slot _ s e
   have e1 : ix[nt + ix.idxOf j - nt]? = some j := by rw [Nat.add_sub_cancel_left]; exact idx_get hi
   rw [mdIn_get (Nat.le_add_right _ _) e1] at c
   have em : inMd md kp j = mode md j := by
     unfold inMd
     rcases hm with hm | hm <;> (rw [hm]; simp [hj])
   rw [em] at c
   rw [f _ (Nat.le_add_right _ _), cst_get (Nat.le_add_right _ _) e1] at ev
   exact ⟨v, getD_some.mp (Option.some.inj ev), c⟩
 exact {
   len := by rw [len_wb]; exact r.len
   wa := r.wa
   ak := r'.ak
   base := r'.base
   wf := r.wf
   ma := r.ma
   fo := r.fo
   slot := fun j s e => by
     rw [look_wb] at e
     split at e
     · rename_i hj
       obtain ⟨v, ev, c⟩ := kept j s hj.2 e
       refine ⟨v, ev, ?_⟩
       rcases (hk j hj.2).2 with hm | hm
       · rw [hm] at c ⊢
         exact Cell.okMono c (fun a _ _ o => ⟨o.1.1, o.2⟩) (fun _ h => h)
       · rw [hm] at c ⊢
         exact Cell.okMono c (fun a _ _ o => ⟨o.1.1, o.2⟩) (fun _ h => h)
     · rename_i hj
       have hj' : j ∉ kp := fun z => hj ⟨look_lt e, z⟩
       obtain ⟨v, ev, c⟩ := r.slot j s e
       refine ⟨v, ev, ?_⟩
       have cell : ∀ ok okq : Addr -> Prop, mode md j ≠ .pl -> Cell C.K A H ok okq s v -> Cell C.K A H' ok okq s v := fun ok okq mj c => by
         match s, e, c with
         | .d (.lst l), e, c =>
           obtain ⟨a, xs, rfl, h1, h2, h3, h4⟩ := c
           exact ⟨a, xs, rfl, x a _ (r.notWI hj' mj e rfl ev) h1, h2, h3, r.stayPL xw h4⟩
         | .pot ns i r' m', e, c =>
           obtain ⟨p, q, rfl, h1, h2, h3, h4, h5, h6⟩ := c
           exact ⟨p, q, rfl, x p _ (r.notWI hj' mj e rfl ev) h1, x q _ (fun w => h5 (r.wa q w.1)) h2, h3, h4, h5, h6⟩
         | .d .non, e, c => exact r.stayP xw c
         | .d (.bl _), e, c => exact r.stayP xw c
         | .d (.int _), e, c => exact r.stayP xw c
         | .d (.str _), e, c => exact r.stayP xw c
         | .d (.tup _), e, c => exact r.stayP xw c
         | .dc _, e, c => exact c.elim
         | .scr _, e, c => exact c.elim
       cases em : mode md j with
       | pl =>
         rw [em] at c
         match s, c with
         | .d y, c => exact r.stayP xw c
         | .scr ns, c => obtain ⟨a, z, c⟩ := c; exact ⟨a, z, c.ext xw r.wk⟩
       | ow => rw [em] at c; exact cell _ _ (by rw [em]; simp) c
       | lk => rw [em] at c; exact cell _ _ (by rw [em]; simp) c
       | io => rw [em] at c; exact cell _ _ (by rw [em]; simp) c
   inj := fun j1 j2 s s' a hne m1 m2 e1 e2 i1 i2 l1 l2 => by
     rw [look_wb] at e1 e2
     have back : ∀ j s, j ∈ kp -> look ρI (nt + ix.idxOf j) = some s -> isM s = true -> σ[j]? = some (some (.ref a)) -> WI md kp ρ σ W a := fun j s hj e i l => by
       obtain ⟨v, ev, c⟩ := kept j s hj e
       rw [l] at ev; cases ev
       rcases (hk j hj).2 with hm | hm <;> (rw [hm] at c; exact (Cell.at i c).2.2.1)
     by_cases c1 : j1 < ρ.length /\ j1 ∈ kp
     · rw [if_pos c1] at e1
       by_cases c2 : j2 < ρ.length /\ j2 ∈ kp
       · rw [if_pos c2] at e2
         have g1 : ix[nt + ix.idxOf j1 - nt]? = some j1 := by rw [Nat.add_sub_cancel_left]; exact idx_get (hk j1 c1.2).1
         have g2 : ix[nt + ix.idxOf j2 - nt]? = some j2 := by rw [Nat.add_sub_cancel_left]; exact idx_get (hk j2 c2.2).1
         have em : ∀ j ∈ kp, inMd md kp j ≠ .pl := fun j hj => by
           unfold inMd
           rcases (hk j hj).2 with hm | hm <;> (rw [hm]; simp [hj])
         refine r'.inj _ _ s s' a (fun z => hne ?_) (by rw [mdIn_get (Nat.le_add_right _ _) g1]; exact em j1 c1.2) (by rw [mdIn_get (Nat.le_add_right _ _) g2]; exact em j2 c2.2) e1 e2 i1 i2
           (by rw [f _ (Nat.le_add_right _ _), cst_get (Nat.le_add_right _ _) g1, getD_some.mpr l1]) (by rw [f _ (Nat.le_add_right _ _), cst_get (Nat.le_add_right _ _) g2, getD_some.mpr l2])
         rw [z] at g1
         exact Option.some.inj (g1.symm.trans g2)
       · rw [if_neg c2] at e2
         exact r.notWI (fun z => c2 ⟨look_lt e2, z⟩) m2 e2 i2 l2 (back j1 s c1.2 e1 i1 l1)
     · rw [if_neg c1] at e1
       by_cases c2 : j2 < ρ.length /\ j2 ∈ kp
       · rw [if_pos c2] at e2
         exact r.notWI (fun z => c1 ⟨look_lt e1, z⟩) m1 e1 i1 l1 (back j2 s' c2.2 e2 i2 l2)
       · rw [if_neg c2] at e2
         exact r.inj j1 j2 s s' a hne m1 m2 e1 e2 i1 i2 l1 l2 }
def mnComp (nt : Nat) (ix kp : List Nat) (fi : MI) (lp : List D -> MB) : MN := fun ρ => (fi ρ).bind fun y => (lp y.1 (inEn nt ix y.2) []).bind fun z => some (.d (.lst z.2), wb kp nt ix z.1 y.2)
def mComp (nt : Nat) (ix kp : List Nat) (fi : MI) (lp : List D -> MB) : ME := fun ρ => (fi ρ).bind fun y => (lp y.1 (inEn nt ix y.2) []).bind fun z => some (.val (.lst z.2), wb kp nt ix z.1 y.2)
theorem ln_comp {lj : Option Nat} {wi : TI} {g : TG} {tt : TT} {tb : TB} {fi : MI} {fg : MG} {ft : MT} {fb : MB} (hx : ix.Nodup) (hk : ∀ j ∈ kp, j ∈ ix /\ (mode md j = .ow ∨ mode md j = .io)) (hl : ∀ j, lj = some j -> j ∉ kp)
   (hi : LI C md lj wi fi) (hg : LG C (mdIn md nt ix kp) (fun j => nt <= j) g fg) (ht : LT C (mdIn md nt ix kp) tt ft) (hb : LB C (mdIn md nt ix kp) nt tb fb) : LN C md (tComp nt ix wi (lpW g tt tb)) (mnComp nt ix kp fi (lpM fg ft fb)) := by
 intro A W ρ σ H Q s ρ' r e k
 unfold mnComp at e
 simp only [Option.bind_eq_some_iff] at e
 obtain ⟨⟨ds, ρ1⟩, e1, ⟨ρ2, as⟩, e2, e3⟩ := e
 cases e3
 refine hi A W ρ σ H _ ds ρ1 r e1 fun J H1 x1 r1 it => ?_
 refine lb_lp hg ht hb (it (WI md kp ρ1 σ W) (fun a h => h.1) fun j a s' z mj ej ij lj' => r1.notWI (hl j z) mj ej ij lj') (inEn nt ix ρ1) (cst nt ix σ) [] [] _ ρ2 as (r1.inner hx) .nil e2 fun σ2 H2 acc x2 r2 ra f2 => ?_
 have r3 := r1.outer hx hk r2 x2 f2
 intro l hl2
 have s1 := new_same (o := .lst acc) hl2
 exact k l H2 _ (x1.trans (x2.mono fun a h => h.1)) r3 hl2 s1 ⟨acc, upd_same, (ra.apart hl2).same s1⟩
theorem le_ofLN {t : TE} {f : MN} {g : ME} (h : LN C md t f) (hf : ∀ ρ o ρ', g ρ = some (o, ρ') -> ∃ l, o = .val (.lst l) /\ f ρ = some (.d (.lst l), ρ')) : LE C md t g := by
 intro A W ρ σ H Q o ρ' r e k
 obtain ⟨l, rfl, e'⟩ := hf ρ o ρ' e
 refine h A W ρ σ H Q _ ρ' r e' fun a H1 H2 x1 r1 ha s1 n => ?_
 obtain ⟨xs, h1, h2⟩ := n
 refine k _ H2 (x1.trans (Same.ext s1)) (r1.same s1) ?_
 show RepP _ _ _ (.lst l) _
 rw [RepP]
 exact ⟨a, xs, rfl, h1, r1.fresh ha, h2.mono fun _ _ o _ => o.1⟩
theorem le_comp {lj : Option Nat} {wi : TI} {g : TG} {tt : TT} {tb : TB} {fi : MI} {fg : MG} {ft : MT} {fb : MB} (hx : ix.Nodup) (hk : ∀ j ∈ kp, j ∈ ix /\ (mode md j = .ow ∨ mode md j = .io)) (hl : ∀ j, lj = some j -> j ∉ kp)
   (hi : LI C md lj wi fi) (hg : LG C (mdIn md nt ix kp) (fun j => nt <= j) g fg) (ht : LT C (mdIn md nt ix kp) tt ft) (hb : LB C (mdIn md nt ix kp) nt tb fb) : LE C md (tComp nt ix wi (lpW g tt tb)) (mComp nt ix kp fi (lpM fg ft fb)) := by
 refine le_ofLN (ln_comp hx hk hl hi hg ht hb) fun ρ o ρ' e => ?_
 unfold mComp at e
 unfold mnComp
 simp only [Option.bind_eq_some_iff] at e ⊢
 obtain ⟨y, e1, z, e2, e3⟩ := e
 cases e3
 exact ⟨z.2, rfl, y, e1, z, e2, rfl⟩
end
end Mir
namespace Mir
open PySem PySem.Spec PyProof.Rows L2
def forM (fg : MG) (fb : MS) : List D -> En -> Option (Fl × En)
 | [], ρ => some (.nx, ρ)
 | d :: ds, ρ => (fg d ρ).bind fun ρ1 => (fb ρ1).bind fun x => match x.1 with
   | .nx => forM fg fb ds x.2
   | .ct => forM fg fb ds x.2
   | .brk => some (.nx, x.2)
   | .ret s => some (.ret s, x.2)
def mFor (fi : MI) (fg : MG) (fb : MS) : MS := fun ρ => (fi ρ).bind fun y => forM fg fb y.1 y.2
def mForL (j : Nat) (fg : MG) (fb : MS) : MS := fun ρ => (lstS (look ρ j)).bind fun l => (forM fg fb l ρ).bind fun x => (lstS (look x.2 j)).bind fun _ => some x
def whM (fc : MT) (fb : MS) : Nat -> En -> Option (Fl × En)
 | 0, _ => none
 | n + 1, ρ => (fc ρ).bind fun x => if x.1 = true then (fb x.2).bind fun y => (match y.1 with
   | .nx => whM fc fb n y.2
   | .ct => whM fc fb n y.2
   | .brk => some (.nx, y.2)
   | .ret s => some (.ret s, y.2)) else some (.nx, x.2)
def mWhile (n : Nat) (fc : MT) (fb : MS) : MS := whM fc fb n
section
variable {C : Cn} {md : List Md}
theorem for_run {g : TG} {tb : TS} {fg : MG} {fb : MS} (hg : LG C md (held md) g fg) (hb : LS C md tb fb) {J : It} {A W : Addr -> Prop} {ds : List D} {H0 : Hp} (it : ItAt C A W J ds H0) (ρ : En) (σ : L2.St) (D : Ends) (fl : Fl) (ρ' : En) (r : R C md A W ρ σ H0)
   (e : forM fg fb ds ρ = some (fl, ρ')) (k : EndAt C md A W σ H0 D ρ' fl) : ∃ W : Nat -> Nat -> L2.St -> Hp -> Prop, (∃ m, W 0 m σ H0) /\ ∀ i m σ H, W i m σ H ->
 (J.stop i H /\ D.nx σ H) ∨ (J.go i H /\ ∃ N : L2.St -> Hp -> Prop, (∀ σ' H', N σ' H' -> ∃ m', m' < m /\ W (i + 1) m' σ' H') /\ ∀ x H', J.yld i H x H' -> g x σ H' fun σ2 H2 => tb { D with nx := N, ct := N, bk := D.nx } σ2 H2) := by
 refine ⟨fun i m σ1 H1 => m = ds.length - i /\ i <= ds.length /\ ∃ A1 W1 ρ1, Gr A W H0 A1 W1 H1 /\ R C md A1 W1 ρ1 σ1 H1 /\ Fix (held md) σ σ1 /\ forM fg fb (ds.drop i) ρ1 = some (fl, ρ'),
   ⟨ds.length, by simp, Nat.zero_le _, A, W, ρ, Gr.refl _ _ _, r, Fix.refl _ _, by simpa using e⟩, ?_⟩
 rintro i m σ1 H1 ⟨rfl, hi, A1, W1, ρ1, g1, r1, f1, e1⟩
 obtain ⟨i1, i2⟩ := it A1 W1 H1 g1 i
 by_cases hlt : i < ds.length
 · obtain ⟨go, yl⟩ := i1 ds[i] (by simp [hlt])
   rw [List.drop_eq_getElem_cons hlt] at e1
   unfold forM at e1
   simp only [Option.bind_eq_some_iff] at e1
   obtain ⟨ρ2, e2, ⟨fl3, ρ3⟩, e3, e4⟩ := e1
   refine .inr ⟨go, fun σ' H' => ∃ A1 W1 ρ4, Gr A W H0 A1 W1 H' /\ R C md A1 W1 ρ4 σ' H' /\ Fix (held md) σ σ' /\ forM fg fb (ds.drop (i + 1)) ρ4 = some (fl, ρ'), ?_, ?_⟩
   · rintro σ' H' ⟨A4, W4, ρ4, h1, h2, h3, h4⟩
     exact ⟨ds.length - (i + 1), by omega, rfl, hlt, A4, W4, ρ4, h1, h2, h3, h4⟩
   · intro x H'' y
     obtain ⟨rfl, px⟩ := yl x H'' y
     refine hg A1 W1 ρ1 σ1 _ x ds[i] ρ2 _ r1 px e2 fun σ2 H2 x2 r2 f2 => ?_
     refine hb A1 W1 ρ2 σ2 H2 _ fl3 ρ3 r2 e3 ?_
     have gg : ∀ {A3 W3 : Addr -> Prop} {H3 : Hp} {ρ3 : En} {σ3 : L2.St}, Gr A1 W1 H2 A3 W3 H3 -> R C md A3 W3 ρ3 σ3 H3 -> Gr A W H0 A3 W3 H3 := fun g3 r3 => by
       have ga : Gr A1 W1 _ _ _ _ := (Gr.ofExt x2).trans r1.wa (fun a w => r2.ak a (r1.wa a w)) g3
       exact g1.trans r.wa (fun a w => r1.ak a (g1.aa a (r.wa a w))) ga
     cases fl3 with
     | nx => exact fun A3 W3 σ3 H3 g3 r3 f3 => ⟨A3, W3, ρ3, gg g3 r3, r3, (f1.trans f2).trans f3, e4⟩
     | ct => exact fun A3 W3 σ3 H3 g3 r3 f3 => ⟨A3, W3, ρ3, gg g3 r3, r3, (f1.trans f2).trans f3, e4⟩
     | brk => cases e4; exact fun A3 W3 σ3 H3 g3 r3 f3 => k A3 W3 σ3 H3 (gg g3 r3) r3 ((f1.trans f2).trans f3)
     | ret s => cases e4; exact fun A3 W3 σ3 v H3 g3 r3 f3 z => k A3 W3 σ3 v H3 (gg g3 r3) r3 ((f1.trans f2).trans f3) z
 · have e0 : i = ds.length := by omega
   subst e0
   rw [List.drop_length] at e1
   cases e1
   exact .inl ⟨i2 (Nat.le_refl _), k A1 W1 σ1 H1 g1 r1 f1⟩
theorem ls_for {wi : TI} {g : TG} {tb : TS} {fi : MI} {fg : MG} {fb : MS} (hi : LI C md none wi fi) (hg : LG C md (held md) g fg) (hb : LS C md tb fb) : LS C md (tFor wi g tb) (mFor fi fg fb) := by
 intro A W ρ σ H D fl ρ' r e k
 unfold mFor at e
 simp only [Option.bind_eq_some_iff] at e
 obtain ⟨⟨ds, ρ1⟩, e1, e2⟩ := e
 refine hi A W ρ σ H _ ds ρ1 r e1 fun J H1 x1 r1 it => ?_
 exact for_run hg hb (it W (fun _ h => h) (fun _ _ _ z => by cases z)) ρ1 σ D fl ρ' r1 e2 (EndAt.then r (Gr.ofExt x1) r1 (Fix.refl _ _) k)
theorem ls_while {c : TT} {tb : TS} {fc : MT} {fb : MS} (n : Nat) (hc : LT C md c fc) (hb : LS C md tb fb) : LS C md (tWhile c tb) (mWhile n fc fb) := by
 intro A W ρ σ H D fl ρ' r e k
 unfold mWhile at e
 refine ⟨fun m σ1 H1 => ∃ A1 W1 ρ1, Gr A W H A1 W1 H1 /\ R C md A1 W1 ρ1 σ1 H1 /\ Fix (held md) σ σ1 /\ whM fc fb m ρ1 = some (fl, ρ'), ⟨n, A, W, ρ, Gr.refl _ _ _, r, Fix.refl _ _, e⟩, ?_⟩
 rintro m σ1 H1 ⟨A1, W1, ρ1, g1, r1, f1, e1⟩
 cases m with
 | zero => cases e1
 | succ m =>
   unfold whM at e1
   simp only [Option.bind_eq_some_iff] at e1
   obtain ⟨⟨b, ρ2⟩, e2, e3⟩ := e1
   refine hc A1 W1 ρ1 σ1 H1 _ b ρ2 r1 e2 fun H2 x2 r2 => ?_
   have gg : ∀ {A3 W3 : Addr -> Prop} {H3 : Hp} {ρ3 : En} {σ3 : L2.St}, Gr A1 W1 H2 A3 W3 H3 -> R C md A3 W3 ρ3 σ3 H3 -> Gr A W H A3 W3 H3 := fun g3 r3 => by
     have ga : Gr A1 W1 _ _ _ _ := (Gr.ofExt x2).trans r1.wa (fun a w => r2.ak a (r1.wa a w)) g3
     exact g1.trans r.wa (fun a w => r1.ak a (g1.aa a (r.wa a w))) ga
   cases b with
   | false =>
     simp only [Bool.false_eq_true, if_false] at e3
     cases e3
     exact iteF (k A1 W1 σ1 H2 (gg (Gr.refl _ _ _) r2) r2 f1)
   | true =>
     simp only [if_true, Option.bind_eq_some_iff] at e3
     obtain ⟨⟨fl3, ρ3⟩, e4, e5⟩ := e3
     refine iteT ⟨fun σ' H' => ∃ A3 W3 ρ4, Gr A W H A3 W3 H' /\ R C md A3 W3 ρ4 σ' H' /\ Fix (held md) σ σ' /\ whM fc fb m ρ4 = some (fl, ρ'), ?_, ?_⟩
     · rintro σ' H' h
       exact ⟨m, Nat.lt_succ_self m, h⟩
     · refine hb A1 W1 ρ2 σ1 H2 _ fl3 ρ3 r2 e4 ?_
       cases fl3 with
       | nx => exact fun A3 W3 σ3 H3 g3 r3 f3 => ⟨A3, W3, ρ3, gg g3 r3, r3, f1.trans f3, e5⟩
       | ct => exact fun A3 W3 σ3 H3 g3 r3 f3 => ⟨A3, W3, ρ3, gg g3 r3, r3, f1.trans f3, e5⟩
       | brk => cases e5; exact fun A3 W3 σ3 H3 g3 r3 f3 => k A3 W3 σ3 H3 (gg g3 r3) r3 (f1.trans f3)
       | ret s => cases e5; exact fun A3 W3 σ3 v H3 g3 r3 f3 z => k A3 W3 σ3 v H3 (gg g3 r3) r3 (f1.trans f3) z
theorem mode_set_eq : ∀ {md : List Md} {j : Nat} {m : Md}, mode md j ≠ .pl -> mode (md.set j m) j = m
 | [], j, m, h => absurd rfl h
 | x :: r, 0, m, h => rfl
 | x :: r, j + 1, m, h => mode_set_eq (md := r) h
theorem mode_set_ne : ∀ {md : List Md} {j i : Nat} {m : Md}, j ≠ i -> mode (md.set j m) i = mode md i
 | [], j, i, m, h => rfl
 | x :: r, 0, 0, m, h => absurd rfl h
 | x :: r, 0, i + 1, m, h => rfl
 | x :: r, j + 1, 0, m, h => rfl
 | x :: r, j + 1, i + 1, m, h => mode_set_ne (md := r) fun z => h (by rw [z])
theorem R.lock {A W : Addr -> Prop} {ρ : En} {σ : L2.St} {H : Hp} (r : R C md A W ρ σ H) {j : Nat} (hm : mode md j = .ow) {s : S} {a : Addr} (e : look ρ j = some s) (is : isM s = true) (ev : σ[j]? = some (some (.ref a))) : R C (md.set j .lk) A (fun b => W b /\ b ≠ a) ρ σ H where
 len := r.len
 wa := fun b h => r.wa b h.1
 ak := r.ak
 base := r.base
 wf := fun b h => r.wf b h.1
 ma := r.ma
 fo := r.fo
 slot := fun i t ei => by
   obtain ⟨v, ev', c⟩ := r.slot i t ei
   refine ⟨v, ev', ?_⟩
   by_cases hij : j = i
   · subst hij
     rw [mode_set_eq (by rw [hm]; simp)]
     rw [hm] at c
     rw [e] at ei; cases ei
     rw [ev] at ev'; cases ev'
     exact Cell.okMono c (fun b _ z _ w => w.2 (by cases z; rfl)) (fun _ h => h)
   · rw [mode_set_ne hij]
     have na : ∀ b, mode md i ≠ .pl -> isM t = true -> v = .ref b -> b ≠ a := fun b mi it z y => by
       subst z; subst y
       exact r.inj j i s t b hij (by rw [hm]; simp) mi e ei is it ev ev'
     cases em : mode md i with
     | pl =>
       rw [em] at c
       match t, c with
       | .d x, c => exact c
       | .scr ns, c => exact c
     | ow => rw [em] at c; exact Cell.okMono c (fun b it z o => ⟨⟨o.1, na b (by rw [em]; simp) it z⟩, o.2⟩) (fun _ h => h)
     | lk => rw [em] at c; exact Cell.okMono c (fun b it z o w => o w.1) (fun _ h => h)
     | io => rw [em] at c; exact Cell.okMono c (fun b it z o => ⟨⟨o.1, na b (by rw [em]; simp) it z⟩, o.2⟩) (fun _ h => h)
 inj := fun i k s s' b hne m1 m2 e1 e2 i1 i2 l1 l2 => by
   have f : ∀ i, mode (md.set j .lk) i ≠ .pl -> mode md i ≠ .pl := fun i h => by
     by_cases hij : j = i
     · subst hij; rw [hm]; simp
     · rw [mode_set_ne hij] at h; exact h
   exact r.inj i k s s' b hne (f i m1) (f k m2) e1 e2 i1 i2 l1 l2
theorem R.unlock {A W : Addr -> Prop} {ρ : En} {σ : L2.St} {H : Hp} {j : Nat} (r : R C (md.set j .lk) A W ρ σ H) (hm : mode md j = .ow) {s : S} {a : Addr} (e : look ρ j = some s) (is : isM s = true) (ev : σ[j]? = some (some (.ref a))) (h0 : C.H0 a = none) :
   R C md A (fun b => W b ∨ b = a) ρ σ H where
 len := r.len
 wa := fun b h => by
   rcases h with h | h
   · exact r.wa b h
   · obtain ⟨v, ev', c⟩ := r.slot j s e
     rw [ev] at ev'; cases ev'
     rw [mode_set_eq (by rw [hm]; simp)] at c
     rw [h]; exact (Cell.at is c).2.1
 ak := r.ak
 base := r.base
 wf := fun b h => by
   rcases h with h | h
   · exact r.wf b h
   · rw [h]; exact .inl h0
 ma := r.ma
 fo := r.fo
 slot := fun i t ei => by
   obtain ⟨v, ev', c⟩ := r.slot i t ei
   refine ⟨v, ev', ?_⟩
   by_cases hij : j = i
   · subst hij
     rw [mode_set_eq (by rw [hm]; simp)] at c
     rw [hm]
     rw [e] at ei; cases ei
     rw [ev] at ev'; cases ev'
     exact Cell.okMono c (fun b _ z _ => by cases z; exact ⟨.inr rfl, h0⟩) (fun _ h => h)
   · rw [mode_set_ne hij] at c
     have na : ∀ b, mode md i ≠ .pl -> isM t = true -> v = .ref b -> b ≠ a := fun b mi it z y => by
       subst z; subst y
       exact r.inj j i s t b hij (by rw [mode_set_eq (by rw [hm]; simp)]; simp) (by rw [mode_set_ne hij]; exact mi) e ei is it ev ev'
     cases em : mode md i with
     | pl =>
       rw [em] at c
       match t, c with
       | .d x, c => exact c
       | .scr ns, c => exact c
     | ow => rw [em] at c; exact Cell.okMono c (fun b it z o => ⟨.inl o.1, o.2⟩) (fun _ h => h)
     | lk => rw [em] at c; exact Cell.okMono c (fun b it z o w => by rcases w with w | w; exact o w; exact na b (by rw [em]; simp) it z w) (fun _ h => h)
     | io => rw [em] at c; exact Cell.okMono c (fun b it z o => ⟨.inl o.1, o.2⟩) (fun _ h => h)
 inj := fun i k s s' b hne m1 m2 e1 e2 i1 i2 l1 l2 => by
   have f : ∀ i, mode md i ≠ .pl -> mode (md.set j .lk) i ≠ .pl := fun i h => by
     by_cases hij : j = i
     · subst hij; rw [mode_set_eq h]; simp
     · rw [mode_set_ne hij]; exact h
   exact r.inj i k s s' b hne (f i m1) (f k m2) e1 e2 i1 i2 l1 l2
theorem ls_forL {j : Nat} {g : TG} {tb : TS} {fg : MG} {fb : MS} (hm : mode md j = .ow) (hg : LG C (md.set j .lk) (held (md.set j .lk)) g fg) (hb : LS C (md.set j .lk) tb fb) : LS C md (tFor (iSeq C.K (tVar j)) g tb) (mForL j fg fb) := by
 intro A W ρ σ H D fl ρ' r e k
 unfold mForL at e
 simp only [Option.bind_eq_some_iff] at e
 obtain ⟨l, e0, ⟨fl1, ρ1⟩, e1, l', e2, e3⟩ := e
 cases e3
 have e0 := lstS_some e0
 have e2 := lstS_some e2
 obtain ⟨w, ew, c⟩ := r.slot j _ e0
 rw [hm] at c
 obtain ⟨a, xs, rfl, h1, h2, h3, h4⟩ := c
 have r1 := r.lock hm e0 rfl ew
 refine ⟨_, ew, .inl ⟨⟨xs, .inl (.inl h1)⟩, ?_⟩⟩
 refine for_run hg hb (it_list r (W2 := fun b => W b /\ b ≠ a) (fun b h => h.1) h1 (fun z => z.2 rfl) h4) ρ σ D _ _ r1 e1 ?_
 have hj : held (md.set j .lk) j := .inl (mode_set_eq (by rw [hm]; simp))
 have hf : ∀ σ', Fix (held (md.set j .lk)) σ σ' -> Fix (held md) σ σ' := fun σ' f i hi => f i (by
   have : j ≠ i := fun z => by subst z; rcases hi with hi | hi <;> (rw [hm] at hi; cases hi)
   unfold held
   rw [mode_set_ne this]
   exact hi)
 have hgr : ∀ {A' W' : Addr -> Prop} {H' : Hp}, Gr A (fun b => W b /\ b ≠ a) H A' W' H' -> Gr A W H A' (fun b => W' b ∨ b = a) H' := fun g => ⟨g.aa, g.an, fun b h => by
   rcases h with h | h
   · exact (g.wn b h).imp (fun z => z.1) id
   · rw [h]; exact .inl h3.1, g.ext.mono fun b h => h.1⟩
 cases fl with
 | nx => exact fun A' W' σ' H' g' r' f' => k A' _ σ' H' (hgr g') (r'.unlock hm e2 rfl (by rw [f' j hj]; exact ew) h3.2) (hf σ' f')
 | brk => exact fun A' W' σ' H' g' r' f' => k A' _ σ' H' (hgr g') (r'.unlock hm e2 rfl (by rw [f' j hj]; exact ew) h3.2) (hf σ' f')
 | ct => exact fun A' W' σ' H' g' r' f' => k A' _ σ' H' (hgr g') (r'.unlock hm e2 rfl (by rw [f' j hj]; exact ew) h3.2) (hf σ' f')
 | ret s => exact fun A' W' σ' v H' g' r' f' z => k A' _ σ' v H' (hgr g') (r'.unlock hm e2 rfl (by rw [f' j hj]; exact ew) h3.2) (hf σ' f') z
end
end Mir
namespace Mir
open PySem PySem.Spec PyProof.Rows L2
def entry (n : Nat) (ss : List S) : En := ss.map some ++ List.replicate (n - ss.length) none
def retOf : Option (Fl × En) -> Option S
 | some (.ret s, _) => some s
 | some (.nx, _) => some (.d .non)
 | _ => none
def mFn (n np : Nat) (mb : MS) (ss : List S) : Option S := if ss.length = np then retOf (mb (entry n ss)) else none
def retM : Option (Fl × En) -> Option (S × S)
 | some (.ret s, ρ) => ((look ρ 0).bind okIo).map fun s0 => (s, s0)
 | some (.nx, ρ) => ((look ρ 0).bind okIo).map fun s0 => (.d .non, s0)
 | _ => none
def mFnM (n np : Nat) (mb : MS) (ss : List S) : Option (S × S) := if ss.length = np then retM (mb (entry n ss)) else none
theorem look_entry : ∀ {ss : List S} {k i : Nat}, look (ss.map some ++ List.replicate k none) i = ss[i]?
 | [], 0, i => by simp [look]
 | [], k + 1, i => by
   rw [List.map_nil, List.nil_append]
   have := look_rep (nt := k + 1) (k := i) (l := [])
   rw [List.append_nil] at this
   rw [this]
   split <;> simp [look]
 | s :: r, k, 0 => by simp [look]
 | s :: r, k, i + 1 => by
   simp only [List.map_cons, List.cons_append, look, List.getElem?_cons_succ]
   exact look_entry
theorem SL.length {K : PySem.W.Frag} {H : Hp} {ok : Addr -> Prop} : ∀ {ss : List S} {vs : List V}, SL K H ok ss vs -> vs.length = ss.length
 | [], vs, h => by rw [show vs = [] from h]; rfl
 | s :: ss, vs, h => by
   obtain ⟨v, r, rfl, _, h2⟩ := h
   simp [SL.length h2]
theorem SL.get {K : PySem.W.Frag} {H : Hp} {ok : Addr -> Prop} : ∀ {ss : List S} {vs : List V} {i : Nat} {s : S}, SL K H ok ss vs -> ss[i]? = some s -> ∃ v, vs[i]? = some v /\ SRep K H ok s v
 | [], vs, i, s, h, e => by simp at e
 | s' :: ss, vs, 0, s, h, e => by
   obtain ⟨v, r, rfl, h1, _⟩ := h
   simp at e; subst e
   exact ⟨v, rfl, h1⟩
 | s' :: ss, vs, i + 1, s, h, e => by
   obtain ⟨v, r, rfl, _, h2⟩ := h
   simp at e
   obtain ⟨w, e1, h3⟩ := SL.get h2 e
   exact ⟨w, by simpa using e1, h3⟩
theorem start_get {N : List Str} {vs : List V} {i : Nat} {v : V} (h : vs[i]? = some v) : (L2.start N vs)[i]? = some (some v) := by
 unfold L2.start
 obtain ⟨hl, _⟩ := List.getElem?_eq_some_iff.mp h
 rw [List.getElem?_append_left (by simpa using hl), List.getElem?_map, h]
 rfl
theorem R.start {K : PySem.W.Frag} {md : List Md} {N : List Str} {ss : List S} {vs : List V} {H : Hp} (h : SL K H (fun _ => True) ss vs) (hN : ss.length <= N.length) (hmd : ∀ i, i < ss.length -> mode md i = .pl) :
   R ⟨K, H, fun _ => False, fun _ => False, false⟩ md (fun _ => False) (fun _ => False) (entry N.length ss) (L2.start N vs) H where
 len := by simp [L2.start, entry, h.length]
 wa := fun _ h => h
 ak := fun _ h => h.elim
 base := fun _ _ h _ => h
 wf := fun _ h => h.elim
 ma := fun _ h => h
 fo := fun h => by cases h
 slot := fun i s e => by
   unfold entry at e
   rw [look_entry] at e
   obtain ⟨v, ev, c⟩ := h.get e
   refine ⟨v, start_get ev, ?_⟩
   rw [hmd i (List.getElem?_eq_some_iff.mp e).1]
   match s, c with
   | .d x, c => exact RepP.mono c fun _ _ _ _ z => z
   | .scr ns, c => exact c
 inj := fun i j s s' a hne m1 m2 e1 e2 i1 i2 l1 l2 => by
   unfold entry at e1
   rw [look_entry] at e1
   exact m1 (hmd i (List.getElem?_eq_some_iff.mp e1).1)
section
variable {P : Program} {w : World} {K : PySem.W.Frag} {mg : Str -> Option Value} {base : Heap}
theorem retOf_some {o : Option (Fl × En)} {r : S} (h : retOf o = some r) : (∃ ρ, o = some (.ret r, ρ)) ∨ ∃ ρ, o = some (.nx, ρ) /\ r = .d .non := by
 match o, h with
 | some (.ret s, ρ), h => cases h; exact .inl ⟨ρ, rfl⟩
 | some (.nx, ρ), h => cases h; exact .inr ⟨ρ, rfl, rfl⟩
theorem fn_pure {x qual : Str} {st : Stmt} {f : Addr} {fd : FuncData} {N ps : List Str} {k : Nat} {md : List Md} {mb : MS} (F : Fun K x qual st f fd) (S0 : FnScope N ps (defScope st)) (hp : ps.length <= N.length) (hmd : ∀ i, i < ps.length -> mode md i = .pl)
   (hb : ∀ (cdv : Value) (A : Around) (outer : List Env) (s : Shared) (H : Hp) (E : XK), Room k (A.deeper (envOfC qual (defScope st) s.heap.objs.size f cdv)) ->
     ∃ t, PSs (cxOf CX0 P w K mg base N qual (defScope st) f cdv A outer s H E).nox (defBody st) t /\ ∀ C : Cn, C.K = K -> LS C md t mb) :
   FnOk P w K mg base CX0 (k + 1) f fd ps (spP K (mFn N.length ps.length mb)) := by
 refine F.ok S0 (fun vs H Q E h => ?_) (fun cdv A outer s H vs Q E hr h => ?_)
 · obtain ⟨ss, r, h1, h2, _⟩ := h
   unfold mFn at h2
   split at h2
   · rw [h1.length]; assumption
   · cases h2
 · obtain ⟨ss, r, h1, h2, q⟩ := h
   obtain ⟨t, ht, hl⟩ := hb cdv A outer s H E hr
   refine ⟨t, ht, ?_⟩
   unfold mFn at h2
   split at h2
   · rename_i hlen
     have R0 := R.start (N := N) (md := md) h1 (by omega) (fun i hi => hmd i (by omega))
     have same : ∀ {A' W' : Addr -> Prop} {ρ' : En} {σ' : L2.St} {H' : Hp}, R ⟨K, H, fun _ => False, fun _ => False, false⟩ md A' W' ρ' σ' H' -> Same H H' := fun r b o e => r.base b o e (fun z => z)
     rcases retOf_some h2 with ⟨ρ', e⟩ | ⟨ρ', e, rfl⟩
     · exact hl ⟨K, H, fun _ => False, fun _ => False, false⟩ rfl _ _ _ _ _ _ _ ρ' R0 e fun A' W' σ' v H' g r' f' z => q v H' (same r') (by rcases z with z | z; exact z; cases z.1)
     · exact hl ⟨K, H, fun _ => False, fun _ => False, false⟩ rfl _ _ _ _ _ _ _ ρ' R0 e fun A' W' σ' H' g r' f' => q .non H' (same r') (show RepP _ _ _ _ _ from repP_non)
   · cases h2
def immT : S -> Bool
 | .d x => D.imm x
 | _ => false
theorem R.startM {md : List Md} {N : List Str} {s0 : S} {ss : List S} {vs : List V} {H : Hp} {p q : Addr} (fr : Bool) (hfr : fr = true -> ∀ s ∈ ss, immT s = true) (io : IoAt K H p q s0) (h : SL K H (fun a => a ≠ p) ss vs) (hN : ss.length + 1 <= N.length) (hm0 : mode md 0 = .io) (hmd : ∀ i, i < ss.length -> mode md (i + 1) = .pl) :
   R ⟨K, H, fun a => a = p, fun a => a = q, fr⟩ md (fun a => a = p ∨ (fr = true /\ a ≠ q /\ ∃ xs, H a = some (.lst xs))) (fun a => a = p) (entry N.length (s0 :: ss)) (L2.start N (.ref p :: vs)) H where
 len := by simp [L2.start, entry, h.length]
 wa := fun _ h => .inl h
 ak := fun a e => by
   rcases e with e | ⟨_, _, e⟩
   · match s0, io with
     | .pot ns i r m, io => exact ⟨_, (congrArg H e).trans io.2.1⟩
     | .d (.lst l), io => obtain ⟨_, xs, z, _⟩ := io; exact ⟨xs, (congrArg H e).trans z⟩
   · exact e
 base := fun _ _ h _ => h
 wf := fun _ h => .inr h
 ma := fun _ h => .inl h
 fo := fun hf a xs h n => .inr ⟨hf, n, xs, h⟩
 slot := fun i s e => by
   unfold entry at e
   rw [look_entry] at e
   match i, e with
   | 0, e =>
     simp at e; subst e
     refine ⟨.ref p, start_get rfl, ?_⟩
     rw [hm0]
     match s0, io with
     | .pot ns i r m, io =>
       refine ⟨p, q, rfl, io.2.1, io.2.2, .inl rfl, ⟨rfl, rfl⟩, fun z => ?_, rfl⟩
       rcases z with z | ⟨_, z, _⟩
       · exact io.1 z
       · exact z rfl
     | .d (.lst l), io =>
       obtain ⟨im, xs, z, z2⟩ := io
       exact ⟨p, xs, rfl, z, .inl rfl, ⟨rfl, rfl⟩, RepPL.ofImm im z2⟩
   | i + 1, e =>
     simp at e
     obtain ⟨v, ev, c⟩ := h.get e
     refine ⟨v, start_get (by simpa using ev), ?_⟩
     rw [hmd i (List.getElem?_eq_some_iff.mp e).1]
     have hmem : s ∈ ss := List.mem_of_getElem? e
     match s, c, hmem with
     | .d x, c, hmem =>
       cases fr with
       | true => exact RepP.ofImm (hfr rfl _ hmem) (RepP.rep c)
       | false => exact RepP.mono c fun a _ o _ z => by rcases z with z | z; exact o z; cases z.1
     | .scr ns, c, _ => exact c
 inj := fun i j s s' a hne m1 m2 e1 e2 i1 i2 l1 l2 => by
   unfold entry at e1 e2
   rw [look_entry] at e1 e2
   have z : ∀ i s, (s0 :: ss)[i]? = some s -> mode md i ≠ .pl -> i = 0 := fun i s e m => by
     match i, e with
     | 0, _ => rfl
     | i + 1, e => exact absurd (hmd i (List.getElem?_eq_some_iff.mp (by simpa using e)).1) m
   exact hne ((z i s e1 m1).trans (z j s' e2 m2).symm)
theorem retM_some {o : Option (Fl × En)} {y : S × S} (h : retM o = some y) : ∃ ρ, look ρ 0 = some y.2 /\ okIo y.2 = some y.2 /\ ((o = some (.ret y.1, ρ)) ∨ (o = some (.nx, ρ) /\ y.1 = .d .non)) := by
 match o, h with
 | some (.ret s, ρ), h =>
   replace h : ((look ρ 0).bind okIo).map (fun s0 => (s, s0)) = some y := h
   simp only [Option.map_eq_some_iff, Option.bind_eq_some_iff] at h
   obtain ⟨s0, ⟨s1, e1, e2⟩, rfl⟩ := h
   obtain ⟨rfl, _⟩ := okIo_some e2
   exact ⟨ρ, e1, e2, .inl rfl⟩
 | some (.nx, ρ), h =>
   replace h : ((look ρ 0).bind okIo).map (fun s0 => ((.d .non : S), s0)) = some y := h
   simp only [Option.map_eq_some_iff, Option.bind_eq_some_iff] at h
   obtain ⟨s0, ⟨s1, e1, e2⟩, rfl⟩ := h
   obtain ⟨rfl, _⟩ := okIo_some e2
   exact ⟨ρ, e1, e2, .inr ⟨rfl, rfl⟩⟩
def mFnF (fr : Bool) (n np : Nat) (mb : MS) (ss : List S) : Option (S × S) := if fr = true /\ (ss.tail.all immT = false ∨ (ss.head?.map isPot).getD false = false) then none else mFnM n np mb ss
theorem fn_io {x qual : Str} {st : Stmt} {f : Addr} {fd : FuncData} {N ps : List Str} {k : Nat} {md : List Md} {mb : MS} (fr : Bool) (F : Fun K x qual st f fd) (S0 : FnScope N ps (defScope st)) (hp : ps.length <= N.length) (hm0 : mode md 0 = .io) (hmd : ∀ i, i + 1 < ps.length -> mode md (i + 1) = .pl)
   (hb : ∀ (cdv : Value) (A : Around) (outer : List Env) (s : Shared) (H : Hp) (E : XK), Room k (A.deeper (envOfC qual (defScope st) s.heap.objs.size f cdv)) ->
     ∃ t, PSs (cxOf CX0 P w K mg base N qual (defScope st) f cdv A outer s H E).nox (defBody st) t /\ ∀ C : Cn, C.K = K -> C.free = fr -> LS C md t mb) :
   FnOk P w K mg base CX0 (k + 1) f fd ps (spM K (mFnF fr N.length ps.length mb)) := by
 refine F.ok S0 (fun vs H Q E h => ?_) (fun cdv A outer s H vs Q E hr h => ?_)
 · obtain ⟨p, q, s0, ss, vs', r, s1, rfl, io, h1, h2, _⟩ := h
   unfold mFnF at h2
   split at h2
   · cases h2
   unfold mFnM at h2
   split at h2
   · rw [List.length_cons, h1.length]; assumption
   · cases h2
 · obtain ⟨p, q, s0, ss, vs', r, s1, rfl, io, h1, h2, kq⟩ := h
   obtain ⟨t, ht, hl⟩ := hb cdv A outer s H E hr
   refine ⟨t, ht, ?_⟩
   unfold mFnF at h2
   split at h2
   · cases h2
   rename_i hfr
   have hfr' : fr = true -> ∀ s ∈ ss, immT s = true := fun z s hs => by
     have := hfr
     have e : ss.all immT = true := by
       cases e : ss.all immT with
       | true => rfl
       | false => exact absurd ⟨z, .inl e⟩ this
     exact List.all_eq_true.mp e s hs
   unfold mFnM at h2
   split at h2
   · rename_i hlen
     rw [List.length_cons] at hlen
     have R0 := R.startM (N := N) (md := md) fr hfr' io h1 (by omega) hm0 (fun i hi => hmd i (by omega))
     obtain ⟨ρ', e1, e2, e3⟩ := retM_some h2
     obtain ⟨_, is1, im1⟩ := okIo_some e2
     dsimp only at e1 e2 e3 is1 im1
     have fin : ∀ {A' W' : Addr -> Prop} {σ' : L2.St} {H' : Hp}, R ⟨K, H, fun a => a = p, fun a => a = q, fr⟩ md A' W' ρ' σ' H' -> Fix (held md) (L2.start N (.ref p :: vs')) σ' -> But p H H' /\ IoAt K H' p q s1 /\ (isPot s0 = true ∨ ∃ l, s1 = .d (.lst l) ∨ isPot s0 = isPot s0) := fun {A' W' σ' H'} r' f' => by
       refine ⟨fun b o n e => r'.base b o e n, ?_, .inr ⟨[], .inr rfl⟩⟩
       obtain ⟨v, ev, c⟩ := r'.slot 0 _ e1
       rw [f' 0 (.inr hm0), start_get (i := 0) (v := .ref p) rfl] at ev
       cases ev
       rw [hm0] at c
       match s1, is1, im1, c with
       | .pot ns i r m, _, _, c =>
         obtain ⟨p', q', z, g1, g2, g3, g4, g5, g6⟩ := c
         cases z
         have : q' = q := g6
         subst this
         exact ⟨fun z => g5 (by rw [z]; exact g3), g1, g2⟩
       | .d (.lst l), _, im, c =>
         obtain ⟨a, xs, z, g1, g2, g3, g4⟩ := c
         cases z
         exact ⟨im l rfl, xs, g1, g4.repL⟩
     have newm : ∀ {H' : Hp} {v : V}, RetAt ⟨K, H, fun a => a = p, fun a => a = q, fr⟩ H' r v -> (isPot s0 = true ∨ fr = false) -> NewM K H H' q s0 r v := fun z hs => by
       rcases z with z | ⟨zf, x, e, z⟩
       · exact .inl z
       · rcases hs with hs | hs
         · exact .inr ⟨hs, x, e, z⟩
         · rw [show fr = true from zf] at hs; cases hs
     have hs : isPot s0 = true ∨ fr = false := by
       cases hfq : fr with
       | false => exact .inr rfl
       | true =>
         match s0, io with
         | .pot _ _ _ _, _ => exact .inl rfl
         | .d (.lst l), io => exact absurd ⟨hfq, .inr rfl⟩ hfr
     rcases e3 with e3 | ⟨e3, rfl⟩
     · exact hl ⟨K, H, fun a => a = p, fun a => a = q, fr⟩ rfl rfl _ _ _ _ _ _ _ ρ' R0 e3 fun A' W' σ' v H' g r' f' z => kq v H' (fin r' f').1 (fin r' f').2.1 (newm z hs)
     · exact hl ⟨K, H, fun a => a = p, fun a => a = q, fr⟩ rfl rfl _ _ _ _ _ _ _ ρ' R0 e3 fun A' W' σ' H' g r' f' => kq .non H' (fin r' f').1 (fin r' f').2.1 (.inl (show RepP _ _ _ _ _ from repP_non))
   · cases h2
def spLawM (K : PySem.W.Frag) : Sp := fun vs H Q _ => ∃ (a : Addr) (ns : List Int), vs = [.ref a] /\ ScrAt K H a ns /\ ns.length <= 63 /\ ∀ H', Q (.bl true) H'
theorem fn_law {x qual : Str} {st : Stmt} {f : Addr} {fd : FuncData} {N : List Str} {k : Nat} {md : List Md} {mb : MS} (F : Fun K x qual st f fd) (S0 : FnScope N ["script"] (defScope st)) (hmd : mode md 0 = .pl)
   (ok : ∀ ns : List Int, ns.length <= 63 -> mFn N.length 1 mb [.scr ns] = some (.d (.bl true)))
   (hb : ∀ (cdv : Value) (A : Around) (outer : List Env) (s : Shared) (H : Hp) (E : XK), Room k (A.deeper (envOfC qual (defScope st) s.heap.objs.size f cdv)) ->
     ∃ t, PSs (cxOf CX0 P w K mg base N qual (defScope st) f cdv A outer s H E).nox (defBody st) t /\ ∀ C : Cn, C.K = K -> LS C md t mb) (hN : 1 <= N.length := by decide) :
   FnOk P w K mg base CX0 (k + 1) f fd ["script"] (spLawM K) := by
 refine (fn_pure F S0 hN (fun i hi => by have : i = 0 := (by simpa using hi); rw [this]; exact hmd) hb).imp fun vs H Q E h => ?_
 obtain ⟨a, ns, rfl, h1, h2, h3⟩ := h
 refine ⟨[.scr ns], _, ⟨_, [], rfl, ⟨a, rfl, h1⟩, rfl⟩, ok ns h2, fun v H' _ n => ?_⟩
 have : RepP K H' (fun a => H a = none) (.bl true) v := n
 rw [RepP] at this
 subst this
 exact h3 H'
def spStreamX (K : PySem.W.Frag) : Sp := fun vs H Q _ => ∃ (a : Addr) (ns : List Int), vs = [.ref a] /\ ScrAt K H a ns /\
 ∀ p q H', H p = none -> H q = none -> q ≠ p -> Same H H' -> H' p = some (.lst [.ref q, .int 0, .int 0, .int (ns.sum % 2147483647)]) -> H' q = some (.lst (ns.map V.int)) -> Q (.ref p) H'
def scrS : Option S -> Option (List Int)
 | some (.scr ns) => some ns
 | _ => none
theorem scrS_some {o : Option S} {ns : List Int} (h : scrS o = some ns) : o = some (.scr ns) := by
 match o, h with
 | some (.scr m), h => cases h; rfl
def mnStream (i : Nat) : MN := fun ρ => (scrS (look ρ i)).bind fun ns => some (.pot ns 0 0 (ns.sum % 2147483647), ρ)
theorem ln_stream {C : Cn} {md : List Md} {i : Nat} {E : XK} (hm : mode md i = .pl) : LN C md (tCall (spStreamX C.K) [] E (tCons (tVar i) tNil)) (mnStream i) := by
 intro A W ρ σ H Q s ρ' r e k
 unfold mnStream at e
 simp only [Option.bind_eq_some_iff] at e
 obtain ⟨ns, e1, e2⟩ := e
 cases e2
 obtain ⟨v, ev, c⟩ := r.slot i _ (scrS_some e1)
 rw [hm] at c
 obtain ⟨a, rfl, c⟩ := c
 refine ⟨_, ev, a, ns, rfl, c, fun p q H' h1 h2 h3 h4 h5 h6 => ?_⟩
 exact k p H H' (Ext.refl _ _) r h1 h4 ⟨q, h2, h3, h5, h6⟩
def absI (c : Int) : Int := if c < 0 then -c else c
def drawP (ns : List Int) (i r m n : Int) : Int × Int × Int :=
 if r = 0 then
   if (ns.length : Int) <= i then
     ((((m + 1000003 * (i + 1) + 76543) * 48271 % 2147483647 * ((m + 1000003 * (i + 1) + 76543) * 48271 % 2147483647) % 2147483647 + 40692 * (i + 1)) * 69621 % 2147483629 / 8) % n, i + 1, r)
   else if absI (ns.getD i.toNat 0) < 10 ^ 18 then (ns.getD i.toNat 0 % n, i + 1, r)
   else (absI (ns.getD i.toNat 0) % n, i + 1, absI (ns.getD i.toNat 0) / n)
 else (r % n, i, r / n)
def mDraw : List S -> Option (S × S)
 | [.pot ns i r m, .d (.int n)] => if 0 < n /\ n.natAbs.log2 < 9000 /\ 0 <= i then some (.d (.int (drawP ns i r m n).1), .pot ns (drawP ns i r m n).2.1 (drawP ns i r m n).2.2 m) else none
 | _ => none
theorem mDraw_some {s0 : S} {ss : List S} {r0 s1 : S} (h : mDraw (s0 :: ss) = some (r0, s1)) : ∃ ns i r m n, s0 = .pot ns i r m /\ ss = [.d (.int n)] /\ 0 < n /\ n.natAbs.log2 < 9000 /\ 0 <= i /\ r0 = .d (.int (drawP ns i r m n).1) /\ s1 = .pot ns (drawP ns i r m n).2.1 (drawP ns i r m n).2.2 m := by
 match s0, ss, h with
 | .pot ns i r m, [.d (.int n)], h =>
   simp only [mDraw] at h
   split at h
   · rename_i hc
     obtain ⟨h1, h2, h3⟩ := hc
     injection h with h
     injection h with e1 e2
     exact ⟨ns, i, r, m, n, rfl, rfl, h1, h2, h3, e1.symm, e2.symm⟩
   · cases h
theorem draw_range {ns : List Int} {i r m n : Int} (hn : 0 < n) : 0 <= (drawP ns i r m n).1 /\ (drawP ns i r m n).1 < n := by
 unfold drawP
 split
 · split
   · exact ⟨Int.emod_nonneg _ (by omega), Int.emod_lt_of_pos _ hn⟩
   · split
     · exact ⟨Int.emod_nonneg _ (by omega), Int.emod_lt_of_pos _ hn⟩
     · exact ⟨Int.emod_nonneg _ (by omega), Int.emod_lt_of_pos _ hn⟩
 · exact ⟨Int.emod_nonneg _ (by omega), Int.emod_lt_of_pos _ hn⟩
theorem draw_place {ns : List Int} {i r m n : Int} (hi : 0 <= i) : 0 <= (drawP ns i r m n).2.1 := by
 unfold drawP
 split
 · split
   · show 0 <= i + 1; omega
   · split
     · show 0 <= i + 1; omega
     · show 0 <= i + 1; omega
 · exact hi
end
end Mir
namespace L2
open PySem PySem.Spec PyProof.Rows
section
variable {X : Cx} {K : PySem.W.Frag}
def repS (z : Str) (n : Int) : Str := if n < 1 then Str.empty else if (n == 1 || z.length == 0) = true then z else ⟨(List.replicate n.toNat z.cps).foldl (· ++ ·) #[]⟩
theorem rep_size (z : Str) (n : Nat) (acc : Array Nat) : ((List.replicate n z.cps).foldl (· ++ ·) acc).size = acc.size + n * z.length := by
 induction n generalizing acc with
 | zero => simp
 | succ n ih => rw [List.replicate_succ, List.foldl_cons, ih, Array.size_append, Nat.succ_mul]; show _ = _ + (_ + z.cps.size); omega
def rRepX : R2 := fun x y H Q => ∃ l k xs, x = .ref l /\ y = .int k /\ Rd H l (.lst xs) /\ -(2 ^ 63) <= k /\ k < 2 ^ 63 /\ xs.length * k.toNat <= sizeLine /\
 ∀ p, H p = none -> Q (.ref p) (upd H p (.lst (List.replicate k.toNat xs).flatten))
theorem op_repR : OpR X (binaryOp .Mult) rRepX := by
 intro pins s σ H x y v u Q I rx ry h
 obtain ⟨l, k, xs, rfl, rfl, hH, h1, h2, hz, q⟩ := h
 cases rx
 obtain ⟨t, rfl⟩ := ry
 obtain ⟨z, its, n, r, hl, e⟩ := I.lstR hH
 have hlen : its.toArray.size * k.toNat <= sizeLine := by rw [List.size_toArray, <- hl]; exact hz
 have hcap : ¬ its.toArray.size * k.toNat > (2 ^ 63 - 1) / 8 := by
   have : (sizeLine : Nat) <= (2 ^ 63 - 1) / 8 := by decide
   omega
 have hfit : ¬ (!Builtin.List.listFitsIndex k) = true := by
   rw [fitsIndex_both h1 h2]
   exact Bool.false_ne_true
 have hlong : ¬ Builtin.List.listTooLong (its.toArray.size * k.toNat) = true := by
   rw [notLongL hlen]
   exact Bool.false_ne_true
 have hnew : List.foldl (fun x1 x2 => x1 ++ x2) #[] (List.replicate (if its.toArray.isEmpty = true then 0 else k.toNat) its.toArray) = (List.replicate k.toNat its).flatten.toArray := by
   have f0 : ∀ m : Nat, List.foldl (fun x1 x2 => x1 ++ x2) #[] (List.replicate m its.toArray) = (List.replicate m its).flatten.toArray := fun m => by
     have := foldl_rep its m []
     rw [List.nil_append] at this
     exact this
   rw [f0]
   cases its with
   | nil => simp
   | cons a r' => rw [if_neg (by simp)]
 refine wpAny_binaryOp_repeat_ref (T := "list") (U := "int") (by decide) ⟨_, e, rfl⟩ (fun s' => typeIs_int s' k t) noFill_list_mul F.fills_int_mul F.slot_int_rmul repeat_list F.slot_int_index.lookup
   (call_meets F.slot_int_rmul (typeIs_int s k t) F.entry_int_rmul (F.args_int_rmul_2 _ _) (int___rmul___int_list k t l its.toArray n)
     ⟨e, rfl, ⟨_, e, rfl⟩, call_meets F.slot_list_mul ⟨_, e, rfl⟩ F.entry_list_mul (F.args_list_mul_2 _ _) (AutoListH.list___mul___list_int_3 l its.toArray n k t hfit hcap hlong) ⟨e, ?_⟩⟩)
 rw [hnew]
 exact ⟨.ref _, _, I.lnew (t' := s.toks) (r.rep k.toNat) (by rw [len_rep, Nat.mul_comm]; exact hz), rfl, q _ I.fresh⟩
def rMulX : R2 := fun x y H Q => match x, y with
 | .int i, .int j => CMul i j /\ Q (.int (i * j)) H
 | .ref a, .int j => rRepX (.ref a) (.int j) H Q
 | .str z, .int n => (0 <= n /\ n <= 1000 /\ z.length <= 1000) /\ Q (.str (repS z n)) H
 | _, _ => False
theorem op_mulX : OpR X (binaryOp .Mult) rMulX := by
 intro pins s σ H x y v u Q I rx ry h
 match x, y, h with
 | .int i, .int j, h => exact op_mulA pins s σ H _ _ v u Q I rx ry h
 | .ref a, .int j, h => exact op_repR pins s σ H _ _ v u Q I rx ry h
 | .str z, .int n, ⟨⟨h0, h1, h2⟩, q⟩ =>
   obtain ⟨t, rfl⟩ := rx; obtain ⟨t', rfl⟩ := ry
   have small : z.length * n.toNat <= 1000000 := by
     have : n.toNat <= 1000 := by omega
     calc z.length * n.toNat <= 1000 * 1000 := Nat.mul_le_mul h2 this
       _ = 1000000 := by decide
   refine PySem.P.mul_str (by rw [decide_eq_false (by omega), decide_eq_false (by omega)]; rfl) (fun hn _ => ?_) (fun _ _ => ?_) ?_
   · have : (z.length : Int) * n <= 2 ^ 63 - 1 := by
       have e : (z.length : Int) * n = ((z.length * n.toNat : Nat) : Int) := by rw [Int.natCast_mul, Int.toNat_of_nonneg h0]
       rw [e]; omega
     intro hgt
     have : (2 ^ 63 - 1) / n * n <= 2 ^ 63 - 1 := Int.ediv_mul_le _ (by omega)
     have : (z.length : Int) <= (2 ^ 63 - 1) / n := by
       rw [Int.le_ediv_iff_mul_le (by omega)]; assumption
     omega
   · show decide (z.length * n.toNat > sizeLine) = false
     rw [decide_eq_false]
     have : (1000000 : Nat) < sizeLine := by decide
     omega
   · unfold repS at q
     have big : (1000000 : Nat) < sizeLine := by decide
     split
     · rename_i hn
       rw [if_pos hn] at q
       exact ⟨by decide, .str _, H, I.tok _, ⟨_, rfl⟩, q⟩
     · rename_i hn
       rw [if_neg hn] at q
       split
       · rename_i h3
         rw [if_pos h3] at q
         exact ⟨.str _, H, I, ⟨_, rfl⟩, q⟩
       · rename_i h3
         rw [if_neg h3] at q
         refine ⟨?_, .str _, H, I.tok _, ⟨_, rfl⟩, q⟩
         show Array.size _ <= _
         rw [rep_size]
         have : z.length * n.toNat = n.toNat * z.length := Nat.mul_comm _ _
         simp
         omega
def rSlX (K : PySem.W.Frag) : V -> Option Int -> Option Int -> Hp -> VK -> Prop := fun x lo hi H Q => rSlS x lo hi H Q ∨ rSlL K x lo hi H Q ∨ rSlT K x lo hi H Q
theorem sl_any (kt : KT K) (hK : X.K = K := by rfl) : SlR X (rSlX K) := by
 subst hK
 exact sl_str.or (sl_list.or sl_tup)
def rMin2 (xs : List V) (H : Hp) (Q : VK) : Prop := ∃ i j, xs = [.int i, .int j] /\ Q (.int (if j < i then j else i)) H
def rMax2 (xs : List V) (H : Hp) (Q : VK) : Prop := ∃ i j, xs = [.int i, .int j] /\ Q (.int (if j > i then j else i)) H
theorem call_min2X (hc : X.calm = true) : CallR X (.builtin "min") rMin2 := call_min2 hc
theorem call_max2X (hc : X.calm = true) : CallR X (.builtin "max") rMax2 := call_max2 hc
def tTru (K : PySem.W.Frag) (ta : TE) : TT := fun σ H Q => ta σ H fun x H' => ∃ k, TruV K x H' k /\ Q k H'
theorem pt_tru {a : Expr} {ta : TE} (kt : KT K) (ha : PE X a ta) (he : ∀ whole, isTrue a X.env whole = (do let v <- whole; standAt a.pos; holding [v] (truthy v)) := by intro _; rfl) (hK : X.K = K := by rfl) : PT X a (tTru K ta) := by
 subst hK
 exact pt_truth ha he
def rListX (K : PySem.W.Frag) (xs : List V) (H : Hp) (Q : VK) : Prop := rListOf K xs H Q ∨ rListS xs H Q
theorem call_listX (kt : KT K) (hc : X.calm = true) (hK : X.K = K := by rfl) : CallR X (.type "list") (rListX K) := by
 subst hK
 exact (call_listK ⟨⟩).or (call_listS hc)
def rTupX (K : PySem.W.Frag) (xs : List V) (H : Hp) (Q : VK) : Prop := rTupOf K xs H Q ∨ rTupS xs H Q
theorem call_tupX (kt : KT K) (hc : X.calm = true) (hK : X.K = K := by rfl) : CallR X (.type "tuple") (rTupX K) := by
 subst hK
 exact (call_tupleK ⟨⟩).or (call_tupS hc)
def rInX (K : PySem.W.Frag) (n : Nat) (neg : Bool) : R2 := fun x y H Q => rInD K n neg x y H Q ∨ (neg = true /\ rNotInS x y H Q)
theorem op_inX {n : Nat} (kt : KT K) (hu : X.A.units + n + 1 < cLine) (hK : X.K = K := by rfl) : OpR X (compareOp .In) (rInX K n false) := by
 subst hK
 intro pins s σ H x y v u Q I rx ry h
 rcases h with h | ⟨h, _⟩
 · exact op_inD hu pins s σ H x y v u Q I rx ry h
 · cases h
theorem op_notInX {n : Nat} (kt : KT K) (hu : X.A.units + n + 1 < cLine) (hK : X.K = K := by rfl) : OpR X (compareOp .NotIn) (rInX K n true) := by
 subst hK
 intro pins s σ H x y v u Q I rx ry h
 rcases h with h | ⟨_, h⟩
 · exact op_notInD hu pins s σ H x y v u Q I rx ry h
 · exact op_notInS pins s σ H x y v u Q I rx ry h
theorem pe_compT {tg iter elt : Expr} {ifs : List Expr} {scope : Scope} {pos : Pos} {wi : TI} {g : TG} {tt : TT} {te : TE} (ts : List Str) (hc : X.calm = true) (S : CompScope X scope ts (capIx X.N scope.names)) (hi : PI X tg iter wi)
   (hg : ∀ C s2 H2 fp, PG (compCx X scope ts (capIx X.N scope.names) C s2 H2 fp) tg g) (ht : ∀ C s2 H2 fp, PIf (compCx X scope ts (capIx X.N scope.names) C s2 H2 fp) ifs tt) (he : ∀ C s2 H2 fp, PE (compCx X scope ts (capIx X.N scope.names) C s2 H2 fp) elt te)
   (hs : ∀ x, foldedSetIterable iter X.env x = pure x := by intro _; rfl) :
   PE X (.ListComp elt [⟨tg, iter, ifs, 0⟩] scope pos) (tComp ts.length (capIx X.N scope.names) wi (lpW g tt (tEmit te))) :=
 pe_compG (ts := ts) hc S hi (plp_one hc hg ht he) hs
theorem ps_setCompT {tg iter elt : Expr} {ifs : List Expr} {scope : Scope} {pos : Pos} {wi : TI} {g : TG} {tt : TT} {te : TE} {i : Nat} {y : Str} {py sp : Pos} (ts : List Str) (hc : X.calm = true) (S : CompScope X scope ts (capIx X.N scope.names)) (hi : PI X tg iter wi)
   (hg : ∀ C s2 H2 fp, PG (compCx X scope ts (capIx X.N scope.names) C s2 H2 fp) tg g) (ht : ∀ C s2 H2 fp, PIf (compCx X scope ts (capIx X.N scope.names) C s2 H2 fp) ifs tt) (he : ∀ C s2 H2 fp, PE (compCx X scope ts (capIx X.N scope.names) C s2 H2 fp) elt te)
   (hN0 : X.N.Nodup) (hiN : X.N[i]? = some y) (hy : X.env.kindOf y = some .local)
   (hsw : swapsWith (.ListComp elt [⟨tg, iter, ifs, 0⟩] scope pos) (some (.Name y py)) sp.line X.env = pure true := by rfl) (hs : ∀ x, foldedSetIterable iter X.env x = pure x := by intro _; rfl) :
   PS X (.Assign [.Name y py] (.ListComp elt [⟨tg, iter, ifs, 0⟩] scope pos) sp) (tAsg (tComp ts.length (capIx X.N scope.names) wi (lpW g tt (tEmit te))) (gName i)) :=
 ps_setCompG (ts := ts) hc S hi (plp_one hc hg ht he) hN0 hiN hy hsw hs
end
end L2
namespace Mir
open PySem PySem.Spec PyProof.Rows L2
def mulX : D -> D -> Option D
 | .int i, .int j => if CMul i j then some (.int (i * j)) else none
 | .lst l, .int k => if -(2 ^ 63) <= k /\ k < 2 ^ 63 /\ l.length * k.toNat <= sizeLine then some (.lst (List.replicate k.toNat l).flatten) else none
 | .str z, .int n => if 0 <= n /\ n <= 1000 /\ z.length <= 1000 then some (.str (repS z n)) else none
 | _, _ => none
section
variable {K : PySem.W.Frag}
theorem op_mulXA : OpA K rMulX mulX := by
 intro H ok x y d e u Q h1 h2 g k
 match d, e, g with
 | .int i, .int j, g =>
   obtain rfl := h1.int_inv; obtain rfl := h2.int_inv
   replace g : (if CMul i j then some (D.int (i * j)) else none) = some u := g
   split at g
   · rename_i hz; cases g; exact ⟨hz, k _ H (Same.refl _) repP_int⟩
   · cases g
 | .lst l, .int j, g =>
   obtain ⟨p, xs, rfl, hp, rp⟩ := h1.lst_inv; obtain rfl := h2.int_inv
   replace g : (if -(2 ^ 63) <= j /\ j < 2 ^ 63 /\ l.length * j.toNat <= sizeLine then some (D.lst (List.replicate j.toNat l).flatten) else none) = some u := g
   split at g
   · rename_i hz
     cases g
     refine ⟨p, j, xs, rfl, rfl, .inl hp, hz.1, hz.2.1, by rw [rp.length]; exact hz.2.2, fun t ht => ?_⟩
     have s := new_same (o := .lst (List.replicate j.toNat xs).flatten) ht
     refine k _ _ s ?_
     rw [RepP]
     exact ⟨t, _, rfl, upd_same, .inr ht, ((rp.rep j.toNat).same s).mono fun _ _ o _ => .inl o⟩
   · cases g
 | .str z, .int n, g =>
   obtain rfl := h1.str_inv; obtain rfl := h2.int_inv
   replace g : (if 0 <= n /\ n <= 1000 /\ z.length <= 1000 then some (D.str (repS z n)) else none) = some u := g
   split at g
   · rename_i hz; cases g; exact ⟨hz, k _ H (Same.refl _) repP_str⟩
   · cases g
def cutD (l : List D) (lo hi : Option Int) : List D := (l.drop (HT.sIx l.length 0 lo)).take (HT.sIx l.length l.length hi - HT.sIx l.length 0 lo)
def slD (d : D) (lo hi : Option Int) : Option D := match d with
 | .str z => if z.length <= sizeLine then some (.str (Txt.slice z lo hi)) else none
 | .lst l => some (.lst (cutD l lo hi))
 | .tup l => if HT.sIx l.length 0 lo = 0 /\ HT.sIx l.length l.length hi = l.length then none else some (.tup (cutD l lo hi))
 | _ => none
theorem RepPL.cut {H : Hp} {ok : Addr -> Prop} {l : List D} {xs : List V} {lo hi : Option Int} (r : RepPL K H ok l xs) : RepPL K H ok (cutD l lo hi) (cutV xs lo hi) := by
 unfold cutD cutV
 rw [r.length]
 exact (r.drop _).take _
theorem sl_run {H : Hp} {ok : Addr -> Prop} {x : V} {d u : D} {lo hi : Option Int} {Q : VK} (h : RepT K H ok d x) (g : slD d lo hi = some u) (k : ∀ v H', Same H H' -> RepP K H' (fun a => ok a ∨ H a = none) u v -> Q v H') : rSlX K x lo hi H Q := by
 match d, g with
 | .str z, g =>
   replace g : (if z.length <= sizeLine then some (D.str (Txt.slice z lo hi)) else none) = some u := g
   split at g
   · rename_i hz; cases g; exact .inl ⟨z, h.str_inv, hz, k _ H (Same.refl _) repP_str⟩
   · cases g
 | .lst l, g =>
   cases g
   obtain ⟨p, xs, rfl, hp, rp⟩ := h.lst_inv
   refine .inr (.inl ⟨p, xs, rfl, .inl (.inl hp), fun t ht => ?_⟩)
   have s := new_same (o := .lst (cutV xs lo hi)) ht
   refine k _ _ s ?_
   rw [RepP]
   exact ⟨t, _, rfl, upd_same, .inr ht, (rp.cut.same s).mono fun _ _ o _ => .inl o⟩
 | .tup l, g =>
   replace g : (if HT.sIx l.length 0 lo = 0 /\ HT.sIx l.length l.length hi = l.length then none else some (D.tup (cutD l lo hi))) = some u := g
   split at g
   · cases g
   · rename_i hw
     cases g
     obtain ⟨p, xs, rfl, hp, rp⟩ := h.tup_inv
     refine .inr (.inr ⟨p, xs, rfl, hp, by rw [rp.length]; exact hw, fun t ht => ?_⟩)
     have s := new_same (o := .tup (cutV xs lo hi)) ht
     refine k _ _ s ?_
     rw [RepP]
     exact ⟨t, _, rfl, .inl (.inl upd_same), (rp.cut.same s).mono fun _ _ o _ => .inl o⟩
def min2D : List D -> Option D
 | [.int i, .int j] => some (.int (if j < i then j else i))
 | _ => none
def max2D : List D -> Option D
 | [.int i, .int j] => some (.int (if j > i then j else i))
 | _ => none
theorem RepTL.two_inv {H : Hp} {ok : Addr -> Prop} {d e : D} {vs : List V} (h : RepTL K H ok [d, e] vs) : ∃ v w, vs = [v, w] /\ RepT K H ok d v /\ RepT K H ok e w := by
 obtain ⟨v, r, rfl, h1, h2⟩ := h
 obtain ⟨w, rfl, h3⟩ := h2.one_inv
 exact ⟨v, w, rfl, h1, h3⟩
theorem cb_min2 : CbA K rMin2 min2D := by
 intro H ok vs ds u Q h g k
 match ds, g with
 | [.int i, .int j], g =>
   cases g
   obtain ⟨v, w, rfl, h1, h2⟩ := h.two_inv
   obtain rfl := h1.int_inv; obtain rfl := h2.int_inv
   exact ⟨i, j, rfl, k _ H (Same.refl _) repP_int⟩
theorem cb_max2 : CbA K rMax2 max2D := by
 intro H ok vs ds u Q h g k
 match ds, g with
 | [.int i, .int j], g =>
   cases g
   obtain ⟨v, w, rfl, h1, h2⟩ := h.two_inv
   obtain rfl := h1.int_inv; obtain rfl := h2.int_inv
   exact ⟨i, j, rfl, k _ H (Same.refl _) repP_int⟩
theorem repPL_signs {H : Hp} {ok : Addr -> Prop} (z : Str) : RepPL K H ok (signsD z) (signsV z) := by
 unfold signsD signsV
 induction z.cps.toList with
 | nil => exact .nil
 | cons c r ih => exact .cons repP_str ih
def listX : List D -> Option D
 | [.lst l] => some (.lst l)
 | [.tup l] => some (.lst l)
 | [.str z] => if z.length <= sizeLine then some (.lst (signsD z)) else none
 | _ => none
def tupX : List D -> Option D
 | [.lst l] => some (.tup l)
 | [.tup l] => some (.tup l)
 | [.str z] => if z.length <= sizeLine then some (.tup (signsD z)) else none
 | _ => none
theorem cb_listX : CbA K (rListX K) listX := by
 intro H ok vs ds u Q h g k
 match ds, g with
 | [.lst l], g => exact .inl (cb_list H ok vs _ u Q h g k)
 | [.tup l], g => exact .inl (cb_list H ok vs _ u Q h g k)
 | [.str z], g =>
   replace g : (if z.length <= sizeLine then some (D.lst (signsD z)) else none) = some u := g
   split at g
   · rename_i hz
     cases g
     obtain ⟨v, rfl, h1⟩ := h.one_inv
     obtain rfl := h1.str_inv
     refine .inr ⟨z, rfl, hz, fun t ht => ?_⟩
     have s := new_same (o := .lst (signsV z)) ht
     refine k _ _ s ?_
     rw [RepP]
     exact ⟨t, _, rfl, upd_same, .inr ht, repPL_signs z⟩
   · cases g
theorem cb_tupX : CbA K (rTupX K) tupX := by
 intro H ok vs ds u Q h g k
 match ds, g with
 | [.lst l], g => exact .inl (cb_tup H ok vs _ u Q h g k)
 | [.tup l], g => exact .inl (cb_tup H ok vs _ u Q h g k)
 | [.str z], g =>
   replace g : (if z.length <= sizeLine then some (D.tup (signsD z)) else none) = some u := g
   split at g
   · rename_i hz
     cases g
     obtain ⟨v, rfl, h1⟩ := h.one_inv
     obtain rfl := h1.str_inv
     refine .inr ⟨z, rfl, hz, fun t ht => ?_⟩
     have s := new_same (o := .tup (signsV z)) ht
     refine k _ _ s ?_
     rw [RepP]
     exact ⟨t, _, rfl, .inl (.inl upd_same), repPL_signs z⟩
   · cases g
def inX (n : Nat) (neg : Bool) (d e : D) : Option D := match d, e with
 | .str y, .str z => match y.cps.toList with
   | [c] => if neg = true then some (.bl (!decide (c ∈ z.cps.toList))) else none
   | _ => none
 | d, e => inD n neg d e
theorem sign_of {y : Str} {c : Nat} (h : y.cps.toList = [c]) : y = ⟨#[c]⟩ := by
 obtain ⟨cps⟩ := y
 have : cps = [c].toArray := by rw [<- h]
 rw [this]
theorem op_inXA {n : Nat} {neg : Bool} : OpA K (rInX K n neg) (inX n neg) := by
 intro H ok x y d e u Q h1 h2 g k
 match d, e, g with
 | .str a, .str z, g =>
   replace g : (match a.cps.toList with | [c] => if neg = true then some (D.bl (!decide (c ∈ z.cps.toList))) else none | _ => none) = some u := g
   split at g
   · rename_i c hc
     split at g
     · rename_i hn
       cases g
       obtain rfl := h1.str_inv; obtain rfl := h2.str_inv
       rw [sign_of hc]
       exact .inr ⟨hn, g_notInS (k _ H (Same.refl _) repP_bl)⟩
     · cases g
   · cases g
 | d, .non, g => exact .inl (op_in H ok x y d _ u Q h1 h2 (by cases d <;> exact g) k)
 | d, .bl _, g => exact .inl (op_in H ok x y d _ u Q h1 h2 (by cases d <;> exact g) k)
 | d, .int _, g => exact .inl (op_in H ok x y d _ u Q h1 h2 (by cases d <;> exact g) k)
 | d, .tup _, g => exact .inl (op_in H ok x y d _ u Q h1 h2 (by cases d <;> exact g) k)
 | d, .lst _, g => exact .inl (op_in H ok x y d _ u Q h1 h2 (by cases d <;> exact g) k)
 | .non, .str z, g => exact .inl (op_in H ok x y _ _ u Q h1 h2 g k)
 | .bl _, .str z, g => exact .inl (op_in H ok x y _ _ u Q h1 h2 g k)
 | .int _, .str z, g => exact .inl (op_in H ok x y _ _ u Q h1 h2 g k)
 | .tup _, .str z, g => exact .inl (op_in H ok x y _ _ u Q h1 h2 g k)
 | .lst _, .str z, g => exact .inl (op_in H ok x y _ _ u Q h1 h2 g k)
end
abbrev MO := En -> Option (Option Int × En)
section
variable {C : Cn} {md : List Md}
def LO (C : Cn) (md : List Md) (t : TO) (f : MO) : Prop := ∀ (A W : Addr -> Prop) (ρ : En) (σ : L2.St) (H : Hp) (Q : Option Int -> Hp -> Prop) (b : Option Int) (ρ' : En), R C md A W ρ σ H -> f ρ = some (b, ρ') ->
 (∀ H', Ext W H H' -> R C md A W ρ' σ H' -> Q b H') -> t σ H Q
def moNo : MO := fun ρ => some (none, ρ)
def asI : D -> Option Int
 | .int i => some i
 | _ => none
theorem asI_some {d : D} {i : Int} (h : asI d = some i) : d = .int i := by cases d <;> first | (cases h; done) | (cases h; rfl)
def moPart (f : ME) : MO := fun ρ => (f ρ).bind fun x => (res x.2 x.1).bind fun d => (asI d).bind fun i => some (some i, x.2)
theorem lo_no : LO C md tNoPart moNo := by
 intro A W ρ σ H Q b ρ' r e k
 cases e
 exact k H (Ext.refl _ _) r
theorem lo_part {t : TE} {f : ME} (h : LE C md t f) : LO C md (tPart t) (moPart f) := by
 intro A W ρ σ H Q b ρ' r e k
 unfold moPart at e
 simp only [Option.bind_eq_some_iff] at e
 obtain ⟨⟨o, ρ1⟩, e1, d, e2, i, e3, e4⟩ := e
 cases e4
 cases asI_some e3
 exact h A W ρ σ H _ o _ r e1 fun v H1 x1 r1 p1 => ⟨i, (p1.get r1 e2).int_inv, k H1 x1 r1⟩
def mSl (f : ME) (lo hi : MO) : ME := fun ρ => (f ρ).bind fun x => (lo x.2).bind fun y => (hi y.2).bind fun z => (res z.2 x.1).bind fun d => (slD d y.1 z.1).bind fun u => some (.val u, z.2)
theorem le_sl {t : TE} {tl th : TO} {f : ME} {lo hi : MO} (h : LE C md t f) (hl : LO C md tl lo) (hh : LO C md th hi) : LE C md (tSl (rSlX C.K) t tl th) (mSl f lo hi) := by
 intro A W ρ σ H Q o ρ' r e k
 unfold mSl at e
 simp only [Option.bind_eq_some_iff] at e
 obtain ⟨⟨o1, ρ1⟩, e1, ⟨b, ρ2⟩, e2, ⟨c, ρ3⟩, e3, d, e4, u, e5, e6⟩ := e
 cases e6
 refine h A W ρ σ H _ o1 ρ1 r e1 fun v1 H1 x1 r1 p1 => ?_
 refine hl A W ρ1 σ H1 _ b ρ2 r1 e2 fun H2 x2 r2 => ?_
 refine hh A W ρ2 σ H2 _ c _ r2 e3 fun H3 x3 r3 => ?_
 refine sl_run (((p1.stay r1 x2).stay r2 x3).get r3 e4) e5 fun v H' s q => ?_
 obtain ⟨z1, z2, z3⟩ := fin ((x1.trans x2).trans x3) r3 s q
 exact k v H' z1 z2 z3
def strsD : List D -> Option (List Str)
 | [] => some []
 | .str i :: r => (strsD r).map (i :: ·)
 | _ => none
theorem strsD_map : ∀ {l : List D} {ns : List Str}, strsD l = some ns -> l = ns.map D.str
 | [], ns, h => by cases h; rfl
 | .str i :: r, ns, h => by
   replace h : (strsD r).map (i :: ·) = some ns := h
   cases e : strsD r with
   | none => rw [e] at h; cases h
   | some m => rw [e] at h; cases h; simp [strsD_map e]
theorem strsD_of (ns : List Str) : strsD (ns.map D.str) = some ns := by
 induction ns with
 | nil => rfl
 | cons a r ih => rw [List.map_cons, strsD, ih]; rfl
theorem repPL_strs {K : PySem.W.Frag} {H : Hp} {ok : Addr -> Prop} : ∀ {ns : List Str} {xs : List V}, RepPL K H ok (ns.map D.str) xs -> xs = ns.map V.str
 | [], xs, h => h.nil_inv
 | i :: r, xs, h => by
   obtain ⟨x, t, rfl, h1, h2⟩ := h.cons_inv
   rw [RepP] at h1
   rw [h1, repPL_strs h2]; rfl
def joinD (z : Str) : List D -> Option D
 | [.lst l] => (strsD l).bind fun ys => if (ys.map (·.length)).sum + ys.length * z.length <= 16777216 then some (.str (Txt.join z ys)) else none
 | _ => none
def mJoin (z : Str) (f : MA) : ME := fun ρ => (f ρ).bind fun x => (ress x.2 x.1).bind fun ds => (joinD z ds).bind fun u => some (.val u, x.2)
theorem le_join {z : Str} {t : TA} {f : MA} (h : LA C md t f) : LE C md (tBM C.K "str" (rJoin C.K) (tC (.str z)) t) (mJoin z f) := by
 intro A W ρ σ H Q o ρ' r e k
 unfold mJoin at e
 simp only [Option.bind_eq_some_iff] at e
 obtain ⟨⟨os, ρ1⟩, e1, ds, e2, u, e3, e4⟩ := e
 cases e4
 refine ⟨rfl, h A W ρ σ H _ os _ r e1 fun vs H1 x1 r1 p1 => ?_⟩
 match ds, e2, e3 with
 | [.lst l], e2, e3 =>
   replace e3 : ((strsD l).bind fun ys => if (ys.map (·.length)).sum + ys.length * z.length <= 16777216 then some (D.str (Txt.join z ys)) else none) = some u := e3
   simp only [Option.bind_eq_some_iff] at e3
   obtain ⟨ys, e5, e6⟩ := e3
   split at e6
   · rename_i hz
     cases e6
     obtain ⟨v, rfl, h1⟩ := (p1.get r1 e2).one_inv
     obtain ⟨p, xs, rfl, hp, rp⟩ := h1.lst_inv
     rw [strsD_map e5] at rp
     refine ⟨z, p, ys, rfl, rfl, .inl (.inl ?_), hz, k _ H1 x1 r1 (show RepP _ _ _ _ _ from repP_str)⟩
     rw [<- repPL_strs rp]
     exact hp
   · cases e6
def truD : D -> Option Bool
 | .non => some false
 | .bl b => some b
 | .int i => some (i != 0)
 | .str y => if y.length <= sizeLine then some ((y.length : Int) != 0) else none
 | .tup l => some (!l.isEmpty)
 | .lst l => some (!l.isEmpty)
def mTru (f : ME) : MT := fun ρ => (f ρ).bind fun x => (res x.2 x.1).bind fun d => (truD d).bind fun b => some (b, x.2)
theorem isEmpty_len {α β : Type} {l : List α} {m : List β} (h : l.length = m.length) : l.isEmpty = m.isEmpty := by
 cases l <;> cases m <;> simp at h ⊢
theorem lt_tru {t : TE} {f : ME} (h : LE C md t f) : LT C md (tTru C.K t) (mTru f) := by
 intro A W ρ σ H Q b ρ' r e k
 unfold mTru at e
 simp only [Option.bind_eq_some_iff] at e
 obtain ⟨⟨o, ρ1⟩, e1, d, e2, b', e3, e4⟩ := e
 cases e4
 refine h A W ρ σ H _ o _ r e1 fun v H1 x1 r1 p1 => ⟨b, ?_, k H1 x1 r1⟩
 have p := p1.get r1 e2
 match d, e3, p with
 | .non, e3, p => cases e3; obtain rfl := p.non_inv; rfl
 | .bl c, e3, p => cases e3; obtain rfl := p.bl_inv; rfl
 | .int c, e3, p => cases e3; obtain rfl := p.int_inv; rfl
 | .str c, e3, p =>
   obtain rfl := p.str_inv
   replace e3 : (if c.length <= sizeLine then some ((c.length : Int) != 0) else none) = some b := e3
   split at e3
   · rename_i hz; cases e3; exact ⟨hz, rfl⟩
   · cases e3
 | .tup l, e3, p => cases e3; obtain ⟨q, xs, rfl, hp, rp⟩ := p.tup_inv; exact .inr (.inl ⟨xs, hp, by rw [isEmpty_len rp.length]⟩)
 | .lst l, e3, p => cases e3; obtain ⟨q, xs, rfl, hp, rp⟩ := p.lst_inv; exact .inl ⟨xs, .inl (.inl hp), by rw [isEmpty_len rp.length]⟩
theorem lt_test {ta : TE} {fa : ME} (ha : LE C md ta fa) : LT C md (tTest ta) (mB fa) := lt_b ha
def mLenS (i : Nat) : ME := fun ρ => (scrS (look ρ i)).bind fun ns => some (.val (.int ns.length), ρ)
theorem le_lenS {i : Nat} (hm : mode md i = .pl) : LE C md (tCB (rLen C.K) (tCons (tVar i) tNil)) (mLenS i) := by
 intro A W ρ σ H Q o ρ' r e k
 unfold mLenS at e
 simp only [Option.bind_eq_some_iff] at e
 obtain ⟨ns, e1, e2⟩ := e
 cases e2
 obtain ⟨v, ev, c⟩ := r.slot i _ (scrS_some e1)
 rw [hm] at c
 obtain ⟨a, rfl, c⟩ := c
 refine ⟨_, ev, _, ns.length, rfl, .inl ⟨_, c.sq, by simp⟩, k _ H (Ext.refl _ _) r (show RepP _ _ _ _ _ from repP_int)⟩
def mIxS (i : Nat) (f : ME) : ME := fun ρ => (scrS (look ρ i)).bind fun _ => (f ρ).bind fun x => (res x.2 x.1).bind fun d => (asI d).bind fun j => (scrS (look x.2 i)).bind fun ns => (atI ns j).bind fun n => some (.val (.int n), x.2)
theorem atI_mapI {ns : List Int} {j n : Int} (h : atI ns j = some n) : atI (ns.map V.int) j = some (V.int n) := by
 unfold atI at h ⊢
 rw [List.length_map]
 cases e : ixN ns.length j with
 | none => rw [e] at h; cases h
 | some k =>
   rw [e] at h
   have h : ns[k]? = some n := h
   show (ns.map V.int)[k]? = _
   rw [List.getElem?_map, h]; rfl
theorem le_ixS {i : Nat} {t : TE} {f : ME} (hm : mode md i = .pl) (h : LE C md t f) : LE C md (tOp (rIxA C.K) (tVar i) t) (mIxS i f) := by
 intro A W ρ σ H Q o ρ' r e k
 unfold mIxS at e
 simp only [Option.bind_eq_some_iff] at e
 obtain ⟨ns0, e0, ⟨o1, ρ1⟩, e1, d, e2, j, e3, ns, e4, n, e5, e6⟩ := e
 cases e6
 cases asI_some e3
 obtain ⟨v, ev, _⟩ := r.slot i _ (scrS_some e0)
 refine ⟨v, ev, h A W ρ σ H _ o1 _ r e1 fun v1 H1 x1 r1 p1 => ?_⟩
 obtain ⟨v', ev', c⟩ := r1.slot i _ (scrS_some e4)
 rw [ev] at ev'; cases ev'
 rw [hm] at c
 obtain ⟨a, rfl, c⟩ := c
 obtain rfl := (p1.get r1 e2).int_inv
 exact ⟨_, _, .inl c.sq, atI_mapI e5, k _ H1 x1 r1 (show RepP _ _ _ _ _ from repP_int)⟩
def argS : Option S -> Option S
 | some (.d x) => some (.d x)
 | some (.scr ns) => some (.scr ns)
 | _ => none
def resA (ρ : En) : List Op -> Option (List S)
 | [] => some []
 | o :: os => (argS (resS ρ o)).bind fun d => (resA ρ os).bind fun ds => some (d :: ds)
theorem OpsAt.argsA {A W : Addr -> Prop} {ρ : En} {σ : L2.St} {H : Hp} (r : R C md A W ρ σ H) : ∀ {os : List Op} {vs : List V} {ss : List S}, OpsAt C A σ H os vs -> resA ρ os = some ss -> SL C.K H (fun _ => True) ss vs
 | [], vs, ss, h, e => by cases e; exact h
 | o :: os, vs, ss, h, e => by
   obtain ⟨v, t, rfl, h1, h2⟩ := h
   unfold resA at e
   simp only [Option.bind_eq_some_iff] at e
   obtain ⟨s, e1, ss', e2, e3⟩ := e
   cases e3
   refine ⟨v, t, rfl, ?_, OpsAt.argsA r h2 e2⟩
   match o, h1, e1 with
   | .val d, h1, e1 => cases e1; exact (RepP.top h1).any
   | .var i, h1, e1 =>
     replace e1 : argS (look ρ i) = some s := e1
     cases el : look ρ i with
     | none => rw [el] at e1; cases e1
     | some s' =>
       rw [el] at e1
       obtain ⟨v', ev', c⟩ := r.slot i _ el
       rw [show σ[i]? = some (some v) from h1] at ev'; cases ev'
       match s', e1, c with
       | .d x, e1, c => cases e1; exact c.top.any
       | .scr ns, e1, c =>
         cases e1
         cases em : mode md i with
         | pl => rw [em] at c; exact c
         | ow => rw [em] at c; exact c.elim
         | lk => rw [em] at c; exact c.elim
         | io => rw [em] at c; exact c.elim
def mCallA (m : List S -> Option S) (f : MA) : ME := fun ρ => (f ρ).bind fun x => (resA x.2 x.1).bind fun ss => (m ss).bind fun r => (unD (some r)).bind fun d => some (.val d, x.2)
def mnCallA (m : List S -> Option S) (f : MA) : MN := fun ρ => (f ρ).bind fun x => (resA x.2 x.1).bind fun ss => (m ss).bind fun r => (immS r).bind fun s => some (s, x.2)
theorem le_callA {t : TA} {f : MA} {m : List S -> Option S} {E : XK} (h : LA C md t f) : LE C md (tCall (spP C.K m) [] E t) (mCallA m f) := by
 intro A W ρ σ H Q o ρ' r e k
 unfold mCallA at e
 simp only [Option.bind_eq_some_iff] at e
 obtain ⟨⟨os, ρ1⟩, e1, ss, e2, s, e3, d, e4, e5⟩ := e
 cases e5
 cases unD_some e4
 refine h A W ρ σ H _ os _ r e1 fun vs H1 x1 r1 p1 => ?_
 rw [List.append_nil]
 refine ⟨ss, _, p1.argsA r1 e2, e3, fun v H2 s2 n => ?_⟩
 exact k v H2 (x1.trans (Same.ext s2)) (r1.same s2) (show RepP _ _ _ _ _ from n.repP.mono fun a _ o _ => r1.fresh o)
theorem ln_callA {t : TA} {f : MA} {m : List S -> Option S} {E : XK} (h : LA C md t f) : LN C md (tCall (spP C.K m) [] E t) (mnCallA m f) := by
 intro A W ρ σ H Q s ρ' r e k
 unfold mnCallA at e
 simp only [Option.bind_eq_some_iff] at e
 obtain ⟨⟨os, ρ1⟩, e1, ss, e2, s0, e3, s', e4, e5⟩ := e
 cases e5
 obtain ⟨l, rfl, rfl, hi⟩ := immS_some e4
 refine h A W ρ σ H _ os _ r e1 fun vs H1 x1 r1 p1 => ?_
 rw [List.append_nil]
 refine ⟨ss, _, p1.argsA r1 e2, e3, fun v H2 s2 n => ?_⟩
 obtain ⟨a, xs, rfl, h1, h2, h3⟩ := n
 exact k a H1 H2 x1 r1 h1 s2 ⟨xs, h2, RepPL.ofImm hi h3.repL⟩
def mnOp (g : D -> D -> Option D) (fa fb : ME) : MN := fun ρ =>
 (fa ρ).bind fun x => (fb x.2).bind fun y => (res y.2 x.1).bind fun d => (res y.2 y.1).bind fun e => (g d e).bind fun u => match u with
   | .lst l => some (.d (.lst l), y.2)
   | _ => none
def OpN (K : PySem.W.Frag) (r : R2) (g : D -> D -> Option D) : Prop := ∀ (H : Hp) (ok : Addr -> Prop) (x y : V) (d e : D) (l : List D) (Q : VK), RepT K H ok d x -> RepT K H ok e y -> g d e = some (.lst l) ->
 (∀ p xs, H p = none -> RepPL K H ok l xs -> Q (.ref p) (upd H p (.lst xs))) -> r x y H Q
theorem ln_op {r : R2} {g : D -> D -> Option D} {ta tb : TE} {fa fb : ME} (h : OpN C.K r g) (ha : LE C md ta fa) (hb : LE C md tb fb) : LN C md (tOp r ta tb) (mnOp g fa fb) := by
 intro A W ρ σ H Q s ρ' r0 e k
 unfold mnOp at e
 simp only [Option.bind_eq_some_iff] at e
 obtain ⟨⟨o1, ρ1⟩, e1, ⟨o2, ρ2⟩, e2, d, e3, c, e4, u, e5, e6⟩ := e
 match u, e5, e6 with
 | .lst l, e5, e6 =>
   cases e6
   refine ha A W ρ σ H _ o1 ρ1 r0 e1 fun v1 H1 x1 r1 p1 => ?_
   refine hb A W ρ1 σ H1 _ o2 _ r1 e2 fun v2 H2 x2 r2 p2 => ?_
   refine h H2 _ v1 v2 d c l Q ((p1.stay r1 x2).get r2 e3) (p2.get r2 e4) e5 fun p xs hp q => ?_
   have s := new_same (o := .lst xs) hp
   exact k p H2 _ (x1.trans x2) r2 hp s ⟨xs, upd_same, (q.apart hp).same s⟩
theorem on_mul {K : PySem.W.Frag} : OpN K rMulX mulX := by
 intro H ok x y d e u Q h1 h2 g k
 match d, e, g with
 | .lst l, .int j, g =>
   obtain ⟨p, xs, rfl, hp, rp⟩ := h1.lst_inv; obtain rfl := h2.int_inv
   replace g : (if -(2 ^ 63) <= j /\ j < 2 ^ 63 /\ l.length * j.toNat <= sizeLine then some (D.lst (List.replicate j.toNat l).flatten) else none) = some (.lst u) := g
   split at g
   · rename_i hz
     cases g
     exact ⟨p, j, xs, rfl, rfl, .inl hp, hz.1, hz.2.1, by rw [rp.length]; exact hz.2.2, fun t ht => k t _ ht (rp.rep j.toNat)⟩
   · cases g
 | .int i, .int j, g =>
   replace g : (if CMul i j then some (D.int (i * j)) else none) = some (.lst u) := g
   split at g <;> cases g
 | .str z, .int n, g =>
   replace g : (if 0 <= n /\ n <= 1000 /\ z.length <= 1000 then some (D.str (repS z n)) else none) = some (.lst u) := g
   split at g <;> cases g
def mPar (md : List Md) (i j : Nat) (f : MA) : MS := fun ρ => (f ρ).bind fun x => (stos md x.2 x.1).bind fun ds => match ds with
 | [d, e] => some (.nx, (x.2.set i (some (.d d))).set j (some (.d e)))
 | _ => none
theorem ls_par {i j : Nat} {t : TA} {f : MA} (hi : mode md i = .pl) (hj : mode md j = .pl) (h : LA C md t f) : LS C md (tPar i j t) (mPar md i j f) := by
 intro A W ρ σ H D fl ρ' r e k
 unfold mPar at e
 simp only [Option.bind_eq_some_iff] at e
 obtain ⟨⟨os, ρ1⟩, e1, ds, e2, e3⟩ := e
 match ds, e2, e3 with
 | [d, e], e2, e3 =>
   cases e3
   refine h A W ρ σ H _ os _ r e1 fun vs H1 x1 r1 p1 => ?_
   obtain ⟨v, z, rfl, pv, pz⟩ := (p1.stos r1 e2).cons_inv
   obtain ⟨w, y, rfl, pw, py⟩ := pz.cons_inv
   obtain rfl := py.nil_inv
   refine ⟨v, w, rfl, k A W _ H1 (Gr.ofExt x1) ((r1.setP hi pv).setP hj pw) fun l hl => ?_⟩
   rw [set_get (fun z => by rw [<- z] at hl; rcases hl with hl | hl <;> (rw [hj] at hl; cases hl)), set_get (fun z => by rw [<- z] at hl; rcases hl with hl | hl <;> (rw [hi] at hl; cases hl))]
def mAug (i : Nat) (g : Int -> Int -> Int) (f : ME) : MS := fun ρ => (look ρ i).bind fun s => (unD (some s)).bind fun d => (asI d).bind fun a => (f ρ).bind fun x => (res x.2 x.1).bind fun e => (asI e).bind fun b => some (.nx, x.2.set i (some (.d (.int (g a b)))))
theorem ls_aug {i : Nat} {g : Int -> Int -> Int} {t : TE} {f : ME} (hi : mode md i = .pl) (h : LE C md t f) : LS C md (tAug i t (ipI g)) (mAug i g f) := by
 intro A W ρ σ H D fl ρ' r e k
 unfold mAug at e
 simp only [Option.bind_eq_some_iff] at e
 obtain ⟨s, e0, d, e1, a, e2, ⟨o, ρ1⟩, e3, d', e4, b, e5, e6⟩ := e
 cases e6
 cases unD_some e1
 cases asI_some e2
 cases asI_some e5
 obtain ⟨v, ev, c⟩ := r.slot i _ e0
 rw [hi] at c
 have c : RepP C.K H (fun a => ¬ A a) (.int a) v := c
 rw [RepP] at c
 subst c
 refine ⟨_, ev, h A W ρ σ H _ o _ r e3 fun v H1 x1 r1 p1 => ⟨a, b, rfl, (p1.get r1 e4).int_inv, k A W _ H1 (Gr.ofExt x1) (r1.setP hi repP_int) fun l hl => ?_⟩⟩
 exact set_get (fun z => by rw [<- z] at hl; rcases hl with hl | hl <;> (rw [hi] at hl; cases hl))
end
end Mir
namespace L2
open PySem PySem.Spec PyProof.Rows
section
variable {X : Cx} {iter elt : Expr} {ifs : List Expr} {scope : Scope} {pos p1 p2 tp : Pos} {x1 x2 : Str} {tk : Nat} {tt : TT} {te : TE} {wi : TI} {g : TG}
theorem pe_compT2 (hc : X.calm = true) (S : CompScope X scope [x1, x2] (capIx X.N scope.names)) (hi : PI X (.Tuple [.Name x1 p1, .Name x2 p2] tk tp) iter wi)
   (hg : ∀ C s2 H2 fp, PG (compCx X scope [x1, x2] (capIx X.N scope.names) C s2 H2 fp) (.Tuple [.Name x1 p1, .Name x2 p2] tk tp) g) (ht : ∀ C s2 H2 fp, PIf (compCx X scope [x1, x2] (capIx X.N scope.names) C s2 H2 fp) ifs tt) (he : ∀ C s2 H2 fp, PE (compCx X scope [x1, x2] (capIx X.N scope.names) C s2 H2 fp) elt te)
   (hs : ∀ x, foldedSetIterable iter X.env x = pure x := by intro _; rfl) :
   PE X (.ListComp elt [⟨.Tuple [.Name x1 p1, .Name x2 p2] tk tp, iter, ifs, 0⟩] scope pos) (tComp 2 (capIx X.N scope.names) wi (lpW g tt (tEmit te))) :=
 pe_compT [x1, x2] hc S hi hg ht he hs
theorem ps_setCompT2 {i : Nat} {y : Str} {py sp : Pos} (hc : X.calm = true) (S : CompScope X scope [x1, x2] (capIx X.N scope.names)) (hi : PI X (.Tuple [.Name x1 p1, .Name x2 p2] tk tp) iter wi)
   (hg : ∀ C s2 H2 fp, PG (compCx X scope [x1, x2] (capIx X.N scope.names) C s2 H2 fp) (.Tuple [.Name x1 p1, .Name x2 p2] tk tp) g) (ht : ∀ C s2 H2 fp, PIf (compCx X scope [x1, x2] (capIx X.N scope.names) C s2 H2 fp) ifs tt) (he : ∀ C s2 H2 fp, PE (compCx X scope [x1, x2] (capIx X.N scope.names) C s2 H2 fp) elt te)
   (hN0 : X.N.Nodup) (hiN : X.N[i]? = some y) (hy : X.env.kindOf y = some .local)
   (hsw : swapsWith (.ListComp elt [⟨.Tuple [.Name x1 p1, .Name x2 p2] tk tp, iter, ifs, 0⟩] scope pos) (some (.Name y py)) sp.line X.env = pure true := by rfl) (hs : ∀ x, foldedSetIterable iter X.env x = pure x := by intro _; rfl) :
   PS X (.Assign [.Name y py] (.ListComp elt [⟨.Tuple [.Name x1 p1, .Name x2 p2] tk tp, iter, ifs, 0⟩] scope pos) sp) (tAsg (tComp 2 (capIx X.N scope.names) wi (lpW g tt (tEmit te))) (gName i)) :=
 ps_setCompT [x1, x2] hc S hi hg ht he hN0 hiN hy hsw hs
end
end L2
namespace L2
open PySem PySem.Spec PyProof.Rows
section
variable {X : Cx} {K : PySem.W.Frag} {o e : Expr} {es : List Expr} {to : TE} {t : TA} {name : Str} {apos cpos : Pos} {T id : String} {r : V -> List V -> Hp -> VK -> Prop}
theorem pe_bm0K (kt : KT K) (pa : PlainAttrs T) (slot : Slot T name id) (hty : typeOf (.builtin id) = pure (.type "method_descriptor")) (hm : MtR X id r) (ho : PE X o to)
   (hbase : attributeBase o name X.env (eval o X.env) = eval o X.env := by rfl) (hline : (apos.endLine == cpos.line) = true := by rfl) (hK : X.K = K := by rfl) : PE X (.Call (.Attribute o name apos) [] [] cpos) (tBM0 K T r to) := by
 subst hK
 exact pe_bm0 pa slot hty hm ho hbase hline
theorem pe_bmZ (kt : KT K) (pa : PlainAttrs T) (slot : Slot T name id) (hty : typeOf (.builtin id) = pure (.type "method_descriptor")) (hm : MtR X id r) (ho : PE X o to) (ha : PA X (e :: es) t)
   (hbase : attributeBase o name X.env (eval o X.env) = eval o X.env := by rfl)
   (hfew : ((backTo cpos (starEach (e :: es) X.env)).all (fun x => !x.1) && (backToKw cpos (keywordEach [] X.env)).all (fun x => x.1.isSome)
     && decide ((e :: es).length + ([] : List Keyword).length + (if ([] : List Keyword).isEmpty then 0 else 1) < 30)) = true := by rfl)
   (hline : (apos.endLine == cpos.line) = true := by rfl) (hs : starEach (e :: es) X.env = (false, eval e X.env) :: starEach es X.env := by rfl) (hplain : (backTo cpos (starEach es X.env)).any (·.1) = false := by rfl) (hK : X.K = K := by rfl) :
   PE X (.Call (.Attribute o name apos) (e :: es) [] cpos) (tBM K T r to t) := by
 subst hK
 exact pe_bm pa slot hty hm ho ha hbase hfew hline hs hplain
end
end L2
namespace Mir
open PySem PySem.Spec PyProof.Rows L2
section
variable {C : Cn} {md : List Md} {nt : Nat} {ix ix' kp : List Nat}
theorem ln_compE {lj : Option Nat} {wi : TI} {g : TG} {tt : TT} {tb : TB} {fi : MI} {fg : MG} {ft : MT} {fb : MB} (he : ix' = ix) (hx : ix.Nodup) (hk : ∀ j ∈ kp, j ∈ ix /\ (mode md j = .ow ∨ mode md j = .io)) (hl : ∀ j, lj = some j -> j ∉ kp)
   (hi : LI C md lj wi fi) (hg : LG C (mdIn md nt ix kp) (fun j => nt <= j) g fg) (ht : LT C (mdIn md nt ix kp) tt ft) (hb : LB C (mdIn md nt ix kp) nt tb fb) : LN C md (tComp nt ix' wi (lpW g tt tb)) (mnComp nt ix kp fi (lpM fg ft fb)) := by
 subst he
 exact ln_comp hx hk hl hi hg ht hb
theorem le_compE {lj : Option Nat} {wi : TI} {g : TG} {tt : TT} {tb : TB} {fi : MI} {fg : MG} {ft : MT} {fb : MB} (he : ix' = ix) (hx : ix.Nodup) (hk : ∀ j ∈ kp, j ∈ ix /\ (mode md j = .ow ∨ mode md j = .io)) (hl : ∀ j, lj = some j -> j ∉ kp)
   (hi : LI C md lj wi fi) (hg : LG C (mdIn md nt ix kp) (fun j => nt <= j) g fg) (ht : LT C (mdIn md nt ix kp) tt ft) (hb : LB C (mdIn md nt ix kp) nt tb fb) : LE C md (tComp nt ix' wi (lpW g tt tb)) (mComp nt ix kp fi (lpM fg ft fb)) := by
 subst he
 exact le_comp hx hk hl hi hg ht hb
end
end Mir
namespace Mir
open PySem L2
abbrev ltD : D -> D -> Option D := cmpD (fun i j => decide (i < j)) ltC
abbrev leD : D -> D -> Option D := cmpD (fun i j => decide (i <= j)) (fun x y => !ltC y x)
abbrev gtD : D -> D -> Option D := cmpD (fun i j => decide (j < i)) (fun x y => ltC y x)
abbrev geD : D -> D -> Option D := cmpD (fun i j => decide (j <= i)) (fun x y => !ltC x y)
end Mir
namespace Mir
open PySem L2
def allPl : Nat -> List Md -> Bool
 | 0, _ => true
 | _ + 1, [] => true
 | n + 1, m :: r => (match m with | .pl => true | _ => false) && allPl n r
theorem modes_pl : ∀ {n : Nat} {md : List Md}, allPl n md = true -> ∀ i, i < n -> mode md i = .pl
 | 0, md, h, i, hi => absurd hi (Nat.not_lt_zero _)
 | n + 1, [], h, i, hi => rfl
 | n + 1, m :: r, h, 0, hi => by
   simp only [allPl, Bool.and_eq_true] at h
   cases m <;> simp at h <;> rfl
 | n + 1, m :: r, h, i + 1, hi => by
   simp only [allPl, Bool.and_eq_true] at h
   exact modes_pl (n := n) (md := r) h.2 i (by omega)
theorem modes_io {n : Nat} {m : Md} {md : List Md} (h : allPl n md = true) : ∀ i, i + 1 < n + 1 -> mode (m :: md) (i + 1) = .pl := fun i hi => modes_pl h i (by omega)
end Mir
namespace Mir
open PySem PySem.Spec PyProof.Rows L2
section
variable {P : Program} {w : World} {K : PySem.W.Frag} {mg : Str -> Option Value} {base : Heap} {x qual : Str} {st : Stmt} {f : Addr} {fd : FuncData} {N ps : List Str} {k n np : Nat} {md : List Md} {mb : MS}
abbrev Body (P : Program) (w : World) (K : PySem.W.Frag) (mg : Str -> Option Value) (base : Heap) (qual : Str) (st : Stmt) (f : Addr) (N : List Str) (k : Nat) (md : List Md) (mb : MS) : Prop :=
 ∀ (cdv : Value) (A : Around) (outer : List Env) (s : Shared) (H : Hp) (E : XK), Room k (A.deeper (envOfC qual (defScope st) s.heap.objs.size f cdv)) ->
     ∃ t, PSs (cxOf CX0 P w K mg base N qual (defScope st) f cdv A outer s H E).nox (defBody st) t /\ ∀ C : Cn, C.K = K -> LS C md t mb
theorem fn_pureE {m : List S -> Option S} (F : Fun K x qual st f fd) (S0 : FnScope N ps (defScope st)) (hn : N.length = n) (hp : ps.length = np) (hm : m = mFn n np mb) (hle : Nat.ble np n = true) (hmd : allPl np md = true)
   (hb : Body P w K mg base qual st f N k md mb) : FnOk P w K mg base CX0 (k + 1) f fd ps (spP K m) := by
 subst hn hp hm
 exact fn_pure F S0 (Nat.le_of_ble_eq_true hle) (modes_pl hmd) hb
abbrev BodyF (fr : Bool) (P : Program) (w : World) (K : PySem.W.Frag) (mg : Str -> Option Value) (base : Heap) (qual : Str) (st : Stmt) (f : Addr) (N : List Str) (k : Nat) (md : List Md) (mb : MS) : Prop :=
 ∀ (cdv : Value) (A : Around) (outer : List Env) (s : Shared) (H : Hp) (E : XK), Room k (A.deeper (envOfC qual (defScope st) s.heap.objs.size f cdv)) ->
     ∃ t, PSs (cxOf CX0 P w K mg base N qual (defScope st) f cdv A outer s H E).nox (defBody st) t /\ ∀ C : Cn, C.K = K -> C.free = fr -> LS C md t mb
theorem fn_ioE {m : List S -> Option (S × S)} {md' : List Md} (fr : Bool) (F : Fun K x qual st f fd) (S0 : FnScope N ps (defScope st)) (hn : N.length = n) (hp : ps.length = np + 1) (hm : m = mFnF fr n (np + 1) mb) (hle : Nat.ble (np + 1) n = true) (he : md = .io :: md') (hmd : allPl np md' = true)
   (hb : BodyF fr P w K mg base qual st f N k md mb) : FnOk P w K mg base CX0 (k + 1) f fd ps (spM K m) := by
 subst hn hm he
 rw [<- hp] at hle ⊢
 exact fn_io fr F S0 (Nat.le_of_ble_eq_true hle) rfl (fun i hi => modes_io hmd i (by omega)) hb
theorem fn_lawE {m : List S -> Option S} (F : Fun K x qual st f fd) (S0 : FnScope N ["script"] (defScope st)) (hn : N.length = n) (hm : m = mFn n 1 mb) (hle : Nat.ble 1 n = true) (hmd : mode md 0 = .pl)
   (ok : ∀ ns : List Int, ns.length <= 63 -> m [.scr ns] = some (.d (.bl true))) (hb : Body P w K mg base qual st f N k md mb) : FnOk P w K mg base CX0 (k + 1) f fd ["script"] (spLawM K) := by
 subst hn hm
 exact fn_law F S0 hmd ok hb (Nat.le_of_ble_eq_true hle)
end
end Mir
namespace Mir
open PySem L2
def md_nest_price : List Md := [.pl, .pl, .pl, .pl, .pl, .pl]
def mb_nest_price : MS := mSeq (mFor (mSeqI md_nest_price (mOp ixD (mVar 0) (mC (.int 2)))) (mgName 5) (mIfS (mB (mOp (eqD 4 false) (mSl (mVar 5) moNo (moPart (mC (.int 4)))) (mTup md_nest_price (mCons (mVar 1) (mCons (mVar 2) (mCons (mVar 3) (mCons (mVar 4) mNil))))))) (mRet (mOp ixD (mVar 5) (mC (.int 4)))) (mNext))) (mRet (mC (.int 0)))
def m_nest_price : List S -> Option S := mFn 6 5 mb_nest_price
def md_end_price : List Md := [.pl, .pl, .pl]
def mb_end_price : MS := mSeq (mAsg md_end_price (mOp ixD (mVar 0) (mC (.int 3))) (mgName 2)) (mRet (mOp ixD (mVar 2) (mCB min2D (mCons (mVar 1) (mCons (mOp subD (mCB lenD (mCons (mVar 2) mNil)) (mC (.int 1))) mNil)))))
def m_end_price : List S -> Option S := mFn 3 2 mb_end_price
def md_step_price : List Md := [.pl, .pl, .pl, .pl, .pl, .pl]
def mb_step_price : MS := mSeq (mIfS (mB (mOp (eqD 4 false) (mVar 4) (mC (.int 0)))) (mRet (mCallA m_nest_price (mCons (mVar 0) (mCons (mOp ixD (mVar 1) (mOp ixD (mVar 2) (mC (.int 0)))) (mCons (mOp ixD (mVar 1) (mOp ixD (mVar 2) (mC (.int 1)))) (mCons (mOp ixD (mVar 1) (mOp ixD (mVar 3) (mC (.int 0)))) (mCons (mOp ixD (mVar 1) (mOp ixD (mVar 3) (mC (.int 1)))) mNil))))))) (mNext)) (mSeq (mAsg md_step_price (mOp ixD (mVar 0) (mC (.int 4))) (mgName 5)) (mRet (mOp ixD (mVar 5) (mOp subD (mCB min2D (mCons (mVar 4) (mCons (mCB lenD (mCons (mVar 5) mNil)) mNil))) (mC (.int 1))))))
def m_step_price : List S -> Option S := mFn 6 5 mb_step_price
def md_fork_price : List Md := [.pl, .pl, .pl, .pl, .pl, .pl]
def mb_fork_price : MS := mSeq (mAsg md_fork_price (mOp ixD (mVar 0) (mC (.int 5))) (mgTup 3 (mgCons (mgName 3) (mgCons (mgName 4) (mgCons (mgName 5) mgNil))))) (mRet (mOp addD (mOp addD (mVar 3) (mOp mulX (mVar 4) (mVar 1))) (mOp mulX (mVar 5) (mVar 2))))
def m_fork_price : List S -> Option S := mFn 6 3 mb_fork_price
def md_ring_price : List Md := [.pl, .pl, .pl, .pl, .pl]
def mb_ring_price : MS := mSeq (mIfS (mB (mOp (eqD 4 false) (mCB lenD (mCons (mVar 3) mNil)) (mC (.int 0)))) (mRet (mCallA m_end_price (mCons (mVar 0) (mCons (mVar 4) mNil)))) (mNext)) (mSeq (mIfS (mB (mOp (eqD 4 false) (mCB lenD (mCons (mVar 3) mNil)) (mC (.int 1)))) (mRet (mCallA m_step_price (mCons (mVar 0) (mCons (mVar 1) (mCons (mVar 2) (mCons (mOp ixD (mVar 3) (mC (.int 0))) (mCons (mVar 4) mNil))))))) (mNext)) (mRet (mCallA m_fork_price (mCons (mVar 0) (mCons (mCB lenD (mCons (mVar 3) mNil)) (mCons (mVar 4) mNil))))))
def m_ring_price : List S -> Option S := mFn 5 5 mb_ring_price
def mdwcell : List Md := [.pl, .pl, .pl]
def mbwcell : MS := mSeq (mIfS (mB (mOp ltD (mVar 1) (mLenS 0))) (mRet (mOp modD (mIxS 0 (mVar 1)) (mOp powD (mC (.int 10)) (mC (.int 18))))) (mNext)) (mSeq (mAsg mdwcell (mOp addD (mC (.int 13)) (mOp mulX (mOp mulX (mC (.int 5)) (mVar 1)) (mVar 1))) (mgName 2)) (mSeq (mIfS (mB (mOp gtD (mLenS 0) (mC (.int 0)))) (mAsg mdwcell (mOp addD (mVar 2) (mOp mulX (mOp modD (mIxS 0 (mOp modD (mVar 1) (mLenS 0))) (mC (.int 1000003))) (mOp addD (mVar 1) (mC (.int 3))))) (mgName 2)) (mNext)) (mSeq (mAsg mdwcell (mOp modD (mOp mulX (mVar 2) (mC (.int 48271))) (mC (.int 2147483647))) (mgName 2)) (mRet (mOp divD (mOp modD (mOp powD (mVar 2) (mC (.int 5))) (mC (.int 2147483647))) (mC (.int 3)))))))
def mlwcell : List S -> Option S := mFn 3 2 mbwcell
def mdwprices : List Md := [.pl, .pl, .pl, .ow, .pl, .pl]
def mbwprices : MS := mSeq (mAsgN (mnLst mdwprices mNil) 3) (mSeq (mFor (mRng1 (mCons (mVar 2) mNil)) (mgName 4) (mSeq (mAsg mdwprices (mOp divD (mCallA mlwcell (mCons (mVar 0) (mCons (mVar 1) mNil))) (mOp addD (mC (.int 1)) (mOp mulX (mOp mulX (mC (.int 23)) (mVar 4)) (mOp addD (mVar 4) (mC (.int 2)))))) (mgName 5)) (mDrop (mAppend mdwprices 3 (mCons (mOp ixD (mLst mdwprices (mCons (mOp subD (mOp modD (mOp divD (mVar 5) (mC (.int 5))) (mC (.int 19))) (mC (.int 9))) (mCons (mOp subD (mOp modD (mOp divD (mVar 5) (mC (.int 5))) (mC (.int 5))) (mC (.int 2))) mNil))) (mCB intD (mCons (mOp ltD (mOp modD (mVar 5) (mC (.int 5))) (mC (.int 3))) mNil))) mNil))))) (mRet (mCB tupX (mCons (mVar 3) mNil))))
def mlwprices : List S -> Option S := mFn 6 3 mbwprices
def mdwletters : List Md := [.pl, .pl, .pl]
def mbwletters : MS := mSeq (mAsg mdwletters (mCallA mlwcell (mCons (mVar 0) (mCons (mC (.int 0)) mNil))) (mgName 1)) (mSeq (mAsg mdwletters (mC (.str ("abcdefghijklmnopqrstuvwxyz" : Str))) (mgName 2)) (mRetNew (mnComp 1 [2, 1] [] (mRng1 (mCons (mOp addD (mC (.int 1)) (mOp modD (mOp divD (mVar 1) (mC (.int 130))) (mC (.int 4)))) mNil)) (lpM (mgName 0) mYes (mEmit (mdIn mdwletters 1 [2, 1] []) (mOp ixD (mVar 1) (mOp modD (mOp addD (mVar 2) (mOp mulX (mVar 0) (mOp addD (mC (.int 1)) (mOp modD (mOp divD (mVar 2) (mC (.int 26))) (mC (.int 5)))))) (mC (.int 26)))))))))
def mlwletters : List S -> Option S := mFn 3 1 mbwletters
def mdwbook : List Md := [.pl, .pl, .pl, .pl, .ow, .ow, .pl, .pl, .pl, .pl, .pl, .pl, .pl, .pl, .pl, .pl]
def mbwbook : MS := mSeq (mAsg mdwbook (mCallA mlwletters (mCons (mVar 0) mNil)) (mgName 1)) (mSeq (mAsg mdwbook (mCallA mlwcell (mCons (mVar 0) (mCons (mC (.int 1)) mNil))) (mgName 2)) (mSeq (mAsg mdwbook (mCallA mlwprices (mCons (mVar 0) (mCons (mC (.int 2)) (mCons (mC (.int 16)) mNil)))) (mgName 3)) (mSeq (mAsgN (mnLst mdwbook mNil) 4) (mSeq (mAsgN (mnLst mdwbook mNil) 5) (mSeq (mFor (mRng1 (mCons (mCB lenD (mCons (mVar 1) mNil)) mNil)) (mgName 6) (mFor (mRng1 (mCons (mCB lenD (mCons (mVar 1) mNil)) mNil)) (mgName 7) (mIfS (mB (mOp gtD (mOp modD (mOp divD (mVar 2) (mOp addD (mOp addD (mC (.int 7)) (mOp mulX (mC (.int 3)) (mVar 6))) (mOp mulX (mC (.int 11)) (mVar 7)))) (mC (.int 4))) (mC (.int 0)))) (mDrop (mAppend mdwbook 4 (mCons (mTup mdwbook (mCons (mOp ixD (mVar 1) (mVar 6)) (mCons (mOp ixD (mVar 1) (mVar 7)) (mCons (mOp ixD (mVar 3) (mOp addD (mOp mulX (mC (.int 4)) (mVar 6)) (mVar 7))) mNil)))) mNil))) (mNext)))) (mSeq (mAsg mdwbook (mCallA mlwprices (mCons (mVar 0) (mCons (mC (.int 3)) (mCons (mC (.int 6)) mNil)))) (mgName 8)) (mSeq (mFor (mRng1 (mCons (mOp mulX (mOp modD (mOp divD (mCallA mlwcell (mCons (mVar 0) (mCons (mC (.int 5)) mNil))) (mC (.int 512))) (mC (.int 7))) (mCB intD (mCons (mOp (eqD 4 true) (mVar 4) (mLst mdwbook mNil)) mNil))) mNil)) (mgName 7) (mSeq (mAsg mdwbook (mOp ixD (mVar 4) (mOp modD (mOp divD (mVar 2) (mOp addD (mC (.int 1)) (mOp mulX (mC (.int 5)) (mVar 7)))) (mCB lenD (mCons (mVar 4) mNil)))) (mgName 9)) (mSeq (mAsg mdwbook (mOp ixD (mVar 4) (mOp modD (mOp divD (mVar 2) (mOp addD (mC (.int 3)) (mOp mulX (mC (.int 7)) (mVar 7)))) (mCB lenD (mCons (mVar 4) mNil)))) (mgName 10)) (mIfS (mB (mOp (eqD 4 false) (mComp 1 [9, 10] [] (mSeqV 5) (lpM (mgName 0) (mB (mOp (eqD 4 false) (mSl (mVar 0) moNo (moPart (mC (.int 4)))) (mOp addD (mSl (mVar 1) moNo (moPart (mC (.int 2)))) (mSl (mVar 2) moNo (moPart (mC (.int 2))))))) (mEmit (mdIn mdwbook 1 [9, 10] []) (mVar 0)))) (mLst mdwbook mNil))) (mDrop (mAppend mdwbook 5 (mCons (mOp addD (mOp addD (mSl (mVar 9) moNo (moPart (mC (.int 2)))) (mSl (mVar 10) moNo (moPart (mC (.int 2))))) (mTup mdwbook (mCons (mOp ixD (mVar 8) (mVar 7)) mNil))) mNil))) (mNext))))) (mSeq (mAsg mdwbook (mCallA mlwprices (mCons (mVar 0) (mCons (mC (.int 4)) (mCons (mC (.int 19)) mNil)))) (mgName 11)) (mSeq (mAsg mdwbook (mOp subD (mOp modD (mOp divD (mCallA mlwcell (mCons (mVar 0) (mCons (mC (.int 4)) mNil))) (mC (.int 11))) (mC (.int 5))) (mC (.int 2))) (mgName 12)) (mSeq (mAsg mdwbook (mOp ixD (mLst mdwbook (mCons (mC (.int 0)) (mCons (mC (.int 0)) (mCons (mC (.int 1)) (mCons (mC (.int 2)) (mCons (mC (.int 0)) (mCons (mC (.int 6)) (mCons (mC (.int 1)) (mCons (mC (.int 3)) (mCons (mC (.int 4)) (mCons (mC (.int 5)) mNil))))))))))) (mOp modD (mOp divD (mCallA mlwcell (mCons (mVar 0) (mCons (mC (.int 5)) mNil))) (mC (.int 4096))) (mC (.int 10)))) (mgName 13)) (mSeq (mAsg mdwbook (mSl (mVar 11) moNo (moPart (mOp addD (mC (.int 1)) (mOp modD (mOp divD (mCallA mlwcell (mCons (mVar 0) (mCons (mC (.int 5)) mNil))) (mC (.int 8))) (mC (.int 8)))))) (mgName 14)) (mSeq (mAsg mdwbook (mSl (mVar 11) (moPart (mC (.int 8))) (moPart (mOp addD (mC (.int 9)) (mOp modD (mOp divD (mCallA mlwcell (mCons (mVar 0) (mCons (mC (.int 5)) mNil))) (mC (.int 64))) (mC (.int 8)))))) (mgName 15)) (mRet (mTup mdwbook (mCons (mVar 13) (mCons (mCB tupX (mCons (mVar 4) mNil)) (mCons (mCB tupX (mCons (mVar 5) mNil)) (mCons (mVar 14) (mCons (mVar 15) (mCons (mTup mdwbook (mCons (mOp ixD (mVar 11) (mC (.int 16))) (mCons (mOp ixD (mVar 11) (mC (.int 17))) (mCons (mVar 12) mNil)))) mNil))))))))))))))))))))
def mlwbook : List S -> Option S := mFn 16 1 mbwbook
def mdwcord : List Md := [.pl, .pl, .pl, .pl, .pl, .pl, .pl]
def mbwcord : MS := mSeq (mAsg mdwcord (mCallA mlwletters (mCons (mVar 0) mNil)) (mgName 2)) (mSeq (mAsg mdwcord (mCallA mlwcell (mCons (mVar 0) (mCons (mC (.int 6)) mNil))) (mgName 3)) (mSeq (mAsg mdwcord (mC (.str ("" : Str))) (mgName 4)) (mSeq (mAsg mdwcord (mOp ixD (mLst mdwcord (mCons (mOp subD (mVar 1) (mOp modD (mOp divD (mVar 3) (mC (.int 8))) (mOp addD (mOp divD (mVar 1) (mC (.int 2))) (mC (.int 1))))) (mCons (mOp modD (mOp divD (mVar 3) (mC (.int 8))) (mOp addD (mVar 1) (mC (.int 1)))) mNil))) (mCB intD (mCons (mOp (eqD 4 false) (mOp modD (mVar 3) (mC (.int 8))) (mC (.int 0))) mNil))) (mgName 5)) (mSeq (mFor (mRng1 (mCons (mVar 5) mNil)) (mgName 6) (mAsg mdwcord (mOp addD (mVar 4) (mOp ixD (mVar 2) (mOp modD (mOp divD (mCallA mlwcell (mCons (mVar 0) (mCons (mOp addD (mC (.int 7)) (mOp divD (mVar 6) (mC (.int 5)))) mNil))) (mOp addD (mC (.int 1)) (mOp mulX (mOp mulX (mC (.int 13)) (mOp modD (mVar 6) (mC (.int 5)))) (mOp addD (mOp modD (mVar 6) (mC (.int 5))) (mC (.int 1)))))) (mCB lenD (mCons (mVar 2) mNil))))) (mgName 4))) (mRet (mVar 4))))))
def mlwcord : List S -> Option S := mFn 7 2 mbwcord
def mdwdue : List Md := [.pl, .pl, .pl, .pl, .pl, .pl, .pl, .pl, .pl, .pl, .pl, .pl, .pl]
def mbwdue : MS := mSeq (mAsg mdwdue (mOp addD (mCB listX (mCons (mOp ixD (mVar 0) (mC (.int 3))) mNil)) (mOp mulX (mLst mdwdue (mCons (mOp ixD (mOp ixD (mVar 0) (mC (.int 3))) (mUn negD (mC (.int 1)))) mNil)) (mC (.int 30)))) (mgName 5)) (mSeq (mAsg mdwdue (mOp addD (mCB listX (mCons (mOp ixD (mVar 0) (mC (.int 4))) mNil)) (mOp mulX (mLst mdwdue (mCons (mOp ixD (mOp ixD (mVar 0) (mC (.int 4))) (mUn negD (mC (.int 1)))) mNil)) (mC (.int 30)))) (mgName 6)) (mSeq (mIfS (mB (mOp (eqD 4 false) (mVar 3) (mLst mdwdue mNil))) (mRet (mOp ixD (mVar 5) (mVar 4))) (mNext)) (mSeq (mIfS (mB (mOp gtD (mCB lenD (mCons (mVar 3) mNil)) (mC (.int 1)))) (mRet (mOp addD (mOp addD (mOp ixD (mOp ixD (mVar 0) (mC (.int 5))) (mC (.int 0))) (mCB sumD (mCons (mComp 1 [0] [] (mSeqI mdwdue (mVar 3)) (lpM (mgName 0) mYes (mEmit (mdIn mdwdue 1 [0] []) (mOp ixD (mOp ixD (mVar 1) (mC (.int 5))) (mC (.int 1)))))) mNil))) (mCB sumD (mCons (mComp 1 [0] [] (mRng1 (mCons (mVar 4) mNil)) (lpM (mgName 0) mYes (mEmit (mdIn mdwdue 1 [0] []) (mOp ixD (mOp ixD (mVar 1) (mC (.int 5))) (mC (.int 2)))))) mNil)))) (mNext)) (mSeq (mIfS (mB (mOp gtD (mVar 4) (mC (.int 0)))) (mRet (mOp ixD (mVar 6) (mOp subD (mVar 4) (mC (.int 1))))) (mNext)) (mSeq (mAsg mdwdue (mC (.int 0)) (mgName 7)) (mSeq (mFor (mSeqI mdwdue (mOp ixD (mVar 0) (mC (.int 2)))) (mgTup 5 (mgCons (mgName 8) (mgCons (mgName 9) (mgCons (mgName 10) (mgCons (mgName 11) (mgCons (mgName 12) mgNil)))))) (mIfS (mAnd (mB (mOp (eqD 4 false) (mOp addD (mVar 8) (mVar 9)) (mOp addD (mOp ixD (mVar 1) (mOp ixD (mVar 2) (mC (.int 0)))) (mOp ixD (mVar 1) (mOp ixD (mVar 2) (mC (.int 1))))))) (mB (mOp (eqD 4 false) (mOp addD (mVar 10) (mVar 11)) (mOp addD (mOp ixD (mVar 1) (mOp ixD (mOp ixD (mVar 3) (mC (.int 0))) (mC (.int 0)))) (mOp ixD (mVar 1) (mOp ixD (mOp ixD (mVar 3) (mC (.int 0))) (mC (.int 1)))))))) (mAsg mdwdue (mVar 12) (mgName 7)) (mNext))) (mRet (mVar 7))))))))
def mlwdue : List S -> Option S := mFn 13 5 mbwdue
def mdwinner : List Md := [.pl, .pl, .pl, .ow, .pl, .pl, .pl, .pl]
def mbwinner : MS := mSeq (mAsgN (mnLst mdwinner mNil) 3) (mSeq (mAsg mdwinner (mOp addD (mVar 1) (mC (.int 1))) (mgName 4)) (mSeq (mFor (mRng1 (mCons (mOp modD (mVar 0) (mC (.int 10))) mNil)) (mgName 5) (mSeq (mAsg mdwinner (mOp addD (mVar 4) (mOp mulX (mOp modD (mOp divD (mVar 0) (mOp addD (mC (.int 7)) (mOp mulX (mC (.int 5)) (mVar 5)))) (mC (.int 3))) (mCB intD (mCons (mOp gtD (mOp modD (mOp divD (mVar 0) (mC (.int 6))) (mC (.int 3))) (mC (.int 0))) mNil)))) (mgName 6)) (mSeq (mAsg mdwinner (mOp addD (mOp addD (mVar 6) (mC (.int 1))) (mOp mulX (mOp modD (mOp divD (mVar 0) (mOp addD (mC (.int 11)) (mOp mulX (mC (.int 3)) (mVar 5)))) (mC (.int 3))) (mCB intD (mCons (mOp gtD (mOp modD (mOp divD (mVar 0) (mC (.int 18))) (mC (.int 3))) (mC (.int 0))) mNil)))) (mgName 7)) (mIfS (mB (mOp ltD (mVar 7) (mVar 2))) (mSeq (mDrop (mAppend mdwinner 3 (mCons (mTup mdwinner (mCons (mVar 6) (mCons (mVar 7) mNil))) mNil))) (mAsg mdwinner (mOp addD (mVar 7) (mC (.int 1))) (mgName 4))) (mNext))))) (mRetV 3)))
def mlwinner : List S -> Option S := mFn 8 3 mbwinner
def mdwright : List Md := [.pl, .pl, .pl, .pl, .pl, .pl, .pl, .pl, .pl, .pl, .pl, .pl, .pl, .pl]
def mbwright : MS := mSeq (mAsg mdwright (mCallA mlwbook (mCons (mVar 0) mNil)) (mgName 2)) (mSeq (mAsg mdwright (mSl (mOp addD (mOp addD (mCallA mlwcord (mCons (mVar 0) (mCons (mC (.int 20)) mNil))) (mOp mulX (mJoin ("" : Str) (mCons (mCallA mlwletters (mCons (mVar 0) mNil)) mNil)) (mC (.int 5)))) (mC (.str ("aa" : Str)))) moNo (moPart (mC (.int 20)))) (mgName 3)) (mSeq (mAsg mdwright (mCallA mlwcell (mCons (mVar 0) (mCons (mOp addD (mC (.int 20)) (mVar 1)) mNil))) (mgName 4)) (mSeq (mAsg mdwright (mOp modD (mVar 4) (mOp subD (mCB lenD (mCons (mVar 3) mNil)) (mC (.int 1)))) (mgName 5)) (mSeq (mAsg mdwright (mOp subD (mOp subD (mCB lenD (mCons (mVar 3) mNil)) (mC (.int 1))) (mVar 5)) (mgName 6)) (mSeq (mAsg mdwright (mOp subD (mOp subD (mCB lenD (mCons (mVar 3) mNil)) (mC (.int 1))) (mOp mulX (mOp modD (mOp divD (mVar 4) (mC (.int 400))) (mVar 6)) (mCB intD (mCons (mOp gtD (mOp modD (mOp divD (mVar 4) (mC (.int 20))) (mC (.int 3))) (mC (.int 0))) mNil)))) (mgName 7)) (mSeq (mAsg mdwright (mCallA mlwinner (mCons (mOp divD (mVar 4) (mC (.int 1200))) (mCons (mVar 5) (mCons (mVar 7) mNil)))) (mgName 8)) (mSeq (mAsg mdwright (mOp subD (mOp subD (mOp subD (mVar 7) (mVar 5)) (mC (.int 1))) (mCB sumD (mCons (mComp 2 [] [] (mSeqI mdwright (mVar 8)) (lpM (mgTup 2 (mgCons (mgName 0) (mgCons (mgName 1) mgNil))) mYes (mEmit (mdIn mdwright 2 [] []) (mOp addD (mOp subD (mVar 1) (mVar 0)) (mC (.int 1)))))) mNil))) (mgName 9)) (mSeq (mAsg mdwright (mCB listX (mCons (mVar 8) mNil)) (mgName 10)) (mSeq (mIfS (mAnd (mB (mOp (eqD 4 false) (mCB lenD (mCons (mVar 8) mNil)) (mC (.int 1)))) (mB (mOp (eqD 4 false) (mOp modD (mOp divD (mVar 4) (mC (.int 7))) (mC (.int 2))) (mC (.int 0))))) (mSeq (mAsg mdwright (mTup mdwright (mCons (mOp ixD (mVar 3) (mVar 5)) (mCons (mOp ixD (mVar 3) (mVar 7)) (mCons (mOp ixD (mVar 3) (mOp ixD (mOp ixD (mVar 8) (mC (.int 0))) (mC (.int 0)))) (mCons (mOp ixD (mVar 3) (mOp ixD (mOp ixD (mVar 8) (mC (.int 0))) (mC (.int 1)))) mNil))))) (mgName 11)) (mSeq (mAsg mdwright (mOp addD (mComp 1 [11] [] (mSeqI mdwright (mOp ixD (mVar 2) (mC (.int 2)))) (lpM (mgName 0) (mB (mOp (eqD 4 true) (mSl (mVar 0) moNo (moPart (mC (.int 4)))) (mVar 1))) (mEmit (mdIn mdwright 1 [11] []) (mVar 0)))) (mLst mdwright (mCons (mOp addD (mVar 11) (mTup mdwright (mCons (mOp subD (mOp modD (mOp divD (mVar 4) (mC (.int 11))) (mC (.int 19))) (mC (.int 9))) mNil))) mNil))) (mgName 12)) (mAsg mdwright (mOp addD (mOp addD (mSl (mVar 2) moNo (moPart (mC (.int 2)))) (mTup mdwright (mCons (mCB tupX (mCons (mVar 12) mNil)) mNil))) (mSl (mVar 2) (moPart (mC (.int 3))) moNo)) (mgName 2)))) (mNext)) (mSeq (mAsg mdwright (mCallA m_ring_price (mCons (mVar 2) (mCons (mVar 3) (mCons (mTup mdwright (mCons (mVar 5) (mCons (mVar 7) mNil))) (mCons (mVar 8) (mCons (mVar 9) mNil)))))) (mgName 13)) (mSeq (mIfS (mOr (mNot (mTru (mIsi "int" (mVar 13)))) (mOr (mTru (mIsi "bool" (mVar 13))) (mB (mOp (eqD 4 true) (mVar 8) (mVar 10))))) (mRet (mC (.bl false))) (mNext)) (mRet (mOp (eqD 4 false) (mVar 13) (mCallA mlwdue (mCons (mVar 2) (mCons (mVar 3) (mCons (mTup mdwright (mCons (mVar 5) (mCons (mVar 7) mNil))) (mCons (mVar 10) (mCons (mVar 9) mNil)))))))))))))))))))
def mlwright : List S -> Option S := mFn 14 2 mbwright
def md_law : List Md := [.pl]
def mb_law : MS := mRet (mOp (inX 4 true) (mC (.bl false)) (mComp 1 [0] [] (mRng1 (mCons (mC (.int 6)) mNil)) (lpM (mgName 0) mYes (mEmit (mdIn md_law 1 [0] []) (mCallA mlwright (mCons (mVar 1) (mCons (mVar 0) mNil)))))))
def m_law : List S -> Option S := mFn 1 1 mb_law
end Mir
namespace Mir
open PySem L2
theorem seq_nx {f g : MS} {ρ ρ' : En} (h : f ρ = some (.nx, ρ')) : mSeq f g ρ = g ρ' := by unfold mSeq; rw [h]; rfl
theorem seq_ret {f g : MS} {ρ ρ' : En} {s : S} (h : f ρ = some (.ret s, ρ')) : mSeq f g ρ = some (.ret s, ρ') := by unfold mSeq; rw [h]; rfl
theorem ifs_t {c : MT} {f g : MS} {ρ ρ' : En} (h : c ρ = some (true, ρ')) : mIfS c f g ρ = f ρ' := by unfold mIfS; rw [h]; rfl
theorem ifs_f {c : MT} {f g : MS} {ρ ρ' : En} (h : c ρ = some (false, ρ')) : mIfS c f g ρ = g ρ' := by unfold mIfS; rw [h]; rfl
theorem atI_ex {α : Type} {l : List α} {d : Int} (h0 : 0 <= d) (h1 : d < l.length) : ∃ c, atI l d = some c /\ l[d.toNat]? = some c := by
 have hl : d.toNat < l.length := by omega
 refine ⟨l[d.toNat], ?_, List.getElem?_eq_getElem hl⟩
 have z : atI l ((d.toNat : Nat) : Int) = some l[d.toNat] := atI_nat (List.getElem?_eq_getElem hl)
 rwa [Int.toNat_of_nonneg h0] at z
theorem atI_mem {α : Type} {l : List α} {d : Int} {c : α} (h : atI l d = some c) : c ∈ l := by
 unfold atI at h
 cases e : ixN l.length d with
 | none => rw [e] at h; cases h
 | some k => rw [e] at h; exact List.mem_of_getElem? h
theorem divB {n : Int} (h0 : 0 < n) (h1 : n < 1000000) : CDivB n := by
 refine ⟨h0, ?_⟩
 have h2 : n.natAbs ≠ 0 := by omega
 have h3 : n.natAbs.log2 < 20 := (Nat.log2_lt h2).mpr (by omega)
 omega
theorem mulB {i j : Int} (h0 : -100000000000 < i) (h1 : i < 100000000000) : CMul i j := .inl ⟨by omega, by omega⟩
theorem mul_int {i j : Int} (h : CMul i j) : mulX (.int i) (.int j) = some (.int (i * j)) := if_pos h
theorem div_int {i j : Int} (h : CDivB j) : divD (.int i) (.int j) = some (.int (i / j)) := if_pos h
theorem mod_int {i j : Int} (h : 0 < j) : modD (.int i) (.int j) = some (.int (i % j)) := if_pos h
def ups (lo : Int) (n : Nat) : List Int := (List.range n).map fun (k : Nat) => lo + (k : Int)
theorem rng_ups (lo : Int) (n : Nat) : rngD lo n = (ups lo n).map D.int := by
 unfold rngD ups
 rw [List.map_map]
 rfl
theorem ups_mem {lo : Int} {n : Nat} {j : Int} (h : j ∈ ups lo n) : lo <= j /\ j < lo + n := by
 unfold ups at h
 obtain ⟨k, hk, rfl⟩ := List.mem_map.mp h
 have := List.mem_range.mp hk
 omega
theorem ups_len (lo : Int) (n : Nat) : (ups lo n).length = n := by simp [ups]
def nearP (ns : List Int) (k : Int) : Int := if 0 < ns.length then 13 + 5 * k * k + (ns.getD (k % ns.length).toNat 0) % 1000003 * (k + 3) else 13 + 5 * k * k
theorem atI_get {ns : List Int} {k : Int} (h0 : 0 <= k) (h1 : k < ns.length) : atI ns k = some (ns.getD k.toNat 0) := by
 obtain ⟨c, e, e2⟩ := atI_ex h0 h1
 rw [e, List.getD_eq_getElem?_getD, e2]; rfl
theorem cell_ok (ns : List Int) (k : Int) (h0 : 0 <= k) (h1 : k <= 100) : ∃ c, 0 <= c /\ c < 10 ^ 18 /\ mlwcell [.scr ns, .d (.int k)] = some (.d (.int c)) := by
 have e0 : mlwcell [.scr ns, .d (.int k)] = retOf (mbwcell [some (.scr ns), some (.d (.int k)), none]) := rfl
 rw [e0]
 unfold mbwcell
 have p18 : CPow 10 18 := by decide
 by_cases hk : k < (ns.length : Int)
 · refine ⟨ns.getD k.toNat 0 % 10 ^ (18 : Int).toNat, Int.emod_nonneg _ (by decide), Int.emod_lt_of_pos _ (by decide), ?_⟩
   have pos : (0 : Int) < 10 ^ (18 : Int).toNat := by decide
   rw [seq_ret (s := .d (.int (ns.getD k.toNat 0 % 10 ^ (18 : Int).toNat))) (ρ' := [some (.scr ns), some (.d (.int k)), none]) (by
     simp only [mIfS, mB, mOp, mVar, look, mLenS, scrS, Option.bind_some, res, unD, cmpD, hk, decide_true, asB, if_true, mRet, mIxS, asI, atI_get h0 hk, mC, powD, p18, modD, pos, immO, D.imm])]
   rfl
 · have hk' : decide (k < (ns.length : Int)) = false := by simpa using hk
   rw [seq_nx (ρ' := [some (.scr ns), some (.d (.int k)), none]) (by
     simp only [mIfS, mB, mOp, mVar, look, mLenS, scrS, Option.bind_some, res, unD, cmpD, hk', asB, Bool.false_eq_true, if_false, mNext])]
   have m1 : CMul 5 k := mulB (by decide) (by decide)
   have m2 : CMul (5 * k) k := mulB (by omega) (by omega)
   rw [seq_nx (ρ' := [some (.scr ns), some (.d (.int k)), some (.d (.int (13 + 5 * k * k)))]) (by
     simp only [mAsg, mOp, mC, mVar, look, Option.bind_some, res, unD, mulX, m1, m2, if_true, addD, sto, mgName, List.set_cons_zero, List.set_cons_succ])]
   have : ∃ x : Int, mIfS (mB (mOp gtD (mLenS 0) (mC (.int 0)))) (mAsg mdwcell (mOp addD (mVar 2) (mOp mulX (mOp modD (mIxS 0 (mOp modD (mVar 1) (mLenS 0))) (mC (.int 1000003))) (mOp addD (mVar 1) (mC (.int 3))))) (mgName 2)) mNext [some (.scr ns), some (.d (.int k)), some (.d (.int (13 + 5 * k * k)))] = some (.nx, [some (.scr ns), some (.d (.int k)), some (.d (.int x))]) := by
     by_cases hl : (0 : Int) < (ns.length : Int)
     · have hm0 := Int.emod_nonneg k (show (ns.length : Int) ≠ 0 by omega)
       have hm1 := Int.emod_lt_of_pos k hl
       have r0 := Int.emod_nonneg (ns.getD (k % ns.length).toNat 0) (show (1000003 : Int) ≠ 0 by decide)
       have r1 := Int.emod_lt_of_pos (ns.getD (k % ns.length).toNat 0) (show (0 : Int) < 1000003 by decide)
       have m3 : CMul (ns.getD (k % ns.length).toNat 0 % 1000003) (k + 3) := mulB (by omega) (by omega)
       have pp : (0 : Int) < 1000003 := by decide
       exact ⟨_, by simp only [mIfS, mB, mOp, mLenS, look, scrS, Option.bind_some, mC, res, cmpD, hl, decide_true, asB, if_true, mAsg, mVar, unD, mIxS, modD, asI, atI_get hm0 hm1, pp, addD, mulX, m3, sto, mgName, List.set_cons_zero, List.set_cons_succ]; rfl⟩
     · have hl' : decide ((0 : Int) < (ns.length : Int)) = false := by simpa using hl
       exact ⟨_, by simp only [mIfS, mB, mOp, mLenS, look, scrS, Option.bind_some, mC, res, cmpD, hl', asB, Bool.false_eq_true, if_false, mNext]; rfl⟩
   obtain ⟨x, ex⟩ := this
   rw [seq_nx ex]
   have m4 : CMul x 48271 := .inr ⟨by decide, by decide⟩
   have pp : (0 : Int) < 2147483647 := by decide
   have r0 := Int.emod_nonneg (x * 48271) (show (2147483647 : Int) ≠ 0 by decide)
   have r1 := Int.emod_lt_of_pos (x * 48271) (show (0 : Int) < 2147483647 by decide)
   generalize hy : x * 48271 % 2147483647 = y at r0 r1
   rw [seq_nx (ρ' := [some (.scr ns), some (.d (.int k)), some (.d (.int y))]) (by
     simp only [mAsg, mOp, mVar, look, mC, Option.bind_some, res, unD, mulX, m4, if_true, modD, pp, hy, sto, mgName, List.set_cons_zero, List.set_cons_succ])]
   have p5 : CPow y 5 := ⟨by decide, by decide, by omega⟩
   have d3 : CDivB 3 := divB (by decide) (by decide)
   have q0 := Int.emod_nonneg (y ^ (5 : Int).toNat) (show (2147483647 : Int) ≠ 0 by decide)
   have q1 := Int.emod_lt_of_pos (y ^ (5 : Int).toNat) (show (0 : Int) < 2147483647 by decide)
   refine ⟨y ^ (5 : Int).toNat % 2147483647 / 3, by omega, by omega, ?_⟩
   simp only [mRet, mOp, mVar, look, mC, Option.bind_some, res, unD, powD, p5, if_true, modD, pp, divD, d3, immO, D.imm, retOf]
def pick (c : Int) : Int := if c % 5 < 3 then c / 5 % 5 - 2 else c / 5 % 19 - 9
theorem pick_ok (c : Int) : -9 <= pick c /\ pick c <= 9 := by
 unfold pick
 split <;> omega
theorem prices_loop (ns : List Int) (k many : Int) (h0 : 0 <= k) (h1 : k <= 100) (l : List Int) : ∀ (zs : List Int) (x y : Option S), (∀ j ∈ l, 0 <= j /\ j < 100) -> zs.length + l.length <= 100 -> (∀ z ∈ zs, -9 <= z /\ z <= 9) -> ∃ (zs' : List Int) (x' y' : Option S), zs'.length = zs.length + l.length /\ (∀ z ∈ zs', -9 <= z /\ z <= 9) /\
   forM (mgName 4) (mSeq (mAsg mdwprices (mOp divD (mCallA mlwcell (mCons (mVar 0) (mCons (mVar 1) mNil))) (mOp addD (mC (.int 1)) (mOp mulX (mOp mulX (mC (.int 23)) (mVar 4)) (mOp addD (mVar 4) (mC (.int 2)))))) (mgName 5)) (mDrop (mAppend mdwprices 3 (mCons (mOp ixD (mLst mdwprices (mCons (mOp subD (mOp modD (mOp divD (mVar 5) (mC (.int 5))) (mC (.int 19))) (mC (.int 9))) (mCons (mOp subD (mOp modD (mOp divD (mVar 5) (mC (.int 5))) (mC (.int 5))) (mC (.int 2))) mNil))) (mCB intD (mCons (mOp ltD (mOp modD (mVar 5) (mC (.int 5))) (mC (.int 3))) mNil))) mNil))))
     (l.map D.int) [some (.scr ns), some (.d (.int k)), some (.d (.int many)), some (.d (.lst (zs.map D.int))), x, y] = some (.nx, [some (.scr ns), some (.d (.int k)), some (.d (.int many)), some (.d (.lst (zs'.map D.int))), x', y']) := by
 induction l with
 | nil => intro zs x y _ _ hz; exact ⟨zs, x, y, by simp, hz, rfl⟩
 | cons j l ih =>
   intro zs x y hj hl hz
   rw [List.length_cons] at hl
   have hj0 := hj j (by simp)
   obtain ⟨c, c0, c1, ec⟩ := cell_ok ns k h0 h1
   have m1 : CMul 23 j := mulB (by decide) (by decide)
   have m2 : CMul (23 * j) (j + 2) := mulB (by omega) (by omega)
   have hb : 23 * j * (j + 2) ≥ 0 := Int.mul_nonneg (by omega) (by omega)
   have hb2 : 23 * j * (j + 2) <= 2300 * 102 := Int.mul_le_mul (by omega) (by omega) (by omega) (by omega)
   have dv : CDivB (1 + 23 * j * (j + 2)) := divB (by omega) (by omega)
   generalize hy : c / (1 + 23 * j * (j + 2)) = y1
   obtain ⟨zs', x', y', g1, g2, g3⟩ := ih (zs ++ [pick y1]) (some (.d (.int j))) (some (.d (.int y1))) (fun i hi => hj i (by simp [hi])) (by simp; omega) (fun z hm => by
     rcases List.mem_append.mp hm with hm | hm
     · exact hz z hm
     · have : z = pick y1 := by simpa using hm
       rw [this]; exact pick_ok y1)
   refine ⟨zs', x', y', by rw [g1]; simp; omega, g2, ?_⟩
   rw [<- g3]
   simp only [List.map_cons, forM, mgName, List.set_cons_zero, List.set_cons_succ, Option.bind_some]
   rw [seq_nx (ρ' := [some (.scr ns), some (.d (.int k)), some (.d (.int many)), some (.d (.lst (zs.map D.int))), some (.d (.int j)), some (.d (.int y1))]) (by
     simp only [mAsg, mOp, mCallA, mCons, mVar, look, mNil, Option.bind_some, resA, resS, argS, ec, unD, mC, res, mul_int m1, mul_int m2, addD, div_int dv, hy, sto, mgName, List.set_cons_zero, List.set_cons_succ])]
   have d5 : CDivB 5 := divB (by decide) (by decide)
   have pp5 : (0 : Int) < 5 := by decide
   have pp19 : (0 : Int) < 19 := by decide
   have l2 : ([D.int (y1 / 5 % 19 - 9), D.int (y1 / 5 % 5 - 2)] : List D).length <= sizeLine := by show 2 <= sizeLine; decide
   have lz : (zs.map D.int).length < sizeLine := by rw [List.length_map]; exact small1000 (by omega)
   have ek : atI [D.int (y1 / 5 % 19 - 9), D.int (y1 / 5 % 5 - 2)] (if decide (y1 % 5 < 3) = true then (1 : Int) else 0) = some (D.int (pick y1)) := by
     unfold pick
     by_cases h3 : y1 % 5 < 3 <;> simp [h3, atI, ixN]
   simp only [mDrop, mAppend, look, lstS, Option.bind_some, mCons, mOp, mLst, mVar, res, unD, mC, divD, d5, if_true, modD, pp19, pp5, subD, mNil, stos, sto, l2, mCB, cmpD, ress, intD, ixD, ek, lz, List.set_cons_zero, List.set_cons_succ, List.map_append, List.map_cons, List.map_nil]
theorem prices_ok (ns : List Int) (k many : Int) (h0 : 0 <= k) (h1 : k <= 100) (hm0 : 0 <= many) (hm : many <= 50) : ∃ zs : List Int, zs.length = many.toNat /\ (∀ z ∈ zs, -9 <= z /\ z <= 9) /\ mlwprices [.scr ns, .d (.int k), .d (.int many)] = some (.d (.tup (zs.map D.int))) := by
 obtain ⟨zs, x, y, g1, g2, g3⟩ := prices_loop ns k many h0 h1 (ups 0 many.toNat) [] none none (fun j hj => by have := ups_mem hj; omega) (by simp [ups_len]; omega) (by simp)
 refine ⟨zs, by rw [g1, ups_len]; simp, g2, ?_⟩
 have e0 : mlwprices [.scr ns, .d (.int k), .d (.int many)] = retOf (mbwprices [some (.scr ns), some (.d (.int k)), some (.d (.int many)), none, none, none]) := rfl
 rw [e0]
 unfold mbwprices
 rw [seq_nx (ρ' := [some (.scr ns), some (.d (.int k)), some (.d (.int many)), some (.d (.lst [])), none, none]) (by simp only [mAsgN, mnLst, mNil, Option.bind_some, stos, List.length_nil, Nat.zero_le, if_true, List.set_cons_zero, List.set_cons_succ])]
 have hr : -(2 ^ 62) <= many /\ many < 2 ^ 62 := ⟨by omega, by omega⟩
 have er : mRng1 (mCons (mVar 2) mNil) [some (.scr ns), some (.d (.int k)), some (.d (.int many)), some (.d (.lst [])), none, none] = some ((ups 0 many.toNat).map D.int, [some (.scr ns), some (.d (.int k)), some (.d (.int many)), some (.d (.lst [])), none, none]) := by
   rw [<- rng_ups]
   simp only [mRng1, mCons, mVar, look, mNil, Option.bind_some, ress, res, unD, hr, and_self, if_true]
 rw [seq_nx (ρ' := [some (.scr ns), some (.d (.int k)), some (.d (.int many)), some (.d (.lst (zs.map D.int))), x, y]) (by
   unfold mFor
   rw [er]
   exact g3)]
 have im : D.immL (zs.map D.int) = true := My.immL_map (f := D.int) (fun _ => rfl) zs
 simp only [mRet, mCB, mCons, mVar, look, mNil, Option.bind_some, ress, res, unD, tupX, immO, D.imm, im, if_true, retOf]
end Mir
namespace Mir
open PySem L2
def One (c : Str) : Prop := ∃ n : Nat, c = ⟨#[n]⟩
abbrev abcS : Str := Str.ofString "abcdefghijklmnopqrstuvwxyz"
theorem abc_sz : abcS.length <= sizeLine := by decide +kernel
theorem letters_loop (md : List Md) (cell : Int) (l : List Int) : ∀ (x : Option S) (cs : List Str), (∀ j ∈ l, 0 <= j /\ j < 100) -> cs.length + l.length <= 100 -> (∀ c ∈ cs, One c) -> ∃ (x' : Option S) (cs' : List Str), cs'.length = cs.length + l.length /\ (∀ c ∈ cs', One c) /\
   lpM (mgName 0) mYes (mEmit md (mOp ixD (mVar 1) (mOp modD (mOp addD (mVar 2) (mOp mulX (mVar 0) (mOp addD (mC (.int 1)) (mOp modD (mOp divD (mVar 2) (mC (.int 26))) (mC (.int 5)))))) (mC (.int 26))))) (l.map D.int) [x, some (.d (.str abcS)), some (.d (.int cell))] (cs.map D.str) =
     some ([x', some (.d (.str abcS)), some (.d (.int cell))], cs'.map D.str) := by
 induction l with
 | nil => intro x cs _ _ hc; exact ⟨x, cs, by simp, hc, rfl⟩
 | cons j l ih =>
   intro x cs hj hl hc
   rw [List.length_cons] at hl
   have hj0 := hj j (by simp)
   have d26 : CDivB 26 := divB (by decide) (by decide)
   have p5 : (0 : Int) < 5 := by decide
   have p26 : (0 : Int) < 26 := by decide
   have m1 : CMul j (1 + cell / 26 % 5) := mulB (by omega) (by omega)
   have r0 := Int.emod_nonneg (cell + j * (1 + cell / 26 % 5)) (show (26 : Int) ≠ 0 by decide)
   have r1 := Int.emod_lt_of_pos (cell + j * (1 + cell / 26 % 5)) p26
   have ea := My.abc_atI r0 r1
   obtain ⟨x', cs', g1, g2, g3⟩ := ih (some (.d (.int j))) (cs ++ [⟨#[97 + ((cell + j * (1 + cell / 26 % 5)) % 26).toNat]⟩]) (fun i hi => hj i (by simp [hi])) (by simp; omega) (fun c hm => by
     rcases List.mem_append.mp hm with hm | hm
     · exact hc c hm
     · exact ⟨_, by simpa using hm⟩)
   refine ⟨x', cs', by rw [g1]; simp; omega, g2, ?_⟩
   have small : (cs.map D.str).length < sizeLine := by rw [List.length_map]; exact small1000 (by omega)
   simp only [List.map_append, List.map_cons, List.map_nil] at g3
   simp only [List.map_cons, lpM, mgName, List.set_cons_zero, Option.bind_some, mYes, if_true, mEmit, mOp, mVar, look, mC, res, unD, div_int d26, mod_int p5, mod_int p26, addD, mul_int m1, ixD, abc_sz, show atI abcS.cps.toList ((cell + j * (1 + cell / 26 % 5)) % 26) = _ from ea, Option.map_some, sto, small, g3]
theorem letters_ok (ns : List Int) : ∃ cs : List Str, 1 <= cs.length /\ cs.length <= 4 /\ (∀ c ∈ cs, One c) /\ mlwletters [.scr ns] = some (.d (.lst (cs.map D.str))) := by
 obtain ⟨c, c0, c1, ec⟩ := cell_ok ns 0 (by decide) (by decide)
 have q0 := Int.emod_nonneg (c / 130) (show (4 : Int) ≠ 0 by decide)
 have q1 := Int.emod_lt_of_pos (c / 130) (show (0 : Int) < 4 by decide)
 obtain ⟨x, cs, g1, g2, g3⟩ := letters_loop (mdIn mdwletters 1 [2, 1] []) c (ups 0 (1 + c / 130 % 4).toNat) none [] (fun j hj => by have := ups_mem hj; omega) (by simp [ups_len]; omega) (by simp)
 rw [ups_len] at g1
 simp only [List.length_nil, Nat.zero_add] at g1
 refine ⟨cs, by omega, by omega, g2, ?_⟩
 have e0 : mlwletters [.scr ns] = retOf (mbwletters [some (.scr ns), none, none]) := rfl
 rw [e0]
 unfold mbwletters
 rw [seq_nx (ρ' := [some (.scr ns), some (.d (.int c)), none]) (by
   simp only [mAsg, mCallA, mCons, mVar, look, mC, mNil, Option.bind_some, resA, resS, argS, ec, unD, sto, mgName, List.set_cons_zero, List.set_cons_succ])]
 rw [seq_nx (ρ' := [some (.scr ns), some (.d (.int c)), some (.d (.str abcS))]) (by
   simp only [mAsg, mC, Option.bind_some, sto, mgName, List.set_cons_zero, List.set_cons_succ])]
 have d130 : CDivB 130 := divB (by decide) (by decide)
 have p4 : (0 : Int) < 4 := by decide
 have hr : -(2 ^ 62) <= 1 + c / 130 % 4 /\ 1 + c / 130 % 4 < 2 ^ 62 := ⟨by omega, by omega⟩
 have er : mRng1 (mCons (mOp addD (mC (.int 1)) (mOp modD (mOp divD (mVar 1) (mC (.int 130))) (mC (.int 4)))) mNil) [some (.scr ns), some (.d (.int c)), some (.d (.str abcS))] = some ((ups 0 (1 + c / 130 % 4).toNat).map D.int, [some (.scr ns), some (.d (.int c)), some (.d (.str abcS))]) := by
   rw [<- rng_ups]
   simp only [mRng1, mCons, mOp, mC, mVar, look, mNil, Option.bind_some, ress, res, unD, div_int d130, mod_int p4, addD, hr, and_self, if_true]
 have im : D.immL (cs.map D.str) = true := My.immL_strs cs
 have g3' : lpM (mgName 0) mYes (mEmit (mdIn mdwletters 1 [2, 1] []) (mOp ixD (mVar 1) (mOp modD (mOp addD (mVar 2) (mOp mulX (mVar 0) (mOp addD (mC (.int 1)) (mOp modD (mOp divD (mVar 2) (mC (.int 26))) (mC (.int 5)))))) (mC (.int 26))))) ((ups 0 (1 + c / 130 % 4).toNat).map D.int) (inEn 1 [2, 1] [some (.scr ns), some (.d (.int c)), some (.d (.str abcS))]) [] = some ([x, some (.d (.str abcS)), some (.d (.int c))], cs.map D.str) := g3
 simp only [mRetNew, mnComp, er, Option.bind_some, g3', immS, im, if_true, retOf]
def lastD (l : List Int) (n : Nat) : Int := l.getD (min n (l.length - 1)) 0
theorem getD_at {l : List Int} {n : Nat} (h : n < l.length) : (l.map D.int)[n]? = some (.int (l.getD n 0)) := by
 rw [List.getElem?_map, List.getElem?_eq_getElem h, List.getD_eq_getElem?_getD, List.getElem?_eq_getElem h]; rfl
theorem atI_int {l : List Int} {n : Int} (h0 : 0 <= n) (h1 : n < l.length) : atI (l.map D.int) n = some (.int (l.getD n.toNat 0)) := by
 have z : atI (l.map D.int) ((n.toNat : Nat) : Int) = some (.int (l.getD n.toNat 0)) := atI_nat (getD_at (by omega))
 rwa [Int.toNat_of_nonneg h0] at z
def ext30 (l : List Int) : List Int := l ++ List.replicate 30 (l.getD (l.length - 1) 0)
theorem ext30_get {l : List Int} (hl : 1 <= l.length) {n : Nat} (hn : n < l.length + 30) : (ext30 l).getD n 0 = lastD l n := by
 unfold ext30 lastD
 rw [List.getD_eq_getElem?_getD]
 by_cases h : n < l.length
 · rw [List.getElem?_append_left h, show min n (l.length - 1) = n by omega, List.getD_eq_getElem?_getD]
 · rw [List.getElem?_append_right (by omega), List.getElem?_replicate, if_pos (by omega), show min n (l.length - 1) = l.length - 1 by omega]
   rfl
theorem end_ok {b : List D} {ends : List Int} {f : Int} (hb : b[3]? = some (.tup (ends.map D.int))) (he : 1 <= ends.length) (h0 : 0 <= f) : m_end_price [.d (.tup b), .d (.int f)] = some (.d (.int (lastD ends f.toNat))) := by
 have e0 : m_end_price [.d (.tup b), .d (.int f)] = retOf (mb_end_price [some (.d (.tup b)), some (.d (.int f)), none]) := rfl
 rw [e0]
 unfold mb_end_price
 have e3 : atI b 3 = some (.tup (ends.map D.int)) := by
   have z : atI b ((3 : Nat) : Int) = some (.tup (ends.map D.int)) := atI_nat hb
   exact z
 rw [seq_nx (ρ' := [some (.d (.tup b)), some (.d (.int f)), some (.d (.tup (ends.map D.int)))]) (by
   simp only [mAsg, mOp, mVar, look, mC, Option.bind_some, res, unD, ixD, e3, sto, mgName, List.set_cons_zero, List.set_cons_succ])]
 have el : ((ends.map D.int).length : Int) = (ends.length : Int) := by rw [List.length_map]
 generalize hm : (if (ends.length : Int) - 1 < f then (ends.length : Int) - 1 else f) = mm
 have m0 : 0 <= mm /\ mm < (ends.length : Int) /\ mm.toNat = min f.toNat (ends.length - 1) := by
   rw [<- hm]; split <;> omega
 have ex : atI (ends.map D.int) mm = some (.int (lastD ends f.toNat)) := by
   rw [atI_int m0.1 m0.2.1, m0.2.2]; rfl
 simp only [mRet, mOp, mVar, look, mCB, mCons, mNil, mC, Option.bind_some, ress, res, unD, lenD, el, subD, min2D, hm, ixD, ex, immO, D.imm, if_true, retOf]
theorem fork_ok {b : List D} {base each fr n f : Int} (hb : b[5]? = some (.tup [.int base, .int each, .int fr])) (h1 : -9 <= each /\ each <= 9) (h2 : -9 <= fr /\ fr <= 9) : m_fork_price [.d (.tup b), .d (.int n), .d (.int f)] = some (.d (.int (base + each * n + fr * f))) := by
 have e0 : m_fork_price [.d (.tup b), .d (.int n), .d (.int f)] = retOf (mb_fork_price [some (.d (.tup b)), some (.d (.int n)), some (.d (.int f)), none, none, none]) := rfl
 rw [e0]
 unfold mb_fork_price
 have e5 : atI b 5 = some (.tup [.int base, .int each, .int fr]) := by
   have z : atI b ((5 : Nat) : Int) = some (.tup [.int base, .int each, .int fr]) := atI_nat hb
   exact z
 rw [seq_nx (ρ' := [some (.d (.tup b)), some (.d (.int n)), some (.d (.int f)), some (.d (.int base)), some (.d (.int each)), some (.d (.int fr))]) (by
   simp only [mAsg, mOp, mVar, look, mC, Option.bind_some, res, unD, ixD, e5, sto, mgTup, List.length_cons, List.length_nil, if_true, mgCons, mgNil, mgName, List.set_cons_zero, List.set_cons_succ])]
 have m1 : CMul each n := mulB (by omega) (by omega)
 have m2 : CMul fr f := mulB (by omega) (by omega)
 simp only [mRet, mOp, mVar, look, Option.bind_some, res, unD, mul_int m1, mul_int m2, addD, immO, D.imm, if_true, retOf]
end Mir
namespace Mir
open PySem L2
abbrev Row := List Str × Int
def nestP : List Row -> List Str -> Int
 | [], _ => 0
 | r :: t, k => if r.1 = k then r.2 else nestP t k
def hasP (l : List Row) (k : List Str) : Bool := l.any fun r => decide (r.1 = k)
theorem cut4 (a b c d e : D) : slD (.tup [a, b, c, d, e]) none (some 4) = some (.tup [a, b, c, d]) := rfl
theorem four {l : List Str} (h : l.length = 4) : ∃ a b c d, l = [a, b, c, d] := by
 match l, h with
 | [a, b, c, d], _ => exact ⟨a, b, c, d, rfl⟩
theorem row5 (a b c d : Str) (z : Int) : My.rowD ([a, b, c, d], z) = .tup [.str a, .str b, .str c, .str d, .int z] := rfl
theorem eq4 (a b c d x y u v : Str) : Mir.eqD 4 false (.tup [.str a, .str b, .str c, .str d]) (.tup [.str x, .str y, .str u, .str v]) = some (.bl (decide ([a, b, c, d] = [x, y, u, v]))) := by
 have h := My.eq_nameD [a, b, c, d] [x, y, u, v]
 have hd := My.depth_nameD [a, b, c, d]
 unfold My.nameD at h hd
 simp only [List.map_cons, List.map_nil] at h hd
 unfold Mir.eqD
 rw [hd, h]
 rfl
theorem l4 {a b c d : D} : ([a, b, c, d] : List D).length <= sizeLine := by show 4 <= sizeLine; decide
theorem at54 (a b c d e : D) : atI [a, b, c, d, e] 4 = some e := rfl
theorem nest_loop (bk : D) (x y u v : Str) (l : List Row) : ∀ w : Option S, (∀ r ∈ l, r.1.length = 4) -> ∃ w' : Option S,
   forM (mgName 5) (mIfS (mB (mOp (eqD 4 false) (mSl (mVar 5) moNo (moPart (mC (.int 4)))) (mTup md_nest_price (mCons (mVar 1) (mCons (mVar 2) (mCons (mVar 3) (mCons (mVar 4) mNil))))))) (mRet (mOp ixD (mVar 5) (mC (.int 4)))) (mNext)) (l.map My.rowD)
     [some (.d bk), some (.d (.str x)), some (.d (.str y)), some (.d (.str u)), some (.d (.str v)), w] =
   some (if hasP l [x, y, u, v] = true then .ret (.d (.int (nestP l [x, y, u, v]))) else .nx, [some (.d bk), some (.d (.str x)), some (.d (.str y)), some (.d (.str u)), some (.d (.str v)), w']) := by
 induction l with
 | nil => intro w _; exact ⟨w, rfl⟩
 | cons r l ih =>
   intro w h
   obtain ⟨a, b, c, d, e1⟩ := four (h r (by simp))
   obtain ⟨r1, z⟩ := r
   dsimp only at e1
   subst e1
   obtain ⟨w', e⟩ := ih (some (.d (My.rowD ([a, b, c, d], z)))) fun r hr => h r (by simp [hr])
   by_cases hk : [a, b, c, d] = [x, y, u, v]
   · refine ⟨some (.d (My.rowD ([a, b, c, d], z))), ?_⟩
     have h1 : hasP (([a, b, c, d], z) :: l) [x, y, u, v] = true := by simp [hasP, hk]
     have h2 : nestP (([a, b, c, d], z) :: l) [x, y, u, v] = z := by rw [nestP, if_pos hk]
     rw [h1, h2, if_pos rfl]
     simp only [List.map_cons, forM, mgName, List.set_cons_zero, List.set_cons_succ, Option.bind_some, mIfS, mB, mOp, mSl, mVar, look, moNo, moPart, mC, res, unD, asI, row5, cut4, mTup, mCons, mNil, stos, sto, mode, md_nest_price, l4, if_true, eq4, hk, decide_true, asB, mRet, ixD, at54, immO, D.imm]
   · refine ⟨w', ?_⟩
     have h1 : hasP (([a, b, c, d], z) :: l) [x, y, u, v] = hasP l [x, y, u, v] := by simp [hasP, hk]
     have h2 : nestP (([a, b, c, d], z) :: l) [x, y, u, v] = nestP l [x, y, u, v] := by rw [nestP, if_neg hk]
     rw [h1, h2, <- e]
     simp only [List.map_cons, forM, mgName, List.set_cons_zero, List.set_cons_succ, Option.bind_some, mIfS, mB, mOp, mSl, mVar, look, moNo, moPart, mC, res, unD, asI, row5, cut4, mTup, mCons, mNil, stos, sto, mode, md_nest_price, l4, if_true, eq4, hk, decide_false, asB, Bool.false_eq_true, if_false, mNext]
theorem nest_none : ∀ {l : List Row} {k : List Str}, hasP l k = false -> nestP l k = 0
 | [], k, _ => rfl
 | r :: l, k, h => by
   simp only [hasP, List.any_cons, Bool.or_eq_false_iff, decide_eq_false_iff_not] at h
   rw [nestP, if_neg h.1]
   exact nest_none h.2
theorem nest_ok {b : List D} {l : List Row} {x y u v : Str} (hb : b[2]? = some (.tup (l.map My.rowD))) (h4 : ∀ r ∈ l, r.1.length = 4) :
   m_nest_price [.d (.tup b), .d (.str x), .d (.str y), .d (.str u), .d (.str v)] = some (.d (.int (nestP l [x, y, u, v]))) := by
 have e0 : m_nest_price [.d (.tup b), .d (.str x), .d (.str y), .d (.str u), .d (.str v)] = retOf (mb_nest_price [some (.d (.tup b)), some (.d (.str x)), some (.d (.str y)), some (.d (.str u)), some (.d (.str v)), none]) := rfl
 rw [e0]
 unfold mb_nest_price
 have e2 : atI b 2 = some (.tup (l.map My.rowD)) := by
   have z : atI b ((2 : Nat) : Int) = some (.tup (l.map My.rowD)) := atI_nat hb
   exact z
 obtain ⟨w, e⟩ := nest_loop (.tup b) x y u v l none h4
 have es : mSeqI md_nest_price (mOp ixD (mVar 0) (mC (.int 2))) [some (.d (.tup b)), some (.d (.str x)), some (.d (.str y)), some (.d (.str u)), some (.d (.str v)), none] = some (l.map My.rowD, [some (.d (.tup b)), some (.d (.str x)), some (.d (.str y)), some (.d (.str u)), some (.d (.str v)), none]) := by
   simp only [mSeqI, mOp, mVar, look, mC, Option.bind_some, res, unD, ixD, e2, sto, seqD]
 cases hh : hasP l [x, y, u, v] with
 | true =>
   rw [hh, if_pos rfl] at e
   rw [seq_ret (by unfold mFor; rw [es]; exact e)]
   rfl
 | false =>
   rw [hh, if_neg (by simp)] at e
   rw [seq_nx (by unfold mFor; rw [es]; exact e), nest_none hh]
   rfl
def cAt (z : Str) (i : Int) : Str := ⟨#[z.cps.toList.getD i.toNat 0]⟩
theorem len_list (z : Str) : z.cps.toList.length = z.length := by simp [Str.length]
theorem cord_at {z : Str} {i : Int} (hz : z.length <= 20) (h0 : 0 <= i) (h1 : i < (z.length : Int)) : ixD (.str z) (.int i) = some (.str (cAt z i)) := by
 have hl : i.toNat < z.cps.toList.length := by rw [len_list]; omega
 have e : atI z.cps.toList i = some (z.cps.toList.getD i.toNat 0) := by
   have w : atI z.cps.toList ((i.toNat : Nat) : Int) = some (z.cps.toList.getD i.toNat 0) := atI_nat (by rw [List.getElem?_eq_getElem hl, List.getD_eq_getElem?_getD, List.getElem?_eq_getElem hl]; rfl)
   rwa [Int.toNat_of_nonneg h0] at w
 have hs : z.length <= sizeLine := Nat.le_of_lt (small1000 (by omega))
 simp only [ixD, hs, if_true, e, Option.map_some, cAt]
def pr (p : Int × Int) : D := .tup [.int p.1, .int p.2]
theorem pr0 (p : Int × Int) : ixD (pr p) (.int 0) = some (.int p.1) := rfl
theorem pr1 (p : Int × Int) : ixD (pr p) (.int 1) = some (.int p.2) := rfl
theorem step_ok {b : List D} {l : List Row} {bends : List Int} {z : Str} {h p : Int × Int} {f : Int} (hb : b[2]? = some (.tup (l.map My.rowD))) (hb4 : b[4]? = some (.tup (bends.map D.int))) (h4 : ∀ r ∈ l, r.1.length = 4) (hl : 1 <= bends.length)
   (hz : z.length <= 20) (a0 : 0 <= h.1 /\ h.1 < z.length) (a1 : 0 <= h.2 /\ h.2 < z.length) (a2 : 0 <= p.1 /\ p.1 < z.length) (a3 : 0 <= p.2 /\ p.2 < z.length) (h0 : 0 <= f) :
   m_step_price [.d (.tup b), .d (.str z), .d (pr h), .d (pr p), .d (.int f)] = some (.d (.int (if f = 0 then nestP l [cAt z h.1, cAt z h.2, cAt z p.1, cAt z p.2] else lastD bends (f.toNat - 1)))) := by
 have e0 : m_step_price [.d (.tup b), .d (.str z), .d (pr h), .d (pr p), .d (.int f)] = retOf (mb_step_price [some (.d (.tup b)), some (.d (.str z)), some (.d (pr h)), some (.d (pr p)), some (.d (.int f)), none]) := rfl
 rw [e0]
 unfold mb_step_price
 by_cases hf : f = 0
 · subst hf
   rw [if_pos rfl]
   rw [seq_ret (s := .d (.int (nestP l [cAt z h.1, cAt z h.2, cAt z p.1, cAt z p.2]))) (ρ' := [some (.d (.tup b)), some (.d (.str z)), some (.d (pr h)), some (.d (pr p)), some (.d (.int 0)), none]) (by
     simp only [mIfS, mB, mOp, mVar, look, mC, Option.bind_some, res, unD, Mir.eqD, D.depth, Nat.zero_le, if_true, D.eq, beq_self_eq_true, Bool.false_eq_true, if_false, asB, mRet, mCallA, mCons, mNil, pr0, pr1, cord_at hz a0.1 a0.2, cord_at hz a1.1 a1.2, cord_at hz a2.1 a2.2, cord_at hz a3.1 a3.2, resA, resS, argS, nest_ok hb h4, immO, D.imm])]
   rfl
 · rw [if_neg hf]
   have hf' : (f == 0) = false := by simpa using hf
   rw [seq_nx (ρ' := [some (.d (.tup b)), some (.d (.str z)), some (.d (pr h)), some (.d (pr p)), some (.d (.int f)), none]) (by
     simp only [mIfS, mB, mOp, mVar, look, mC, Option.bind_some, res, unD, Mir.eqD, D.depth, Nat.zero_le, if_true, D.eq, hf', Bool.false_eq_true, if_false, asB, mNext])]
   have e4 : atI b 4 = some (.tup (bends.map D.int)) := by
     have w : atI b ((4 : Nat) : Int) = some (.tup (bends.map D.int)) := atI_nat hb4
     exact w
   rw [seq_nx (ρ' := [some (.d (.tup b)), some (.d (.str z)), some (.d (pr h)), some (.d (pr p)), some (.d (.int f)), some (.d (.tup (bends.map D.int)))]) (by
     simp only [mAsg, mOp, mVar, look, mC, Option.bind_some, res, unD, ixD, e4, sto, mgName, List.set_cons_zero, List.set_cons_succ])]
   have el : ((bends.map D.int).length : Int) = (bends.length : Int) := by rw [List.length_map]
   generalize hm : (if (bends.length : Int) < f then (bends.length : Int) else f) = mm
   have m0 : 0 <= mm - 1 /\ mm - 1 < (bends.length : Int) /\ (mm - 1).toNat = min (f.toNat - 1) (bends.length - 1) := by
     rw [<- hm]; split <;> omega
   have ex : atI (bends.map D.int) (mm - 1) = some (.int (lastD bends (f.toNat - 1))) := by
     rw [atI_int m0.1 m0.2.1, m0.2.2]; rfl
   simp only [mRet, mOp, mVar, look, mCB, mCons, mNil, mC, Option.bind_some, ress, res, unD, lenD, el, min2D, hm, subD, ixD, ex, immO, D.imm, if_true, retOf]
structure Bo where
 b : List D
 nests : List Row
 ends : List Int
 bends : List Int
 base : Int
 each : Int
 fr : Int
 hn : b[2]? = some (.tup (nests.map My.rowD))
 he : b[3]? = some (.tup (ends.map D.int))
 hb : b[4]? = some (.tup (bends.map D.int))
 hf : b[5]? = some (.tup [.int base, .int each, .int fr])
 n4 : ∀ r ∈ nests, r.1.length = 4
 one : ∀ r ∈ nests, ∀ c ∈ r.1, One c
 nd : (nests.map (·.1)).Nodup
 e1 : 1 <= ends.length
 e8 : ends.length <= 8
 b1 : 1 <= bends.length
 b8 : bends.length <= 8
 p1 : -9 <= each /\ each <= 9
 p2 : -9 <= fr /\ fr <= 9
def addedP (B : Bo) (z : Str) (h : Int × Int) (ps : List (Int × Int)) (f : Int) : Int := match ps with
 | [] => lastD B.ends f.toNat
 | [p] => if f = 0 then nestP B.nests [cAt z h.1, cAt z h.2, cAt z p.1, cAt z p.2] else lastD B.bends (f.toNat - 1)
 | ps => B.base + B.each * (ps.length : Int) + B.fr * f
theorem ring_ok (B : Bo) {z : Str} {h : Int × Int} {ps : List (Int × Int)} {f : Int} (hz : z.length <= 20) (a0 : 0 <= h.1 /\ h.1 < z.length) (a1 : 0 <= h.2 /\ h.2 < z.length) (hp : ∀ p ∈ ps, (0 <= p.1 /\ p.1 < (z.length : Int)) /\ (0 <= p.2 /\ p.2 < (z.length : Int))) (h0 : 0 <= f) :
   m_ring_price [.d (.tup B.b), .d (.str z), .d (pr h), .d (.lst (ps.map pr)), .d (.int f)] = some (.d (.int (addedP B z h ps f))) := by
 have e0 : m_ring_price [.d (.tup B.b), .d (.str z), .d (pr h), .d (.lst (ps.map pr)), .d (.int f)] = retOf (mb_ring_price [some (.d (.tup B.b)), some (.d (.str z)), some (.d (pr h)), some (.d (.lst (ps.map pr))), some (.d (.int f))]) := rfl
 rw [e0]
 unfold mb_ring_price
 match ps, hp with
 | [], hp =>
   rw [seq_ret (s := .d (.int (lastD B.ends f.toNat))) (ρ' := [some (.d (.tup B.b)), some (.d (.str z)), some (.d (pr h)), some (.d (.lst [])), some (.d (.int f))]) (by
     simp only [List.map_nil, mIfS, mB, mOp, mCB, mCons, mNil, mVar, look, mC, Option.bind_some, ress, res, unD, lenD, List.length_nil, Mir.eqD, D.depth, Nat.zero_le, if_true, D.eq, Bool.false_eq_true, if_false, asB, mRet, mCallA, resA, resS, argS, end_ok B.he B.e1 h0, immO, D.imm, show (((0 : Nat) : Int) == 0) = true from rfl])]
   rfl
 | [p], hp =>
   have hp0 := hp p (by simp)
   have st := step_ok (h := h) (p := p) (f := f) B.hn B.hb B.n4 B.b1 hz a0 a1 hp0.1 hp0.2 h0
   rw [seq_nx (ρ' := [some (.d (.tup B.b)), some (.d (.str z)), some (.d (pr h)), some (.d (.lst [pr p])), some (.d (.int f))]) (by
     simp only [List.map_cons, List.map_nil, mIfS, mB, mOp, mCB, mCons, mNil, mVar, look, mC, Option.bind_some, ress, res, unD, lenD, List.length_cons, List.length_nil, Mir.eqD, D.depth, Nat.zero_le, if_true, D.eq, Bool.false_eq_true, if_false, asB, mNext, show (((0 + 1 : Nat) : Int) == 0) = false from rfl])]
   rw [seq_ret (s := .d (.int (addedP B z h [p] f))) (ρ' := [some (.d (.tup B.b)), some (.d (.str z)), some (.d (pr h)), some (.d (.lst [pr p])), some (.d (.int f))]) (by
     simp only [mIfS, mB, mOp, mCB, mCons, mNil, mVar, look, mC, Option.bind_some, ress, res, unD, lenD, List.length_cons, List.length_nil, Mir.eqD, D.depth, Nat.zero_le, if_true, D.eq, Bool.false_eq_true, if_false, asB, show (((0 + 1 : Nat) : Int) == 1) = true from rfl, mRet, mCallA, resA, resS, argS, ixD, show atI [pr p] 0 = some (pr p) from rfl, st, immO, D.imm, addedP])]
   rfl
 | p :: q :: r, hp =>
   have n0 : ((((p :: q :: r).map pr).length : Int) == 0) = false := by simp; omega
   have n1 : ((((p :: q :: r).map pr).length : Int) == 1) = false := by simp; omega
   have el : (((p :: q :: r).map pr).length : Int) = ((p :: q :: r).length : Int) := by rw [List.length_map]
   generalize hL : (p :: q :: r).map pr = L at n0 n1 el ⊢
   rw [seq_nx (ρ' := [some (.d (.tup B.b)), some (.d (.str z)), some (.d (pr h)), some (.d (.lst L)), some (.d (.int f))]) (by
     simp only [mIfS, mB, mOp, mCB, mCons, mNil, mVar, look, mC, Option.bind_some, ress, res, unD, lenD, Mir.eqD, D.depth, Nat.zero_le, if_true, D.eq, n0, Bool.false_eq_true, if_false, asB, mNext])]
   rw [seq_nx (ρ' := [some (.d (.tup B.b)), some (.d (.str z)), some (.d (pr h)), some (.d (.lst L)), some (.d (.int f))]) (by
     simp only [mIfS, mB, mOp, mCB, mCons, mNil, mVar, look, mC, Option.bind_some, ress, res, unD, lenD, Mir.eqD, D.depth, Nat.zero_le, if_true, D.eq, n1, Bool.false_eq_true, if_false, asB, mNext])]
   simp only [mRet, mCallA, mCons, mVar, look, mCB, mNil, Option.bind_some, ress, res, unD, lenD, resA, resS, argS, fork_ok B.hf B.p1 B.p2, immO, D.imm, if_true, retOf, el]
   rfl
end Mir
namespace Mir
open PySem L2
theorem mul_lst {l : List D} {k : Int} (h : -(2 ^ 63) <= k /\ k < 2 ^ 63 /\ l.length * k.toNat <= sizeLine) : mulX (.lst l) (.int k) = some (.lst (List.replicate k.toNat l).flatten) := if_pos h
theorem add_lst {l m : List D} (h : l.length + m.length <= sizeLine) : addD (.lst l) (.lst m) = some (.lst (l ++ m)) := if_pos h
theorem add_str {i j : Str} (h : i.length + j.length <= sizeLine) : addD (.str i) (.str j) = some (.str (i ++ j)) := if_pos h
theorem big_sz : (10000 : Nat) <= sizeLine := by decide
theorem ext30_map (l : List Int) : l.map D.int ++ (List.replicate 30 [D.int (l.getD (l.length - 1) 0)]).flatten = (ext30 l).map D.int := by
 unfold ext30
 rw [List.map_append, List.map_replicate]
 congr 1
theorem at_last {l : List Int} (h : 1 <= l.length) : atI (l.map D.int) (-1) = some (.int (l.getD (l.length - 1) 0)) := by
 unfold atI ixN
 rw [if_neg (by decide), if_pos (by rw [List.length_map]; omega)]
 show (l.map D.int)[((-1 : Int) + ((l.map D.int).length : Int)).toNat]? = _
 rw [List.length_map, show ((-1 : Int) + (l.length : Int)).toNat = l.length - 1 by omega]
 exact getD_at (by omega)
theorem ext_step {md : List Md} {ρ : En} {b : List D} {k : Nat} {l : List Int} {ki : Int} (hk : ki = (k : Int)) (h0 : look ρ 0 = some (.d (.tup b))) (hb : b[k]? = some (.tup (l.map D.int))) (h1 : 1 <= l.length) (h8 : l.length <= 8) :
   mOp addD (mCB listX (mCons (mOp ixD (mVar 0) (mC (.int ki))) mNil)) (mOp mulX (mLst md (mCons (mOp ixD (mOp ixD (mVar 0) (mC (.int ki))) (mUn negD (mC (.int 1)))) mNil)) (mC (.int 30))) ρ = some (.val (.lst ((ext30 l).map D.int)), ρ) := by
 have ek : atI b ki = some (.tup (l.map D.int)) := by rw [hk]; exact atI_nat hb
 have big := big_sz
 have s1 : ([D.int (l.getD (l.length - 1) 0)] : List D).length <= sizeLine := by show 1 <= sizeLine; omega
 have s2 : -(2 ^ 63) <= (30 : Int) /\ (30 : Int) < 2 ^ 63 /\ ([D.int (l.getD (l.length - 1) 0)] : List D).length * (30 : Int).toNat <= sizeLine := ⟨by decide, by decide, by show 1 * 30 <= sizeLine; omega⟩
 have s3 : (l.map D.int).length + (List.replicate (30 : Int).toNat [D.int (l.getD (l.length - 1) 0)]).flatten.length <= sizeLine := by
   rw [len_rep, List.length_map]
   show l.length + 30 * 1 <= sizeLine
   omega
 have em : mulX (.lst [D.int (l.getD (l.length - 1) 0)]) (.int 30) = some (.lst (List.replicate (30 : Int).toNat [D.int (l.getD (l.length - 1) 0)]).flatten) := mul_lst s2
 have ea : addD (.lst (l.map D.int)) (.lst (List.replicate (30 : Int).toNat [D.int (l.getD (l.length - 1) 0)]).flatten) = some (.lst (l.map D.int ++ (List.replicate (30 : Int).toNat [D.int (l.getD (l.length - 1) 0)]).flatten)) := add_lst s3
 have el := ext30_map l
 simp only [mOp, mCB, mCons, mNil, mVar, h0, mC, Option.bind_some, res, unD, ixD, ek, ress, listX, mLst, mUn, negD, at_last h1, stos, sto, s1, if_true, em, ea]
 rw [<- el]
 rfl
theorem const_loop (md : List Md) (b : List D) (k i : Nat) (v : Int) (ki ii : Int) (hki : ki = (k : Int)) (hii : ii = (i : Int)) (t : List D) (hb : b[k]? = some (.tup t)) (ht : t[i]? = some (.int v)) (ds : List D) : ∀ (x : Option S) (n : Nat), n + ds.length <= 1000 -> ∃ x' : Option S,
   lpM (mgName 0) mYes (mEmit md (mOp ixD (mOp ixD (mVar 1) (mC (.int ki))) (mC (.int ii)))) ds [x, some (.d (.tup b))] (List.replicate n (D.int v)) = some ([x', some (.d (.tup b))], List.replicate (n + ds.length) (D.int v)) := by
 have e1 : atI b ki = some (.tup t) := by rw [hki]; exact atI_nat hb
 have e2 : atI t ii = some (.int v) := by rw [hii]; exact atI_nat ht
 induction ds with
 | nil => intro x n _; exact ⟨x, rfl⟩
 | cons d ds ih =>
   intro x n hn
   rw [List.length_cons] at hn
   obtain ⟨x', e⟩ := ih (some (.d d)) (n + 1) (by omega)
   refine ⟨x', ?_⟩
   have small : (List.replicate n (D.int v)).length < sizeLine := by rw [List.length_replicate]; exact small1000 (by omega)
   rw [List.length_cons, show n + (ds.length + 1) = n + 1 + ds.length by omega, <- e]
   simp only [lpM, mgName, List.set_cons_zero, Option.bind_some, mYes, if_true, mEmit, mOp, mVar, look, mC, res, unD, ixD, e1, e2, sto, small, List.replicate_succ']
theorem sum_rep (n : Nat) (v : Int) : sumD [.lst (List.replicate n (D.int v))] = some (.int (v * n)) := by
 have e : List.replicate n (D.int v) = (List.replicate n v).map D.int := by rw [List.map_replicate]
 rw [e]
 show ((intsD ((List.replicate n v).map D.int)).map fun ns => D.int ns.sum) = _
 rw [intsD_of]
 simp only [Option.map_some]
 congr 2
 clear e
 induction n with
 | zero => simp
 | succ n ih => rw [List.replicate_succ, List.sum_cons, ih]; rw [Int.natCast_succ, Int.mul_add]; omega
def lastP : List Row -> List Str -> Int -> Int
 | [], _, i => i
 | r :: t, k, i => lastP t k (if r.1 = k then r.2 else i)
theorem last_none : ∀ {l : List Row} {k : List Str} {i : Int}, k ∉ l.map (·.1) -> lastP l k i = i
 | [], k, i, _ => rfl
 | r :: l, k, i, h => by
   simp only [List.map_cons, List.mem_cons, not_or] at h
   rw [lastP, if_neg (fun z => h.1 z.symm)]
   exact last_none h.2
theorem last_nest : ∀ {l : List Row} {k : List Str}, (l.map (·.1)).Nodup -> lastP l k 0 = nestP l k
 | [], k, _ => rfl
 | r :: l, k, h => by
   rw [List.map_cons, List.nodup_cons] at h
   rw [lastP, nestP]
   by_cases hk : r.1 = k
   · rw [if_pos hk, if_pos hk]
     exact last_none (hk ▸ h.1)
   · rw [if_neg hk, if_neg hk]
     exact last_nest h.2
theorem cat_eq {a b c d : Str} (ha : One a) (hb : One b) (hc : One c) (hd : One d) : ((a ++ b) == (c ++ d)) = decide (a = c /\ b = d) := by
 obtain ⟨m, rfl⟩ := ha; obtain ⟨n, rfl⟩ := hb; obtain ⟨p, rfl⟩ := hc; obtain ⟨q, rfl⟩ := hd
 have e1 : ((⟨#[m]⟩ : Str) ++ ⟨#[n]⟩) = ⟨#[m, n]⟩ := rfl
 have e2 : ((⟨#[p]⟩ : Str) ++ ⟨#[q]⟩) = ⟨#[p, q]⟩ := rfl
 rw [e1, e2]
 by_cases h1 : m = p <;> by_cases h2 : n = q <;> simp [h1, h2]
theorem cat_ok {a b : Str} (ha : One a) (hb : One b) : addD (.str a) (.str b) = some (.str (a ++ b)) := by
 obtain ⟨m, rfl⟩ := ha; obtain ⟨n, rfl⟩ := hb
 exact add_str (by show 1 + 1 <= sizeLine; decide)
theorem eq_str (a b : Str) : Mir.eqD 4 false (.str a) (.str b) = some (.bl (a == b)) := by
 simp only [Mir.eqD, D.depth, Nat.zero_le, if_true, D.eq, Bool.false_eq_true, if_false]
theorem one_cAt (z : Str) (i : Int) : One (cAt z i) := ⟨_, rfl⟩
theorem due_loop {z : Str} {h p : Int × Int} (hz : z.length <= 20) (a0 : 0 <= h.1 /\ h.1 < z.length) (a1 : 0 <= h.2 /\ h.2 < z.length) (a2 : 0 <= p.1 /\ p.1 < z.length) (a3 : 0 <= p.2 /\ p.2 < z.length) (bk f ee bb : D) (l : List Row) : ∀ (i : Int) (x y u v c : Option S), (∀ r ∈ l, r.1.length = 4) -> (∀ r ∈ l, ∀ c ∈ r.1, One c) -> ∃ x' y' u' v' c' : Option S,
   forM (mgTup 5 (mgCons (mgName 8) (mgCons (mgName 9) (mgCons (mgName 10) (mgCons (mgName 11) (mgCons (mgName 12) mgNil)))))) (mIfS (mAnd (mB (mOp (eqD 4 false) (mOp addD (mVar 8) (mVar 9)) (mOp addD (mOp ixD (mVar 1) (mOp ixD (mVar 2) (mC (.int 0)))) (mOp ixD (mVar 1) (mOp ixD (mVar 2) (mC (.int 1))))))) (mB (mOp (eqD 4 false) (mOp addD (mVar 10) (mVar 11)) (mOp addD (mOp ixD (mVar 1) (mOp ixD (mOp ixD (mVar 3) (mC (.int 0))) (mC (.int 0)))) (mOp ixD (mVar 1) (mOp ixD (mOp ixD (mVar 3) (mC (.int 0))) (mC (.int 1)))))))) (mAsg mdwdue (mVar 12) (mgName 7)) (mNext)) (l.map My.rowD)
     [some (.d bk), some (.d (.str z)), some (.d (pr h)), some (.d (.lst [pr p])), some (.d f), some (.d ee), some (.d bb), some (.d (.int i)), x, y, u, v, c] =
   some (.nx, [some (.d bk), some (.d (.str z)), some (.d (pr h)), some (.d (.lst [pr p])), some (.d f), some (.d ee), some (.d bb), some (.d (.int (lastP l [cAt z h.1, cAt z h.2, cAt z p.1, cAt z p.2] i))), x', y', u', v', c']) := by
 induction l with
 | nil => intro i x y u v c _ _; exact ⟨x, y, u, v, c, rfl⟩
 | cons r l ih =>
   intro i x y u v c h4 h1
   obtain ⟨ra, rb, rc, rd, e1⟩ := four (h4 r (by simp))
   obtain ⟨r1, zz⟩ := r
   dsimp only at e1
   subst e1
   have oa : One ra := h1 _ (List.mem_cons_self ..) ra (by simp)
   have ob : One rb := h1 _ (List.mem_cons_self ..) rb (by simp)
   have oc : One rc := h1 _ (List.mem_cons_self ..) rc (by simp)
   have od : One rd := h1 _ (List.mem_cons_self ..) rd (by simp)
   obtain ⟨x', y', u', v', c', e⟩ := ih (if [ra, rb, rc, rd] = [cAt z h.1, cAt z h.2, cAt z p.1, cAt z p.2] then zz else i) (some (.d (.str ra))) (some (.d (.str rb))) (some (.d (.str rc))) (some (.d (.str rd))) (some (.d (.int zz))) (fun r hr => h4 r (by simp [hr])) (fun r hr => h1 r (by simp [hr]))
   refine ⟨x', y', u', v', c', ?_⟩
   rw [lastP]
   rw [<- e]
   have p00 : ixD (.lst [pr p]) (.int 0) = some (pr p) := rfl
   simp only [List.map_cons, forM, row5, mgTup, List.length_cons, List.length_nil, if_true, mgCons, mgNil, mgName, List.set_cons_zero, List.set_cons_succ, Option.bind_some, mIfS, mAnd, mB, mOp, mVar, look, mC, res, unD, cat_ok oa ob, cat_ok oc od, pr0, pr1, p00, cord_at hz a0.1 a0.2, cord_at hz a1.1 a1.2, cord_at hz a2.1 a2.2, cord_at hz a3.1 a3.2, cat_ok (one_cAt _ _) (one_cAt _ _), eq_str, cat_eq oa ob (one_cAt _ _) (one_cAt _ _), cat_eq oc od (one_cAt _ _) (one_cAt _ _), Bool.false_eq_true, if_false, asB]
   by_cases h12 : ra = cAt z h.1 /\ rb = cAt z h.2
   · by_cases h34 : rc = cAt z p.1 /\ rd = cAt z p.2
     · have hk : [ra, rb, rc, rd] = [cAt z h.1, cAt z h.2, cAt z p.1, cAt z p.2] := by rw [h12.1, h12.2, h34.1, h34.2]
       simp only [h12, h34, and_self, decide_true, if_true, mAsg, mVar, look, Option.bind_some, sto, mode, mdwdue, unD, mgName, List.set_cons_zero, List.set_cons_succ]
     · have hk : ¬ [ra, rb, rc, rd] = [cAt z h.1, cAt z h.2, cAt z p.1, cAt z p.2] := fun w => h34 (by injection w with _ w; injection w with _ w; injection w with w1 w; injection w with w2 _; exact ⟨w1, w2⟩)
       simp only [decide_eq_true h12, decide_eq_false h34, if_true, Bool.false_eq_true, if_false, mNext, Option.bind_some, if_neg hk]
   · have hk : ¬ [ra, rb, rc, rd] = [cAt z h.1, cAt z h.2, cAt z p.1, cAt z p.2] := fun w => h12 (by injection w with w1 w; injection w with w2 _; exact ⟨w1, w2⟩)
     simp only [decide_eq_false h12, Bool.false_eq_true, if_false, mNext, Option.bind_some, if_neg hk]
end Mir
namespace Mir
open PySem L2
theorem depth_pr (p : Int × Int) : D.depth (pr p) <= 1 := by unfold pr; simp [D.depth, D.depthL]
theorem eq_nil (ps : List (Int × Int)) : Mir.eqD 4 false (.lst (ps.map pr)) (.lst []) = some (.bl ps.isEmpty) := by
 have hd : D.depth (.lst (ps.map pr)) <= 4 := by
   rw [D.depth]
   have := My.depthL_le (f := pr) (n := 1) depth_pr ps
   omega
 unfold Mir.eqD
 rw [if_pos hd]
 cases ps with
 | nil => rfl
 | cons p r => simp [D.eq, D.eqL]
theorem ext_at {l : List Int} {f : Int} (h1 : 1 <= l.length) (f0 : 0 <= f) (f1 : f < 20) : ixD (.lst ((ext30 l).map D.int)) (.int f) = some (.int (lastD l f.toNat)) := by
 show atI ((ext30 l).map D.int) f = _
 have hl : (ext30 l).length = l.length + 30 := by simp [ext30]
 rw [atI_int f0 (by rw [hl]; omega), ext30_get h1 (by omega)]
theorem due_ok (B : Bo) {z : Str} {h : Int × Int} {ps : List (Int × Int)} {f : Int} (hz : z.length <= 20) (a0 : 0 <= h.1 /\ h.1 < z.length) (a1 : 0 <= h.2 /\ h.2 < z.length) (hp : ∀ p ∈ ps, (0 <= p.1 /\ p.1 < (z.length : Int)) /\ (0 <= p.2 /\ p.2 < (z.length : Int))) (h0 : 0 <= f) (h20 : f < 20) (hps : ps.length <= 100) :
   mlwdue [.d (.tup B.b), .d (.str z), .d (pr h), .d (.lst (ps.map pr)), .d (.int f)] = some (.d (.int (addedP B z h ps f))) := by
 have e0 : mlwdue [.d (.tup B.b), .d (.str z), .d (pr h), .d (.lst (ps.map pr)), .d (.int f)] = retOf (mbwdue [some (.d (.tup B.b)), some (.d (.str z)), some (.d (pr h)), some (.d (.lst (ps.map pr))), some (.d (.int f)), none, none, none, none, none, none, none, none]) := rfl
 rw [e0]
 unfold mbwdue
 have x3 := ext_step (md := mdwdue) (ρ := [some (.d (.tup B.b)), some (.d (.str z)), some (.d (pr h)), some (.d (.lst (ps.map pr))), some (.d (.int f)), none, none, none, none, none, none, none, none]) (k := 3) (ki := 3) rfl rfl B.he B.e1 B.e8
 rw [seq_nx (ρ' := [some (.d (.tup B.b)), some (.d (.str z)), some (.d (pr h)), some (.d (.lst (ps.map pr))), some (.d (.int f)), some (.d (.lst ((ext30 B.ends).map D.int))), none, none, none, none, none, none, none]) (by
   unfold mAsg; rw [x3]; simp only [Option.bind_some, sto, mgName, List.set_cons_zero, List.set_cons_succ])]
 have x4 := ext_step (md := mdwdue) (ρ := [some (.d (.tup B.b)), some (.d (.str z)), some (.d (pr h)), some (.d (.lst (ps.map pr))), some (.d (.int f)), some (.d (.lst ((ext30 B.ends).map D.int))), none, none, none, none, none, none, none]) (k := 4) (ki := 4) rfl rfl B.hb B.b1 B.b8
 rw [seq_nx (ρ' := [some (.d (.tup B.b)), some (.d (.str z)), some (.d (pr h)), some (.d (.lst (ps.map pr))), some (.d (.int f)), some (.d (.lst ((ext30 B.ends).map D.int))), some (.d (.lst ((ext30 B.bends).map D.int))), none, none, none, none, none, none]) (by
   unfold mAsg; rw [x4]; simp only [Option.bind_some, sto, mgName, List.set_cons_zero, List.set_cons_succ])]
 generalize hE : D.lst ((ext30 B.ends).map D.int) = E
 generalize hBn : D.lst ((ext30 B.bends).map D.int) = Bn
 have z0 : ([] : List D).length <= sizeLine := Nat.zero_le _
 match ps, hp, hps with
 | [], hp, _ =>
   have en := eq_nil []
   rw [seq_ret (s := .d (.int (lastD B.ends f.toNat))) (ρ' := [some (.d (.tup B.b)), some (.d (.str z)), some (.d (pr h)), some (.d (.lst ([].map pr))), some (.d (.int f)), some (.d E), some (.d Bn), none, none, none, none, none, none]) (by
     rw [<- hE]
     simp only [mIfS, mB, mOp, mVar, look, mLst, mNil, Option.bind_some, stos, z0, if_true, res, unD, en, List.isEmpty_nil, asB, mRet, ext_at B.e1 h0 h20, immO, D.imm])]
   rfl
 | [p], hp, _ =>
   have hp0 := hp p (by simp)
   have en := eq_nil [p]
   rw [seq_nx (ρ' := [some (.d (.tup B.b)), some (.d (.str z)), some (.d (pr h)), some (.d (.lst ([p].map pr))), some (.d (.int f)), some (.d E), some (.d Bn), none, none, none, none, none, none]) (by
     simp only [mIfS, mB, mOp, mVar, look, mLst, mNil, Option.bind_some, stos, z0, if_true, res, unD, en, List.isEmpty_cons, asB, Bool.false_eq_true, if_false, mNext])]
   rw [seq_nx (ρ' := [some (.d (.tup B.b)), some (.d (.str z)), some (.d (pr h)), some (.d (.lst ([p].map pr))), some (.d (.int f)), some (.d E), some (.d Bn), none, none, none, none, none, none]) (by
     simp only [mIfS, mB, mOp, mCB, mCons, mNil, mVar, look, mC, Option.bind_some, ress, res, unD, lenD, List.map_cons, List.map_nil, List.length_cons, List.length_nil, cmpD, show decide ((1 : Int) < ((0 + 1 : Nat) : Int)) = false from rfl, asB, Bool.false_eq_true, if_false, mNext])]
   by_cases hf : f = 0
   · subst hf
     rw [seq_nx (ρ' := [some (.d (.tup B.b)), some (.d (.str z)), some (.d (pr h)), some (.d (.lst ([p].map pr))), some (.d (.int 0)), some (.d E), some (.d Bn), none, none, none, none, none, none]) (by
       simp only [mIfS, mB, mOp, mVar, look, mC, Option.bind_some, res, unD, cmpD, Int.lt_irrefl, decide_false, asB, Bool.false_eq_true, if_false, mNext])]
     rw [seq_nx (ρ' := [some (.d (.tup B.b)), some (.d (.str z)), some (.d (pr h)), some (.d (.lst [pr p])), some (.d (.int 0)), some (.d E), some (.d Bn), some (.d (.int 0)), none, none, none, none, none]) (by
       simp only [mAsg, mC, Option.bind_some, sto, mgName, List.set_cons_zero, List.set_cons_succ, List.map_cons, List.map_nil])]
     obtain ⟨x, y, u, v, c, e⟩ := due_loop hz a0 a1 hp0.1 hp0.2 (.tup B.b) (.int 0) E Bn B.nests 0 none none none none none B.n4 B.one
     have e2 : atI B.b 2 = some (.tup (B.nests.map My.rowD)) := by
       have w : atI B.b ((2 : Nat) : Int) = some (.tup (B.nests.map My.rowD)) := atI_nat B.hn
       exact w
     have es : mSeqI mdwdue (mOp ixD (mVar 0) (mC (.int 2))) [some (.d (.tup B.b)), some (.d (.str z)), some (.d (pr h)), some (.d (.lst [pr p])), some (.d (.int 0)), some (.d E), some (.d Bn), some (.d (.int 0)), none, none, none, none, none] = some (B.nests.map My.rowD, [some (.d (.tup B.b)), some (.d (.str z)), some (.d (pr h)), some (.d (.lst [pr p])), some (.d (.int 0)), some (.d E), some (.d Bn), some (.d (.int 0)), none, none, none, none, none]) := by
       simp only [mSeqI, mOp, mVar, look, mC, Option.bind_some, res, unD, ixD, e2, sto, seqD]
     rw [seq_nx (by unfold mFor; rw [es]; exact e)]
     simp only [mRet, mVar, look, Option.bind_some, res, unD, immO, D.imm, if_true, retOf, addedP, last_nest B.nd]
   · have hf' : (0 : Int) < f := by omega
     rw [seq_ret (s := .d (.int (lastD B.bends (f.toNat - 1)))) (ρ' := [some (.d (.tup B.b)), some (.d (.str z)), some (.d (pr h)), some (.d (.lst ([p].map pr))), some (.d (.int f)), some (.d E), some (.d Bn), none, none, none, none, none, none]) (by
       have ex := ext_at (f := f - 1) B.b1 (by omega) (by omega)
       rw [show (f - 1).toNat = f.toNat - 1 by omega] at ex
       rw [<- hBn]
       simp only [mIfS, mB, mOp, mVar, look, mC, Option.bind_some, res, unD, cmpD, hf', decide_true, asB, if_true, mRet, subD, ex, immO, D.imm])]
     simp only [retOf, addedP, if_neg hf]
 | p :: q :: r, hp, hps =>
   have en := eq_nil (p :: q :: r)
   have hlen : decide ((1 : Int) < (((p :: q :: r).map pr).length : Int)) = true := by simp; omega
   have el : ((p :: q :: r).map pr).length = (p :: q :: r).length := List.length_map ..
   generalize hL : (p :: q :: r).map pr = L at en hlen el ⊢
   rw [seq_nx (ρ' := [some (.d (.tup B.b)), some (.d (.str z)), some (.d (pr h)), some (.d (.lst L)), some (.d (.int f)), some (.d E), some (.d Bn), none, none, none, none, none, none]) (by
     simp only [mIfS, mB, mOp, mVar, look, mLst, mNil, Option.bind_some, stos, z0, if_true, res, unD, en, List.isEmpty_cons, asB, Bool.false_eq_true, if_false, mNext])]
   obtain ⟨y1, g1⟩ := const_loop (mdIn mdwdue 1 [0] []) B.b 5 1 B.each 5 1 rfl rfl _ B.hf rfl L none 0 (by rw [el]; simp at hps ⊢; omega)
   obtain ⟨y2, g2⟩ := const_loop (mdIn mdwdue 1 [0] []) B.b 5 2 B.fr 5 2 rfl rfl _ B.hf rfl ((ups 0 f.toNat).map D.int) none 0 (by rw [List.length_map, ups_len]; omega)
   have hr : -(2 ^ 62) <= f /\ f < 2 ^ 62 := ⟨by omega, by omega⟩
   have e5 : atI B.b 5 = some (.tup [.int B.base, .int B.each, .int B.fr]) := by
     have w : atI B.b ((5 : Nat) : Int) = some (.tup [.int B.base, .int B.each, .int B.fr]) := atI_nat B.hf
     exact w
   have er : mRng1 (mCons (mVar 4) mNil) [some (.d (.tup B.b)), some (.d (.str z)), some (.d (pr h)), some (.d (.lst L)), some (.d (.int f)), some (.d E), some (.d Bn), none, none, none, none, none, none] = some ((ups 0 f.toNat).map D.int, [some (.d (.tup B.b)), some (.d (.str z)), some (.d (pr h)), some (.d (.lst L)), some (.d (.int f)), some (.d E), some (.d Bn), none, none, none, none, none, none]) := by
     rw [<- rng_ups]
     simp only [mRng1, mCons, mVar, look, mNil, Option.bind_some, ress, res, unD, hr, and_self, if_true]
   have es : mSeqI mdwdue (mVar 3) [some (.d (.tup B.b)), some (.d (.str z)), some (.d (pr h)), some (.d (.lst L)), some (.d (.int f)), some (.d E), some (.d Bn), none, none, none, none, none, none] = some (L, [some (.d (.tup B.b)), some (.d (.str z)), some (.d (pr h)), some (.d (.lst L)), some (.d (.int f)), some (.d E), some (.d Bn), none, none, none, none, none, none]) := by
     simp only [mSeqI, mVar, look, Option.bind_some, sto, mode, mdwdue, unD, seqD]
   have in1 : inEn 1 [0] [some (.d (.tup B.b)), some (.d (.str z)), some (.d (pr h)), some (.d (.lst L)), some (.d (.int f)), some (.d E), some (.d Bn), none, none, none, none, none, none] = [none, some (.d (.tup B.b))] := rfl
   rw [List.length_map, ups_len] at g2
   simp only [Nat.zero_add, List.replicate_zero] at g1 g2
   rw [seq_ret (s := .d (.int (B.base + B.each * (L.length : Int) + B.fr * (f.toNat : Int)))) (ρ' := [some (.d (.tup B.b)), some (.d (.str z)), some (.d (pr h)), some (.d (.lst L)), some (.d (.int f)), some (.d E), some (.d Bn), none, none, none, none, none, none]) (by
     simp only [mIfS, mB, mOp, mCB, mCons, mNil, mVar, look, mC, Option.bind_some, ress, res, unD, lenD, cmpD, hlen, asB, if_true, mRet, ixD, e5, show atI [D.int B.base, D.int B.each, D.int B.fr] 0 = some (.int B.base) from rfl, mComp, es, er, in1, g1, g2, wb, List.isEmpty_nil, sum_rep, addD, immO, D.imm])]
   simp only [retOf, addedP]
   rw [el, Int.toNat_of_nonneg h0]
end Mir
namespace Mir
open PySem L2
def usedP (ps : List (Int × Int)) : Int := (ps.map fun p => p.2 - p.1 + 1).sum
theorem b01 (b : Bool) : (if b = true then (1 : Int) else 0) = 0 ∨ (if b = true then (1 : Int) else 0) = 1 := by cases b <;> simp
theorem inner_loop (c i j : Int) (hc : 0 <= c) (l : List Int) : ∀ (ps : List (Int × Int)) (a : Int) (x y w : Option S), (∀ n ∈ l, 0 <= n /\ n < 20) -> ps.length + l.length <= 20 -> i + 1 <= a -> a <= j -> j <= 100 -> 0 <= i -> usedP ps <= a - (i + 1) -> (∀ p ∈ ps, i < p.1 /\ p.1 < p.2 /\ p.2 < j) ->
   ∃ (ps' : List (Int × Int)) (a' : Int) (x' y' w' : Option S), ps'.length <= ps.length + l.length /\ usedP ps' <= j - (i + 1) /\ (∀ p ∈ ps', i < p.1 /\ p.1 < p.2 /\ p.2 < j) /\
   forM (mgName 5) (mSeq (mAsg mdwinner (mOp addD (mVar 4) (mOp mulX (mOp modD (mOp divD (mVar 0) (mOp addD (mC (.int 7)) (mOp mulX (mC (.int 5)) (mVar 5)))) (mC (.int 3))) (mCB intD (mCons (mOp gtD (mOp modD (mOp divD (mVar 0) (mC (.int 6))) (mC (.int 3))) (mC (.int 0))) mNil)))) (mgName 6)) (mSeq (mAsg mdwinner (mOp addD (mOp addD (mVar 6) (mC (.int 1))) (mOp mulX (mOp modD (mOp divD (mVar 0) (mOp addD (mC (.int 11)) (mOp mulX (mC (.int 3)) (mVar 5)))) (mC (.int 3))) (mCB intD (mCons (mOp gtD (mOp modD (mOp divD (mVar 0) (mC (.int 18))) (mC (.int 3))) (mC (.int 0))) mNil)))) (mgName 7)) (mIfS (mB (mOp ltD (mVar 7) (mVar 2))) (mSeq (mDrop (mAppend mdwinner 3 (mCons (mTup mdwinner (mCons (mVar 6) (mCons (mVar 7) mNil))) mNil))) (mAsg mdwinner (mOp addD (mVar 7) (mC (.int 1))) (mgName 4))) (mNext)))) (l.map D.int)
     [some (.d (.int c)), some (.d (.int i)), some (.d (.int j)), some (.d (.lst (ps.map pr))), some (.d (.int a)), x, y, w] = some (.nx, [some (.d (.int c)), some (.d (.int i)), some (.d (.int j)), some (.d (.lst (ps'.map pr))), some (.d (.int a')), x', y', w']) := by
 induction l with
 | nil => intro ps a x y w _ _ h1 h2 h3 h4 h5 h6; exact ⟨ps, a, x, y, w, by simp, by omega, h6, rfl⟩
 | cons n l ih =>
   intro ps a x y w hn hl h1 h2 h3 h4 h5 h6
   rw [List.length_cons] at hl
   have hn0 := hn n (by simp)
   have m1 : CMul 5 n := mulB (by decide) (by decide)
   have m2 : CMul 3 n := mulB (by decide) (by decide)
   have d1 : CDivB (7 + 5 * n) := divB (by omega) (by omega)
   have d2 : CDivB (11 + 3 * n) := divB (by omega) (by omega)
   have d6 : CDivB 6 := divB (by decide) (by decide)
   have d18 : CDivB 18 := divB (by decide) (by decide)
   have p3 : (0 : Int) < 3 := by decide
   have q0 := Int.emod_nonneg (c / (7 + 5 * n)) (show (3 : Int) ≠ 0 by decide)
   have q1 := Int.emod_lt_of_pos (c / (7 + 5 * n)) p3
   have r0 := Int.emod_nonneg (c / (11 + 3 * n)) (show (3 : Int) ≠ 0 by decide)
   have r1 := Int.emod_lt_of_pos (c / (11 + 3 * n)) p3
   generalize hA : c / (7 + 5 * n) % 3 = A at q0 q1
   generalize hB : c / (11 + 3 * n) % 3 = B at r0 r1
   generalize hs : (if decide (0 < c / 6 % 3) = true then (1 : Int) else 0) = s
   generalize ht : (if decide (0 < c / 18 % 3) = true then (1 : Int) else 0) = t
   have hs' : s = 0 ∨ s = 1 := by rw [<- hs]; exact b01 _
   have ht' : t = 0 ∨ t = 1 := by rw [<- ht]; exact b01 _
   have m3 : CMul A s := mulB (by omega) (by omega)
   have m4 : CMul B t := mulB (by omega) (by omega)
   have hAs : 0 <= A * s := Int.mul_nonneg q0 (by omega)
   have hBt : 0 <= B * t := Int.mul_nonneg r0 (by omega)
   generalize hx : A * s = X at hAs
   generalize hy : B * t = Y at hBt
   have st1 : mAsg mdwinner (mOp addD (mVar 4) (mOp mulX (mOp modD (mOp divD (mVar 0) (mOp addD (mC (.int 7)) (mOp mulX (mC (.int 5)) (mVar 5)))) (mC (.int 3))) (mCB intD (mCons (mOp gtD (mOp modD (mOp divD (mVar 0) (mC (.int 6))) (mC (.int 3))) (mC (.int 0))) mNil)))) (mgName 6) [some (.d (.int c)), some (.d (.int i)), some (.d (.int j)), some (.d (.lst (ps.map pr))), some (.d (.int a)), some (.d (.int n)), y, w] = some (.nx, [some (.d (.int c)), some (.d (.int i)), some (.d (.int j)), some (.d (.lst (ps.map pr))), some (.d (.int a)), some (.d (.int n)), some (.d (.int (a + X))), w]) := by
     simp only [mAsg, mOp, mVar, look, mC, Option.bind_some, res, unD, mul_int m1, addD, div_int d1, mod_int p3, hA, mCB, mCons, mNil, div_int d6, cmpD, ress, intD, hs, mul_int m3, hx, sto, mgName, List.set_cons_zero, List.set_cons_succ]
   have st2 : mAsg mdwinner (mOp addD (mOp addD (mVar 6) (mC (.int 1))) (mOp mulX (mOp modD (mOp divD (mVar 0) (mOp addD (mC (.int 11)) (mOp mulX (mC (.int 3)) (mVar 5)))) (mC (.int 3))) (mCB intD (mCons (mOp gtD (mOp modD (mOp divD (mVar 0) (mC (.int 18))) (mC (.int 3))) (mC (.int 0))) mNil)))) (mgName 7) [some (.d (.int c)), some (.d (.int i)), some (.d (.int j)), some (.d (.lst (ps.map pr))), some (.d (.int a)), some (.d (.int n)), some (.d (.int (a + X))), w] = some (.nx, [some (.d (.int c)), some (.d (.int i)), some (.d (.int j)), some (.d (.lst (ps.map pr))), some (.d (.int a)), some (.d (.int n)), some (.d (.int (a + X))), some (.d (.int (a + X + 1 + Y)))]) := by
     simp only [mAsg, mOp, mVar, look, mC, Option.bind_some, res, unD, mul_int m2, addD, div_int d2, mod_int p3, hB, mCB, mCons, mNil, div_int d18, cmpD, ress, intD, ht, mul_int m4, hy, sto, mgName, List.set_cons_zero, List.set_cons_succ]
   by_cases hj : a + X + 1 + Y < j
   · obtain ⟨ps', a', x', y', w', g1, g2, g3, g4⟩ := ih (ps ++ [(a + X, a + X + 1 + Y)]) (a + X + 1 + Y + 1) (some (.d (.int n))) (some (.d (.int (a + X)))) (some (.d (.int (a + X + 1 + Y)))) (fun k hk => hn k (by simp [hk])) (by simp; omega) (by omega) (by omega) h3 h4 (by
       unfold usedP at h5 ⊢
       rw [List.map_append, List.sum_append]
       simp only [List.map_cons, List.map_nil, List.sum_cons, List.sum_nil]
       omega) (fun p hp => by
       rcases List.mem_append.mp hp with hp | hp
       · exact h6 p hp
       · have : p = (a + X, a + X + 1 + Y) := by simpa using hp
         rw [this]; refine ⟨?_, ?_, ?_⟩ <;> dsimp only <;> omega)
     refine ⟨ps', a', x', y', w', by rw [List.length_append] at g1; simp at g1 ⊢; omega, g2, g3, ?_⟩
     rw [<- g4]
     have l2 : ([D.int (a + X), D.int (a + X + 1 + Y)] : List D).length <= sizeLine := by show 2 <= sizeLine; decide
     have lp : (ps.map pr).length < sizeLine := by rw [List.length_map]; exact small1000 (by omega)
     simp only [List.map_cons, forM, mgName, List.set_cons_zero, List.set_cons_succ, Option.bind_some]
     rw [seq_nx st1, seq_nx st2]
     simp only [mIfS, mB, mOp, mVar, look, Option.bind_some, res, unD, cmpD, hj, decide_true, asB, if_true]
     rw [seq_nx (ρ' := [some (.d (.int c)), some (.d (.int i)), some (.d (.int j)), some (.d (.lst (ps.map pr ++ [.tup [.int (a + X), .int (a + X + 1 + Y)]]))), some (.d (.int a)), some (.d (.int n)), some (.d (.int (a + X))), some (.d (.int (a + X + 1 + Y)))]) (by
       simp only [mDrop, mAppend, look, lstS, Option.bind_some, mCons, mTup, mVar, mNil, stos, sto, mode, mdwinner, unD, l2, if_true, lp, List.set_cons_zero, List.set_cons_succ])]
     simp only [mAsg, mOp, mVar, look, mC, Option.bind_some, res, unD, addD, sto, mgName, List.set_cons_zero, List.set_cons_succ, List.map_append, List.map_cons, List.map_nil, pr]
   · obtain ⟨ps', a', x', y', w', g1, g2, g3, g4⟩ := ih ps a (some (.d (.int n))) (some (.d (.int (a + X)))) (some (.d (.int (a + X + 1 + Y)))) (fun k hk => hn k (by simp [hk])) (by omega) h1 h2 h3 h4 h5 h6
     refine ⟨ps', a', x', y', w', by rw [List.length_cons]; omega, g2, g3, ?_⟩
     rw [<- g4]
     simp only [List.map_cons, forM, mgName, List.set_cons_zero, List.set_cons_succ, Option.bind_some]
     rw [seq_nx st1, seq_nx st2]
     simp only [mIfS, mB, mOp, mVar, look, Option.bind_some, res, unD, cmpD, hj, decide_false, asB, Bool.false_eq_true, if_false, mNext]
theorem imm_pr (p : Int × Int) : D.imm (pr p) = true := rfl
theorem inner_ok (c i j : Int) (hc : 0 <= c) (hi : 0 <= i) (hj : i < j) (hj2 : j <= 100) : ∃ ps : List (Int × Int), ps.length <= 20 /\ usedP ps <= j - (i + 1) /\ (∀ p ∈ ps, i < p.1 /\ p.1 < p.2 /\ p.2 < j) /\ mlwinner [.d (.int c), .d (.int i), .d (.int j)] = some (.d (.lst (ps.map pr))) := by
 have q0 := Int.emod_nonneg c (show (10 : Int) ≠ 0 by decide)
 have q1 := Int.emod_lt_of_pos c (show (0 : Int) < 10 by decide)
 obtain ⟨ps, a, x, y, w, g1, g2, g3, g4⟩ := inner_loop c i j hc (ups 0 (c % 10).toNat) [] (i + 1) none none none (fun n hn => by have := ups_mem hn; omega) (by simp [ups_len]; omega) (by omega) (by omega) hj2 hi (by simp [usedP]) (by simp)
 refine ⟨ps, by rw [ups_len] at g1; simp at g1; omega, g2, g3, ?_⟩
 have e0 : mlwinner [.d (.int c), .d (.int i), .d (.int j)] = retOf (mbwinner [some (.d (.int c)), some (.d (.int i)), some (.d (.int j)), none, none, none, none, none]) := rfl
 rw [e0]
 unfold mbwinner
 rw [seq_nx (ρ' := [some (.d (.int c)), some (.d (.int i)), some (.d (.int j)), some (.d (.lst [])), none, none, none, none]) (by simp only [mAsgN, mnLst, mNil, Option.bind_some, stos, List.length_nil, Nat.zero_le, if_true, List.set_cons_zero, List.set_cons_succ])]
 rw [seq_nx (ρ' := [some (.d (.int c)), some (.d (.int i)), some (.d (.int j)), some (.d (.lst [])), some (.d (.int (i + 1))), none, none, none]) (by simp only [mAsg, mOp, mVar, look, mC, Option.bind_some, res, unD, addD, sto, mgName, List.set_cons_zero, List.set_cons_succ])]
 have p10 : (0 : Int) < 10 := by decide
 have hr : -(2 ^ 62) <= c % 10 /\ c % 10 < 2 ^ 62 := ⟨by omega, by omega⟩
 have er : mRng1 (mCons (mOp modD (mVar 0) (mC (.int 10))) mNil) [some (.d (.int c)), some (.d (.int i)), some (.d (.int j)), some (.d (.lst [])), some (.d (.int (i + 1))), none, none, none] = some ((ups 0 (c % 10).toNat).map D.int, [some (.d (.int c)), some (.d (.int i)), some (.d (.int j)), some (.d (.lst [])), some (.d (.int (i + 1))), none, none, none]) := by
   rw [<- rng_ups]
   simp only [mRng1, mCons, mOp, mVar, look, mC, mNil, Option.bind_some, ress, res, unD, mod_int p10, hr, and_self, if_true]
 rw [seq_nx (by unfold mFor; rw [er]; exact g4)]
 have im : D.immL (ps.map pr) = true := My.immL_map imm_pr ps
 simp only [mRetV, look, Option.bind_some, immS, im, if_true, retOf]
end Mir
namespace Mir
open PySem L2
theorem len_app (a b : Str) : (a ++ b).length = a.length + b.length := by
 show (a.cps ++ b.cps).size = a.cps.size + b.cps.size
 exact Array.size_append
theorem add_int (i j : Int) : addD (.int i) (.int j) = some (.int (i + j)) := rfl
theorem one_len {c : Str} (h : One c) : c.length = 1 := by obtain ⟨n, rfl⟩ := h; rfl
theorem cord_loop (ns : List Int) (cs : List Str) (c many : Int) (h1 : 1 <= cs.length) (h4 : cs.length <= 4) (ho : ∀ c ∈ cs, One c) (l : List Int) : ∀ (z : Str) (x : Option S), (∀ n ∈ l, 0 <= n /\ n < 20) -> z.length + l.length <= 20 ->
   ∃ (z' : Str) (x' : Option S), z'.length = z.length + l.length /\
   forM (mgName 6) (mAsg mdwcord (mOp addD (mVar 4) (mOp ixD (mVar 2) (mOp modD (mOp divD (mCallA mlwcell (mCons (mVar 0) (mCons (mOp addD (mC (.int 7)) (mOp divD (mVar 6) (mC (.int 5)))) mNil))) (mOp addD (mC (.int 1)) (mOp mulX (mOp mulX (mC (.int 13)) (mOp modD (mVar 6) (mC (.int 5)))) (mOp addD (mOp modD (mVar 6) (mC (.int 5))) (mC (.int 1)))))) (mCB lenD (mCons (mVar 2) mNil))))) (mgName 4)) (l.map D.int)
     [some (.scr ns), some (.d (.int 20)), some (.d (.lst (cs.map D.str))), some (.d (.int c)), some (.d (.str z)), some (.d (.int many)), x] = some (.nx, [some (.scr ns), some (.d (.int 20)), some (.d (.lst (cs.map D.str))), some (.d (.int c)), some (.d (.str z')), some (.d (.int many)), x']) := by
 induction l with
 | nil => intro z x _ _; exact ⟨z, x, by simp, rfl⟩
 | cons n l ih =>
   intro z x hn hl
   rw [List.length_cons] at hl
   have hn0 := hn n (by simp)
   obtain ⟨k, k0, k1, ek⟩ := cell_ok ns (7 + n / 5) (by omega) (by omega)
   have q0 := Int.emod_nonneg n (show (5 : Int) ≠ 0 by decide)
   have q1 := Int.emod_lt_of_pos n (show (0 : Int) < 5 by decide)
   generalize hq : n % 5 = q at q0 q1
   have m1 : CMul 13 q := mulB (by decide) (by decide)
   have m2 : CMul (13 * q) (q + 1) := mulB (by omega) (by omega)
   have d5 : CDivB 5 := divB (by decide) (by decide)
   have p5 : (0 : Int) < 5 := by decide
   have w0 : 0 <= 13 * q * (q + 1) := Int.mul_nonneg (by omega) (by omega)
   have w1 : 13 * q * (q + 1) <= 65 * 6 := Int.mul_le_mul (by omega) (by omega) (by omega) (by omega)
   have dv : CDivB (1 + 13 * q * (q + 1)) := divB (by omega) (by omega)
   have el : (((cs.map D.str).length : Nat) : Int) = (cs.length : Int) := by rw [List.length_map]
   have pl : (0 : Int) < (cs.length : Int) := by omega
   generalize hk : k / (1 + 13 * q * (q + 1)) = kk
   have r0 := Int.emod_nonneg kk (show (cs.length : Int) ≠ 0 by omega)
   have r1 := Int.emod_lt_of_pos kk pl
   generalize hr : kk % (cs.length : Int) = r at r0 r1
   obtain ⟨c1, ea, _⟩ := atI_ex (l := cs) r0 r1
   have hc1 := ho c1 (atI_mem ea)
   have eb : atI (cs.map D.str) r = some (.str c1) := by
     have hg : cs[r.toNat]? = some c1 := by assumption
     have w : atI (cs.map D.str) ((r.toNat : Nat) : Int) = some (.str c1) := atI_nat (by rw [List.getElem?_map, hg]; rfl)
     rwa [Int.toNat_of_nonneg r0] at w
   have hs : z.length + c1.length <= sizeLine := by rw [one_len hc1]; exact Nat.le_of_lt (small1000 (by omega))
   obtain ⟨z', x', g1, g2⟩ := ih (z ++ c1) (some (.d (.int n))) (fun i hi => hn i (by simp [hi])) (by rw [len_app, one_len hc1]; omega)
   refine ⟨z', x', by rw [g1, len_app, one_len hc1, List.length_cons]; omega, ?_⟩
   rw [<- g2]
   simp only [List.map_cons, forM, mgName, List.set_cons_zero, List.set_cons_succ, Option.bind_some, mAsg, mOp, mCallA, mCons, mVar, look, mNil, mC, res, unD, div_int d5, add_int, resA, resS, argS, ek, mod_int p5, hq, mul_int m1, mul_int m2, div_int dv, hk, mCB, ress, lenD, el, mod_int pl, hr, ixD, eb, add_str hs, sto]
theorem cord_ok (ns : List Int) : ∃ z : Str, z.length <= 20 /\ mlwcord [.scr ns, .d (.int 20)] = some (.d (.str z)) := by
 obtain ⟨cs, h1, h4, ho, ecs⟩ := letters_ok ns
 obtain ⟨c, c0, c1, ec⟩ := cell_ok ns 6 (by decide) (by decide)
 have u0 := Int.emod_nonneg (c / 8) (show (20 / 2 + 1 : Int) ≠ 0 by decide)
 have u1 := Int.emod_lt_of_pos (c / 8) (show (0 : Int) < 20 / 2 + 1 by decide)
 have v0 := Int.emod_nonneg (c / 8) (show (20 + 1 : Int) ≠ 0 by decide)
 have v1 := Int.emod_lt_of_pos (c / 8) (show (0 : Int) < 20 + 1 by decide)
 have d8 : CDivB 8 := divB (by decide) (by decide)
 have d2 : CDivB 2 := divB (by decide) (by decide)
 have p8 : (0 : Int) < 8 := by decide
 have pa : (0 : Int) < 20 / 2 + 1 := by decide
 have pb : (0 : Int) < 20 + 1 := by decide
 generalize hu : c / 8 % (20 / 2 + 1) = u at u0 u1
 generalize hv : c / 8 % (20 + 1) = v at v0 v1
 have hm : ∃ m : Int, 0 <= m /\ m <= 20 /\ atI [D.int (20 - u), D.int v] (if (c % 8 == 0) = true then (1 : Int) else 0) = some (.int m) := by
   cases (c % 8 == 0)
   · exact ⟨20 - u, by omega, by omega, rfl⟩
   · exact ⟨v, by omega, by omega, rfl⟩
 obtain ⟨m, m0, m1, em⟩ := hm
 have l2 : ([D.int (20 - u), D.int v] : List D).length <= sizeLine := by show 2 <= sizeLine; decide
 obtain ⟨z, x, g1, g2⟩ := cord_loop ns cs c m h1 h4 ho (ups 0 m.toNat) ⟨#[]⟩ none (fun j hj => by have := ups_mem hj; omega) (by rw [ups_len]; show 0 + _ <= 20; omega)
 refine ⟨z, by rw [g1, ups_len]; show 0 + _ <= 20; omega, ?_⟩
 have e0 : mlwcord [.scr ns, .d (.int 20)] = retOf (mbwcord [some (.scr ns), some (.d (.int 20)), none, none, none, none, none]) := rfl
 rw [e0]
 unfold mbwcord
 rw [seq_nx (ρ' := [some (.scr ns), some (.d (.int 20)), some (.d (.lst (cs.map D.str))), none, none, none, none]) (by
   simp only [mAsg, mCallA, mCons, mVar, look, mNil, Option.bind_some, resA, resS, argS, ecs, unD, sto, mgName, List.set_cons_zero, List.set_cons_succ])]
 rw [seq_nx (ρ' := [some (.scr ns), some (.d (.int 20)), some (.d (.lst (cs.map D.str))), some (.d (.int c)), none, none, none]) (by
   simp only [mAsg, mCallA, mCons, mVar, look, mC, mNil, Option.bind_some, resA, resS, argS, ec, unD, sto, mgName, List.set_cons_zero, List.set_cons_succ])]
 rw [seq_nx (ρ' := [some (.scr ns), some (.d (.int 20)), some (.d (.lst (cs.map D.str))), some (.d (.int c)), some (.d (.str ⟨#[]⟩)), none, none]) rfl]
 rw [seq_nx (ρ' := [some (.scr ns), some (.d (.int 20)), some (.d (.lst (cs.map D.str))), some (.d (.int c)), some (.d (.str ⟨#[]⟩)), some (.d (.int m)), none]) (by
   simp only [mAsg, mOp, mLst, mCons, mNil, mVar, look, mC, Option.bind_some, res, unD, div_int d8, div_int d2, addD, mod_int pa, mod_int pb, hu, hv, subD, stos, sto, l2, if_true, mCB, mod_int p8, Mir.eqD, D.depth, Nat.zero_le, D.eq, Bool.false_eq_true, if_false, ress, intD, ixD, em, mgName, List.set_cons_zero, List.set_cons_succ])]
 have hr : -(2 ^ 62) <= m /\ m < 2 ^ 62 := ⟨by omega, by omega⟩
 have er : mRng1 (mCons (mVar 5) mNil) [some (.scr ns), some (.d (.int 20)), some (.d (.lst (cs.map D.str))), some (.d (.int c)), some (.d (.str ⟨#[]⟩)), some (.d (.int m)), none] = some ((ups 0 m.toNat).map D.int, [some (.scr ns), some (.d (.int 20)), some (.d (.lst (cs.map D.str))), some (.d (.int c)), some (.d (.str ⟨#[]⟩)), some (.d (.int m)), none]) := by
   rw [<- rng_ups]
   simp only [mRng1, mCons, mVar, look, mNil, Option.bind_some, ress, res, unD, hr, and_self, if_true]
 rw [seq_nx (ρ' := [some (.scr ns), some (.d (.int 20)), some (.d (.lst (cs.map D.str))), some (.d (.int c)), some (.d (.str z)), some (.d (.int m)), x]) (by
   unfold mFor
   rw [er]
   exact g2)]
 rfl
end Mir
namespace Mir
open PySem L2
abbrev Hp3 := Str × Str × Int
def hpD (h : Hp3) : D := .tup [.str h.1, .str h.2.1, .int h.2.2]
theorem str_at {cs : List Str} {r : Int} (ho : ∀ c ∈ cs, One c) (r0 : 0 <= r) (r1 : r < cs.length) : ∃ s, One s /\ atI (cs.map D.str) r = some (.str s) := by
 obtain ⟨c1, ea, hg⟩ := atI_ex (l := cs) r0 r1
 refine ⟨c1, ho c1 (atI_mem ea), ?_⟩
 have w : atI (cs.map D.str) ((r.toNat : Nat) : Int) = some (.str c1) := atI_nat (by rw [List.getElem?_map, hg]; rfl)
 rwa [Int.toNat_of_nonneg r0] at w
theorem hoop_in (ns : List Int) (cs : List Str) (c : Int) (zs : List Int) (i : Int) (h4 : cs.length <= 4) (ho : ∀ c ∈ cs, One c) (hz : zs.length = 16) (i0 : 0 <= i) (i1 : i < cs.length) (l : List Int) : ∀ (hs : List Hp3) (x : Option S), (∀ n ∈ l, 0 <= n /\ n < (cs.length : Int)) -> hs.length + l.length <= 100 -> (∀ h ∈ hs, One h.1 /\ One h.2.1) ->
   ∃ (hs' : List Hp3) (x' : Option S), hs'.length <= hs.length + l.length /\ (∀ h ∈ hs', One h.1 /\ One h.2.1) /\
   forM (mgName 7) (mIfS (mB (mOp gtD (mOp modD (mOp divD (mVar 2) (mOp addD (mOp addD (mC (.int 7)) (mOp mulX (mC (.int 3)) (mVar 6))) (mOp mulX (mC (.int 11)) (mVar 7)))) (mC (.int 4))) (mC (.int 0)))) (mDrop (mAppend mdwbook 4 (mCons (mTup mdwbook (mCons (mOp ixD (mVar 1) (mVar 6)) (mCons (mOp ixD (mVar 1) (mVar 7)) (mCons (mOp ixD (mVar 3) (mOp addD (mOp mulX (mC (.int 4)) (mVar 6)) (mVar 7))) mNil)))) mNil))) (mNext)) (l.map D.int) [some (.scr ns), some (.d (.lst (cs.map D.str))), some (.d (.int c)), some (.d (.tup (zs.map D.int))), some (.d (.lst (hs.map hpD))), some (.d (.lst [])), some (.d (.int i)), x, none, none, none, none, none, none, none, none] = some (.nx, [some (.scr ns), some (.d (.lst (cs.map D.str))), some (.d (.int c)), some (.d (.tup (zs.map D.int))), some (.d (.lst (hs'.map hpD))), some (.d (.lst [])), some (.d (.int i)), x', none, none, none, none, none, none, none, none]) := by
 induction l with
 | nil => intro hs x _ _ h1; exact ⟨hs, x, by simp, h1, rfl⟩
 | cons n l ih =>
   intro hs x hn hl ho2
   rw [List.length_cons] at hl
   have hn0 := hn n (by simp)
   have m1 : CMul 3 i := mulB (by decide) (by decide)
   have m2 : CMul 11 n := mulB (by decide) (by decide)
   have m3 : CMul 4 i := mulB (by decide) (by decide)
   have dv : CDivB (7 + 3 * i + 11 * n) := divB (by omega) (by omega)
   have p4 : (0 : Int) < 4 := by decide
   generalize hb : decide (0 < c / (7 + 3 * i + 11 * n) % 4) = b
   cases b with
   | false =>
     obtain ⟨hs', x', g1, g2, g3⟩ := ih hs (some (.d (.int n))) (fun i hi => hn i (by simp [hi])) (by omega) ho2
     refine ⟨hs', x', by rw [List.length_cons]; omega, g2, ?_⟩
     rw [<- g3]
     simp only [List.map_cons, forM, mgName, List.set_cons_zero, List.set_cons_succ, Option.bind_some, mIfS, mB, mOp, mVar, look, mC, res, unD, mul_int m1, mul_int m2, add_int, div_int dv, mod_int p4, cmpD, hb, asB, Bool.false_eq_true, if_false, mNext]
   | true =>
     obtain ⟨s1, o1, a1⟩ := str_at ho i0 i1
     obtain ⟨s2, o2, a2⟩ := str_at ho hn0.1 hn0.2
     have a3 : atI (zs.map D.int) (4 * i + n) = some (.int (zs.getD (4 * i + n).toNat 0)) := atI_int (by omega) (by omega)
     obtain ⟨hs', x', g1, g2, g3⟩ := ih (hs ++ [(s1, s2, zs.getD (4 * i + n).toNat 0)]) (some (.d (.int n))) (fun i hi => hn i (by simp [hi])) (by simp; omega) (fun h hm => by
       rcases List.mem_append.mp hm with hm | hm
       · exact ho2 h hm
       · have : h = (s1, s2, zs.getD (4 * i + n).toNat 0) := by simpa using hm
         rw [this]; exact ⟨o1, o2⟩)
     refine ⟨hs', x', by rw [List.length_append] at g1; simp at g1 ⊢; omega, g2, ?_⟩
     rw [<- g3]
     have l3 : ([D.str s1, D.str s2, D.int (zs.getD (4 * i + n).toNat 0)] : List D).length <= sizeLine := by show 3 <= sizeLine; decide
     have lh : (hs.map hpD).length < sizeLine := by rw [List.length_map]; exact small1000 (by omega)
     simp only [List.map_cons, forM, mgName, List.set_cons_zero, List.set_cons_succ, Option.bind_some, mIfS, mB, mOp, mVar, look, mC, res, unD, mul_int m1, mul_int m2, mul_int m3, add_int, div_int dv, mod_int p4, cmpD, hb, asB, if_true, mDrop, mAppend, lstS, mCons, mNil, mTup, ixD, a1, a2, a3, stos, sto, l3, lh, List.map_append, List.map_nil, hpD]
theorem rng_cs {cs : List Str} {ρ : En} (h4 : cs.length <= 4) (e : look ρ 1 = some (.d (.lst (cs.map D.str)))) : (mRng1 (mCons (mCB lenD (mCons (mVar 1) mNil)) mNil)) ρ = some ((ups 0 cs.length).map D.int, ρ) := by
 obtain ⟨m, hm⟩ : ∃ m : Int, m = (cs.length : Int) := ⟨_, rfl⟩
 have el : (((cs.map D.str).length : Nat) : Int) = m := by rw [List.length_map, hm]
 have hr : -(2 ^ 62) <= m /\ m < 2 ^ 62 := ⟨by omega, by omega⟩
 have hn : cs.length = m.toNat := by omega
 rw [hn, <- rng_ups]
 simp only [mRng1, mCons, mCB, mVar, mNil, Option.bind_some, ress, res, e, unD, lenD, el, hr, and_self, if_true]
theorem for_step {g : MG} {f : MS} {d : D} {ds : List D} {ρ ρ1 ρ2 : En} (hg : g d ρ = some ρ1) (hf : f ρ1 = some (.nx, ρ2)) : forM g f (d :: ds) ρ = forM g f ds ρ2 := by
 simp only [forM, hg, Option.bind_some, hf]
theorem hoop_out (ns : List Int) (cs : List Str) (c : Int) (zs : List Int) (h4 : cs.length <= 4) (ho : ∀ c ∈ cs, One c) (hz : zs.length = 16) (l : List Int) : ∀ (hs : List Hp3) (x y : Option S), (∀ n ∈ l, 0 <= n /\ n < (cs.length : Int)) -> hs.length + 4 * l.length <= 100 -> (∀ h ∈ hs, One h.1 /\ One h.2.1) ->
   ∃ (hs' : List Hp3) (x' y' : Option S), hs'.length <= hs.length + 4 * l.length /\ (∀ h ∈ hs', One h.1 /\ One h.2.1) /\
   forM (mgName 6) (mFor (mRng1 (mCons (mCB lenD (mCons (mVar 1) mNil)) mNil)) (mgName 7) (mIfS (mB (mOp gtD (mOp modD (mOp divD (mVar 2) (mOp addD (mOp addD (mC (.int 7)) (mOp mulX (mC (.int 3)) (mVar 6))) (mOp mulX (mC (.int 11)) (mVar 7)))) (mC (.int 4))) (mC (.int 0)))) (mDrop (mAppend mdwbook 4 (mCons (mTup mdwbook (mCons (mOp ixD (mVar 1) (mVar 6)) (mCons (mOp ixD (mVar 1) (mVar 7)) (mCons (mOp ixD (mVar 3) (mOp addD (mOp mulX (mC (.int 4)) (mVar 6)) (mVar 7))) mNil)))) mNil))) (mNext))) (l.map D.int) [some (.scr ns), some (.d (.lst (cs.map D.str))), some (.d (.int c)), some (.d (.tup (zs.map D.int))), some (.d (.lst (hs.map hpD))), some (.d (.lst [])), x, y, none, none, none, none, none, none, none, none] = some (.nx, [some (.scr ns), some (.d (.lst (cs.map D.str))), some (.d (.int c)), some (.d (.tup (zs.map D.int))), some (.d (.lst (hs'.map hpD))), some (.d (.lst [])), x', y', none, none, none, none, none, none, none, none]) := by
 induction l with
 | nil => intro hs x y _ _ h1; exact ⟨hs, x, y, by simp, h1, rfl⟩
 | cons n l ih =>
   intro hs x y hn hl ho2
   rw [List.length_cons] at hl
   have hn0 := hn n (by simp)
   obtain ⟨hs1, x1, k1, k2, k3⟩ := hoop_in ns cs c zs n h4 ho hz hn0.1 hn0.2 (ups 0 cs.length) hs y (fun j hj => by have := ups_mem hj; omega) (by rw [ups_len]; omega) ho2
   rw [ups_len] at k1
   obtain ⟨hs', x', y', g1, g2, g3⟩ := ih hs1 (some (.d (.int n))) x1 (fun i hi => hn i (by simp [hi])) (by omega) k2
   refine ⟨hs', x', y', by rw [List.length_cons]; omega, g2, ?_⟩
   rw [<- g3]
   have st : mFor (mRng1 (mCons (mCB lenD (mCons (mVar 1) mNil)) mNil)) (mgName 7) (mIfS (mB (mOp gtD (mOp modD (mOp divD (mVar 2) (mOp addD (mOp addD (mC (.int 7)) (mOp mulX (mC (.int 3)) (mVar 6))) (mOp mulX (mC (.int 11)) (mVar 7)))) (mC (.int 4))) (mC (.int 0)))) (mDrop (mAppend mdwbook 4 (mCons (mTup mdwbook (mCons (mOp ixD (mVar 1) (mVar 6)) (mCons (mOp ixD (mVar 1) (mVar 7)) (mCons (mOp ixD (mVar 3) (mOp addD (mOp mulX (mC (.int 4)) (mVar 6)) (mVar 7))) mNil)))) mNil))) (mNext)) [some (.scr ns), some (.d (.lst (cs.map D.str))), some (.d (.int c)), some (.d (.tup (zs.map D.int))), some (.d (.lst (hs.map hpD))), some (.d (.lst [])), some (.d (.int n)), y, none, none, none, none, none, none, none, none] = some (.nx, [some (.scr ns), some (.d (.lst (cs.map D.str))), some (.d (.int c)), some (.d (.tup (zs.map D.int))), some (.d (.lst (hs1.map hpD))), some (.d (.lst [])), some (.d (.int n)), x1, none, none, none, none, none, none, none, none]) := by
     unfold mFor
     rw [rng_cs h4 (by simp only [look])]
     simp only [Option.bind_some]
     exact k3
   rw [List.map_cons]
   exact for_step rfl st
end Mir
namespace Mir
open PySem L2
theorem mB_eq {k : D -> D -> Option D} {f g : ME} {ρ : En} {d e : D} {b : Bool} (hf : f ρ = some (.val d, ρ)) (hg : g ρ = some (.val e, ρ)) (h : k d e = some (.bl b)) : mB (mOp k f g) ρ = some (b, ρ) := by
 simp only [mB, mOp, hf, hg, Option.bind_some, res, h, asB]
theorem cut2 (a b c : D) : slD (.tup [a, b, c]) none (some 2) = some (.tup [a, b]) := rfl
theorem add22 (a b c d : D) : addD (.tup [a, b]) (.tup [c, d]) = some (.tup [a, b, c, d]) := if_pos (e := none) (show 1 + 1 + 2 <= sizeLine by decide)
theorem add41 (a b c d e : D) : addD (.tup [a, b, c, d]) (.tup [e]) = some (.tup [a, b, c, d, e]) := if_pos (e := none) (show 3 + 1 + 1 <= sizeLine by decide)
theorem hp3 (a b : Str) (u : Int) : hpD (a, b, u) = .tup [.str a, .str b, .int u] := rfl
theorem flt_loop (md : List Md) (hm : mode md 0 = .pl) (a b c d : Str) (u v : Int) (l : List Row) : ∀ (acc : List Row) (x : Option S), (∀ r ∈ l, r.1.length = 4) -> acc.length + l.length <= 100 -> ∃ x' : Option S,
   (lpM (mgName 0) (mB (mOp (eqD 4 false) (mSl (mVar 0) moNo (moPart (mC (.int 4)))) (mOp addD (mSl (mVar 1) moNo (moPart (mC (.int 2)))) (mSl (mVar 2) moNo (moPart (mC (.int 2))))))) (mEmit md (mVar 0))) (l.map My.rowD) [x, some (.d (hpD (a, b, u))), some (.d (hpD (c, d, v)))] (acc.map My.rowD) = some ([x', some (.d (hpD (a, b, u))), some (.d (hpD (c, d, v)))], (acc ++ l.filter fun r => decide (r.1 = [a, b, c, d])).map My.rowD) := by
 induction l with
 | nil => intro acc x _ _; exact ⟨x, by simp [lpM]⟩
 | cons r l ih =>
   intro acc x h hl
   rw [List.length_cons] at hl
   obtain ⟨a', b', c', d', e1⟩ := four (h r (by simp))
   obtain ⟨r1, z⟩ := r
   dsimp only at e1
   subst e1
   by_cases hk : [a', b', c', d'] = [a, b, c, d]
   · obtain ⟨x', e⟩ := ih (acc ++ [([a', b', c', d'], z)]) (some (.d (My.rowD ([a', b', c', d'], z)))) (fun r hr => h r (by simp [hr])) (by simp; omega)
     refine ⟨x', ?_⟩
     have ef : (([a', b', c', d'], z) :: l).filter (fun r => decide (r.1 = [a, b, c, d])) = ([a', b', c', d'], z) :: l.filter (fun r => decide (r.1 = [a, b, c, d])) := List.filter_cons_of_pos (by simpa using hk)
     rw [ef, show acc ++ ([a', b', c', d'], z) :: l.filter (fun r => decide (r.1 = [a, b, c, d])) = acc ++ [([a', b', c', d'], z)] ++ l.filter (fun r => decide (r.1 = [a, b, c, d])) by simp, <- e]
     have small : (acc.map My.rowD).length < sizeLine := by rw [List.length_map]; exact small1000 (by omega)
     simp only [List.map_cons, lpM, mgName, List.set_cons_zero, Option.bind_some, mB, mOp, mSl, mVar, look, moNo, moPart, mC, res, unD, asI, row5, hp3, cut4, cut2, add22, eq4, hk, decide_true, asB, if_true, mEmit, sto, hm, small, List.map_append, List.map_nil]
   · obtain ⟨x', e⟩ := ih acc (some (.d (My.rowD ([a', b', c', d'], z)))) (fun r hr => h r (by simp [hr])) (by omega)
     refine ⟨x', ?_⟩
     have ef : (([a', b', c', d'], z) :: l).filter (fun r => decide (r.1 = [a, b, c, d])) = l.filter (fun r => decide (r.1 = [a, b, c, d])) := List.filter_cons_of_neg (by simpa using hk)
     rw [ef, <- e]
     simp only [List.map_cons, lpM, mgName, List.set_cons_zero, Option.bind_some, mB, mOp, mSl, mVar, look, moNo, moPart, mC, res, unD, asI, row5, hp3, cut4, cut2, add22, eq4, hk, decide_false, asB, Bool.false_eq_true, if_false]
theorem depth_row (r : Row) : D.depth (My.rowD r) <= 1 := by
 unfold My.rowD
 rw [D.depth]
 have : ∀ l : List Str, D.depthL (l.map D.str ++ [.int r.2]) = 0 := by
   intro l
   induction l with
   | nil => rfl
   | cons a l ih => rw [List.map_cons, List.cons_append, D.depthL, ih]; rfl
 rw [this]; exact Nat.le_refl _
theorem depth_hp (h : Hp3) : D.depth (hpD h) <= 1 := by unfold hpD; simp [D.depth, D.depthL]
theorem eq_nilG {α : Type} {f : α -> D} (hf : ∀ a, D.depth (f a) <= 1) (neg : Bool) (l : List α) : Mir.eqD 4 neg (.lst (l.map f)) (.lst []) = some (.bl (if neg then !l.isEmpty else l.isEmpty)) := by
 have hd : D.depth (.lst (l.map f)) <= 4 := by
   rw [D.depth]
   have := My.depthL_le (f := f) (n := 1) hf l
   omega
 unfold Mir.eqD
 rw [if_pos hd]
 cases l with
 | nil => rfl
 | cons p r => simp [D.eq, D.eqL]
theorem hp_at {hs : List Hp3} {r : Int} (r0 : 0 <= r) (r1 : r < hs.length) (ho : ∀ h ∈ hs, One h.1 /\ One h.2.1) : ∃ a b u, One a /\ One b /\ atI (hs.map hpD) r = some (hpD (a, b, u)) := by
 obtain ⟨⟨a, b, u⟩, ea, hg⟩ := atI_ex (l := hs) r0 r1
 have := ho _ (atI_mem ea)
 refine ⟨a, b, u, this.1, this.2, ?_⟩
 have w : atI (hs.map hpD) ((r.toNat : Nat) : Int) = some (hpD (a, b, u)) := atI_nat (by rw [List.getElem?_map, hg]; rfl)
 rwa [Int.toNat_of_nonneg r0] at w
structure Ne (nst : List Row) : Prop where
 n4 : ∀ r ∈ nst, r.1.length = 4
 one : ∀ r ∈ nst, ∀ c ∈ r.1, One c
 nd : (nst.map (·.1)).Nodup
theorem ne_add {nst : List Row} (h : Ne nst) {a b c d : Str} {z : Int} (ha : One a) (hb : One b) (hc : One c) (hd : One d) (he : (nst.filter fun r => decide (r.1 = [a, b, c, d])) = []) : Ne (nst ++ [([a, b, c, d], z)]) := by
 refine ⟨fun r hr => ?_, fun r hr => ?_, ?_⟩
 · rcases List.mem_append.mp hr with hr | hr
   · exact h.n4 r hr
   · have : r = ([a, b, c, d], z) := by simpa using hr
     rw [this]; rfl
 · rcases List.mem_append.mp hr with hr | hr
   · exact h.one r hr
   · have : r = ([a, b, c, d], z) := by simpa using hr
     rw [this]
     intro x hx
     simp only [List.mem_cons, List.not_mem_nil, or_false] at hx
     rcases hx with rfl | rfl | rfl | rfl <;> assumption
 · rw [List.map_append, List.nodup_append]
   refine ⟨h.nd, by simp, ?_⟩
   intro x hx y hy
   have hy' : y = [a, b, c, d] := by simpa using hy
   obtain ⟨r, hr, rfl⟩ := List.mem_map.mp hx
   intro e
   have hf := List.filter_eq_nil_iff.mp he r hr
   exact hf (by simpa using e.trans hy')
theorem nests_loop (ns : List Int) (cs : List Str) (c : Int) (zs : List Int) (hs : List Hp3) (ps : List Int) (x6 : Option S) (ho : ∀ h ∈ hs, One h.1 /\ One h.2.1) (hp : ps.length = 6) (l : List Int) : ∀ (nst : List Row) (x7 x9 x10 : Option S), (∀ n ∈ l, 0 <= n /\ n < 6 /\ 1 <= hs.length) -> nst.length + l.length <= 50 -> Ne nst ->
   ∃ (nst' : List Row) (x7' x9' x10' : Option S), nst'.length <= nst.length + l.length /\ Ne nst' /\
   forM (mgName 7) (mSeq (mAsg mdwbook (mOp ixD (mVar 4) (mOp modD (mOp divD (mVar 2) (mOp addD (mC (.int 1)) (mOp mulX (mC (.int 5)) (mVar 7)))) (mCB lenD (mCons (mVar 4) mNil)))) (mgName 9)) (mSeq (mAsg mdwbook (mOp ixD (mVar 4) (mOp modD (mOp divD (mVar 2) (mOp addD (mC (.int 3)) (mOp mulX (mC (.int 7)) (mVar 7)))) (mCB lenD (mCons (mVar 4) mNil)))) (mgName 10)) (mIfS (mB (mOp (eqD 4 false) (mComp 1 [9, 10] [] (mSeqV 5) (lpM (mgName 0) (mB (mOp (eqD 4 false) (mSl (mVar 0) moNo (moPart (mC (.int 4)))) (mOp addD (mSl (mVar 1) moNo (moPart (mC (.int 2)))) (mSl (mVar 2) moNo (moPart (mC (.int 2))))))) (mEmit (mdIn mdwbook 1 [9, 10] []) (mVar 0)))) (mLst mdwbook mNil))) (mDrop (mAppend mdwbook 5 (mCons (mOp addD (mOp addD (mSl (mVar 9) moNo (moPart (mC (.int 2)))) (mSl (mVar 10) moNo (moPart (mC (.int 2))))) (mTup mdwbook (mCons (mOp ixD (mVar 8) (mVar 7)) mNil))) mNil))) (mNext)))) (l.map D.int) [some (.scr ns), some (.d (.lst (cs.map D.str))), some (.d (.int c)), some (.d (.tup (zs.map D.int))), some (.d (.lst (hs.map hpD))), some (.d (.lst (nst.map My.rowD))), x6, x7, some (.d (.tup (ps.map D.int))), x9, x10, none, none, none, none, none] = some (.nx, [some (.scr ns), some (.d (.lst (cs.map D.str))), some (.d (.int c)), some (.d (.tup (zs.map D.int))), some (.d (.lst (hs.map hpD))), some (.d (.lst (nst'.map My.rowD))), x6, x7', some (.d (.tup (ps.map D.int))), x9', x10', none, none, none, none, none]) := by
 induction l with
 | nil => intro nst x7 x9 x10 _ _ h; exact ⟨nst, x7, x9, x10, by simp, h, rfl⟩
 | cons n l ih =>
   intro nst x7 x9 x10 hn hl hN
   rw [List.length_cons] at hl
   have hn0 := hn n (by simp)
   have m1 : CMul 5 n := mulB (by decide) (by decide)
   have m2 : CMul 7 n := mulB (by decide) (by decide)
   have d1 : CDivB (1 + 5 * n) := divB (by omega) (by omega)
   have d2 : CDivB (3 + 7 * n) := divB (by omega) (by omega)
   obtain ⟨m, hm⟩ : ∃ m : Int, m = (hs.length : Int) := ⟨_, rfl⟩
   have el : (((hs.map hpD).length : Nat) : Int) = m := by rw [List.length_map, hm]
   have pm : 0 < m := by omega
   have r0 := Int.emod_nonneg (c / (1 + 5 * n)) (show m ≠ 0 by omega)
   have r1 := Int.emod_lt_of_pos (c / (1 + 5 * n)) pm
   have t0 := Int.emod_nonneg (c / (3 + 7 * n)) (show m ≠ 0 by omega)
   have t1 := Int.emod_lt_of_pos (c / (3 + 7 * n)) pm
   generalize hr : c / (1 + 5 * n) % m = r at r0 r1
   generalize ht : c / (3 + 7 * n) % m = t at t0 t1
   obtain ⟨a, b, u, oa, ob, eab⟩ := hp_at r0 (by omega) ho
   obtain ⟨a2, b2, v, oa2, ob2, ecd⟩ := hp_at t0 (by omega) ho
   have s9 : (mAsg mdwbook (mOp ixD (mVar 4) (mOp modD (mOp divD (mVar 2) (mOp addD (mC (.int 1)) (mOp mulX (mC (.int 5)) (mVar 7)))) (mCB lenD (mCons (mVar 4) mNil)))) (mgName 9)) [some (.scr ns), some (.d (.lst (cs.map D.str))), some (.d (.int c)), some (.d (.tup (zs.map D.int))), some (.d (.lst (hs.map hpD))), some (.d (.lst (nst.map My.rowD))), x6, some (.d (.int n)), some (.d (.tup (ps.map D.int))), x9, x10, none, none, none, none, none] = some (.nx, [some (.scr ns), some (.d (.lst (cs.map D.str))), some (.d (.int c)), some (.d (.tup (zs.map D.int))), some (.d (.lst (hs.map hpD))), some (.d (.lst (nst.map My.rowD))), x6, some (.d (.int n)), some (.d (.tup (ps.map D.int))), some (.d (hpD (a, b, u))), x10, none, none, none, none, none]) := by
     simp only [mAsg, mOp, mVar, look, mC, Option.bind_some, res, unD, mul_int m1, add_int, div_int d1, mCB, mCons, mNil, ress, lenD, el, mod_int pm, hr, ixD, eab, sto, mgName, List.set_cons_zero, List.set_cons_succ]
   have s10 : (mAsg mdwbook (mOp ixD (mVar 4) (mOp modD (mOp divD (mVar 2) (mOp addD (mC (.int 3)) (mOp mulX (mC (.int 7)) (mVar 7)))) (mCB lenD (mCons (mVar 4) mNil)))) (mgName 10)) [some (.scr ns), some (.d (.lst (cs.map D.str))), some (.d (.int c)), some (.d (.tup (zs.map D.int))), some (.d (.lst (hs.map hpD))), some (.d (.lst (nst.map My.rowD))), x6, some (.d (.int n)), some (.d (.tup (ps.map D.int))), some (.d (hpD (a, b, u))), x10, none, none, none, none, none] = some (.nx, [some (.scr ns), some (.d (.lst (cs.map D.str))), some (.d (.int c)), some (.d (.tup (zs.map D.int))), some (.d (.lst (hs.map hpD))), some (.d (.lst (nst.map My.rowD))), x6, some (.d (.int n)), some (.d (.tup (ps.map D.int))), some (.d (hpD (a, b, u))), some (.d (hpD (a2, b2, v))), none, none, none, none, none]) := by
     simp only [mAsg, mOp, mVar, look, mC, Option.bind_some, res, unD, mul_int m2, add_int, div_int d2, mCB, mCons, mNil, ress, lenD, el, mod_int pm, ht, ixD, ecd, sto, mgName, List.set_cons_zero, List.set_cons_succ]
   obtain ⟨x', ef⟩ := flt_loop (mdIn mdwbook 1 [9, 10] []) rfl a b a2 b2 u v nst [] none hN.n4 (by simp; omega)
   rw [List.nil_append] at ef
   generalize hF : (nst.filter fun r => decide (r.1 = [a, b, a2, b2])) = F at ef
   have sc : (mComp 1 [9, 10] [] (mSeqV 5) (lpM (mgName 0) (mB (mOp (eqD 4 false) (mSl (mVar 0) moNo (moPart (mC (.int 4)))) (mOp addD (mSl (mVar 1) moNo (moPart (mC (.int 2)))) (mSl (mVar 2) moNo (moPart (mC (.int 2))))))) (mEmit (mdIn mdwbook 1 [9, 10] []) (mVar 0)))) [some (.scr ns), some (.d (.lst (cs.map D.str))), some (.d (.int c)), some (.d (.tup (zs.map D.int))), some (.d (.lst (hs.map hpD))), some (.d (.lst (nst.map My.rowD))), x6, some (.d (.int n)), some (.d (.tup (ps.map D.int))), some (.d (hpD (a, b, u))), some (.d (hpD (a2, b2, v))), none, none, none, none, none] = some (.val (.lst (F.map My.rowD)), [some (.scr ns), some (.d (.lst (cs.map D.str))), some (.d (.int c)), some (.d (.tup (zs.map D.int))), some (.d (.lst (hs.map hpD))), some (.d (.lst (nst.map My.rowD))), x6, some (.d (.int n)), some (.d (.tup (ps.map D.int))), some (.d (hpD (a, b, u))), some (.d (hpD (a2, b2, v))), none, none, none, none, none]) := by
     have ef' : (lpM (mgName 0) (mB (mOp (eqD 4 false) (mSl (mVar 0) moNo (moPart (mC (.int 4)))) (mOp addD (mSl (mVar 1) moNo (moPart (mC (.int 2)))) (mSl (mVar 2) moNo (moPart (mC (.int 2))))))) (mEmit (mdIn mdwbook 1 [9, 10] []) (mVar 0))) (nst.map My.rowD) (inEn 1 [9, 10] [some (.scr ns), some (.d (.lst (cs.map D.str))), some (.d (.int c)), some (.d (.tup (zs.map D.int))), some (.d (.lst (hs.map hpD))), some (.d (.lst (nst.map My.rowD))), x6, some (.d (.int n)), some (.d (.tup (ps.map D.int))), some (.d (hpD (a, b, u))), some (.d (hpD (a2, b2, v))), none, none, none, none, none]) [] = some ([x', some (.d (hpD (a, b, u))), some (.d (hpD (a2, b2, v)))], F.map My.rowD) := ef
     simp only [mComp, mSeqV, look, lstS, Option.bind_some, ef', wb, List.isEmpty_nil, if_true]
   have z0 : ([] : List D).length <= sizeLine := Nat.zero_le _
   have stt : (mB (mOp (eqD 4 false) (mComp 1 [9, 10] [] (mSeqV 5) (lpM (mgName 0) (mB (mOp (eqD 4 false) (mSl (mVar 0) moNo (moPart (mC (.int 4)))) (mOp addD (mSl (mVar 1) moNo (moPart (mC (.int 2)))) (mSl (mVar 2) moNo (moPart (mC (.int 2))))))) (mEmit (mdIn mdwbook 1 [9, 10] []) (mVar 0)))) (mLst mdwbook mNil))) [some (.scr ns), some (.d (.lst (cs.map D.str))), some (.d (.int c)), some (.d (.tup (zs.map D.int))), some (.d (.lst (hs.map hpD))), some (.d (.lst (nst.map My.rowD))), x6, some (.d (.int n)), some (.d (.tup (ps.map D.int))), some (.d (hpD (a, b, u))), some (.d (hpD (a2, b2, v))), none, none, none, none, none] = some (F.isEmpty, [some (.scr ns), some (.d (.lst (cs.map D.str))), some (.d (.int c)), some (.d (.tup (zs.map D.int))), some (.d (.lst (hs.map hpD))), some (.d (.lst (nst.map My.rowD))), x6, some (.d (.int n)), some (.d (.tup (ps.map D.int))), some (.d (hpD (a, b, u))), some (.d (hpD (a2, b2, v))), none, none, none, none, none]) := by
     refine mB_eq sc ?_ (eq_nilG depth_row false F)
     simp only [mLst, mNil, Option.bind_some, stos, z0, if_true]
   cases F with
   | nil =>
     obtain ⟨nst', y7, y9, y10, g1, g2, g3⟩ := ih (nst ++ [([a, b, a2, b2], ps.getD n.toNat 0)]) (some (.d (.int n))) (some (.d (hpD (a, b, u)))) (some (.d (hpD (a2, b2, v)))) (fun i hi => hn i (by simp [hi])) (by simp; omega) (ne_add hN oa ob oa2 ob2 hF)
     refine ⟨nst', y7, y9, y10, by rw [List.length_append] at g1; simp at g1 ⊢; omega, g2, ?_⟩
     rw [<- g3, List.map_cons]
     refine for_step rfl ((seq_nx s9).trans ((seq_nx s10).trans ((ifs_t stt).trans ?_)))
     have ap : atI (ps.map D.int) n = some (.int (ps.getD n.toNat 0)) := atI_int (by omega) (by omega)
     have l1 : ([D.int (ps.getD n.toNat 0)] : List D).length <= sizeLine := by show 1 <= sizeLine; decide
     have lz : (nst.map My.rowD).length < sizeLine := by rw [List.length_map]; exact small1000 (by omega)
     simp only [mDrop, mAppend, look, lstS, Option.bind_some, mCons, mNil, mOp, mSl, mVar, moNo, moPart, mC, res, unD, asI, hp3, cut2, add22, mTup, ixD, ap, stos, sto, l1, if_true, add41, lz, List.set_cons_zero, List.set_cons_succ, List.map_append, List.map_cons, List.map_nil, row5]
   | cons f F =>
     obtain ⟨nst', y7, y9, y10, g1, g2, g3⟩ := ih nst (some (.d (.int n))) (some (.d (hpD (a, b, u)))) (some (.d (hpD (a2, b2, v)))) (fun i hi => hn i (by simp [hi])) (by omega) hN
     refine ⟨nst', y7, y9, y10, by rw [List.length_cons]; omega, g2, ?_⟩
     rw [<- g3, List.map_cons]
     exact for_step rfl ((seq_nx s9).trans ((seq_nx s10).trans ((ifs_f stt).trans rfl)))
end Mir
namespace Mir
open PySem L2
theorem six_some (n d : Nat) {v : Int} (h0 : 0 <= v) : HT.sIx n d (some v) = min v.toNat n := by
 show (if v < 0 then (v + (n : Int)).toNat else min v.toNat n) = _
 rw [if_neg (by omega)]
theorem cut_lo {ms : List Int} {n : Int} (hm : ms.length = 19) (h1 : 1 <= n) (h8 : n <= 8) : slD (.tup (ms.map D.int)) none (some n) = some (.tup ((ms.take n.toNat).map D.int)) := by
 have e : HT.sIx (ms.map D.int).length (ms.map D.int).length (some n) = n.toNat := by
   rw [six_some _ _ (by omega), List.length_map, hm]; omega
 have e0 : HT.sIx (ms.map D.int).length 0 none = 0 := rfl
 unfold slD
 simp only
 rw [if_neg (by rw [e, List.length_map, hm]; omega)]
 unfold cutD
 rw [e, e0, List.drop_zero, Nat.sub_zero, List.map_take]
theorem cut_hi {ms : List Int} {n : Int} (hm : ms.length = 19) (h1 : 9 <= n) (h8 : n <= 16) : slD (.tup (ms.map D.int)) (some 8) (some n) = some (.tup (((ms.drop 8).take (n.toNat - 8)).map D.int)) := by
 have e : HT.sIx (ms.map D.int).length (ms.map D.int).length (some n) = n.toNat := by
   rw [six_some _ _ (by omega), List.length_map, hm]; omega
 have e0 : HT.sIx (ms.map D.int).length 0 (some 8) = 8 := by
   rw [six_some _ _ (by decide), List.length_map, hm]; rfl
 unfold slD
 simp only
 rw [if_neg (by rw [e, List.length_map, hm]; omega)]
 unfold cutD
 rw [e, e0, List.map_take, List.map_drop]
theorem mem_getD {l : List Int} {n : Nat} (h : n < l.length) (P : Int -> Prop) (hp : ∀ z ∈ l, P z) : P (l.getD n 0) := by
 rw [List.getD_eq_getElem?_getD, List.getElem?_eq_getElem h]
 exact hp _ (List.getElem_mem h)
theorem imm_hp (h : Hp3) : D.imm (hpD h) = true := rfl
theorem book_ok (ns : List Int) : ∃ (B : Bo) (w h e d f : D), B.b = [w, h, .tup (B.nests.map My.rowD), e, d, f] /\ B.nests.length <= 50 /\ mlwbook [.scr ns] = some (.d (.tup B.b)) := by
 obtain ⟨cs, h1, h4, ho, ecs⟩ := letters_ok ns
 obtain ⟨c, c0, c1, ec⟩ := cell_ok ns 1 (by decide) (by decide)
 obtain ⟨k4, _, _, ek4⟩ := cell_ok ns 4 (by decide) (by decide)
 obtain ⟨k5, _, _, ek5⟩ := cell_ok ns 5 (by decide) (by decide)
 obtain ⟨zs, hz, _, ezs⟩ := prices_ok ns 2 16 (by decide) (by decide) (by decide) (by decide)
 obtain ⟨ps, hps, _, eps⟩ := prices_ok ns 3 6 (by decide) (by decide) (by decide) (by decide)
 obtain ⟨ms, hms, hmb, ems⟩ := prices_ok ns 4 19 (by decide) (by decide) (by decide) (by decide)
 replace hz : zs.length = 16 := hz
 replace hps : ps.length = 6 := hps
 replace hms : ms.length = 19 := hms
 obtain ⟨hs, x6, x7, a1, a2, a3⟩ := hoop_out ns cs c zs h4 ho hz (ups 0 cs.length) [] none none (fun j hj => by have := ups_mem hj; omega) (by rw [ups_len]; simp; omega) (by simp)
 have d512 : CDivB 512 := divB (by decide) (by decide)
 have d11 : CDivB 11 := divB (by decide) (by decide)
 have d8 : CDivB 8 := divB (by decide) (by decide)
 have d64 : CDivB 64 := divB (by decide) (by decide)
 have d4096 : CDivB 4096 := divB (by decide) (by decide)
 have p5 : (0 : Int) < 5 := by decide
 have p7 : (0 : Int) < 7 := by decide
 have p8 : (0 : Int) < 8 := by decide
 have p10 : (0 : Int) < 10 := by decide
 have q0 := Int.emod_nonneg (k5 / 512) (show (7 : Int) ≠ 0 by decide)
 have q1 := Int.emod_lt_of_pos (k5 / 512) p7
 generalize hq : k5 / 512 % 7 = q at q0 q1
 generalize hb : (if (!hs.isEmpty) = true then (1 : Int) else 0) = b
 have hb' : (b = 0 ∨ b = 1) /\ (b = 1 -> 1 <= hs.length) := by
   rw [<- hb]
   cases hs with
   | nil => simp
   | cons h t => simp
 have mq : CMul q b := mulB (by omega) (by omega)
 have hqb : 0 <= q * b /\ q * b <= 6 /\ (1 <= q * b -> 1 <= hs.length) := by
   rcases hb'.1 with e | e
   · rw [e]; omega
   · have := hb'.2 e
     rw [e]; omega
 generalize hm : q * b = m at hqb
 obtain ⟨nst, y7, y9, y10, b1, b2, b3⟩ := nests_loop ns cs c zs hs ps x6 a2 hps (ups 0 m.toNat) [] x7 none none (fun j hj => by have := ups_mem hj; omega) (by rw [ups_len]; simp; omega) ⟨by simp, by simp, by simp⟩
 rw [ups_len] at b1
 generalize hfr : k4 / 11 % 5 - 2 = fr
 have r0 := Int.emod_nonneg (k5 / 4096) (show (10 : Int) ≠ 0 by decide)
 have r1 := Int.emod_lt_of_pos (k5 / 4096) p10
 generalize hr : k5 / 4096 % 10 = r at r0 r1
 obtain ⟨w, ew⟩ : ∃ w, atI [D.int 0, D.int 0, D.int 1, D.int 2, D.int 0, D.int 6, D.int 1, D.int 3, D.int 4, D.int 5] r = some (.int w) := ⟨_, atI_int (l := [0, 0, 1, 2, 0, 6, 1, 3, 4, 5]) r0 (by simpa using r1)⟩
 generalize hn8 : 1 + k5 / 8 % 8 = n8
 generalize hn9 : 9 + k5 / 64 % 8 = n9
 have l8 := cut_lo (n := n8) hms (by omega) (by omega)
 have l9 := cut_hi (n := n9) hms (by omega) (by omega)
 have e16 : atI (ms.map D.int) 16 = some (.int (ms.getD 16 0)) := atI_int (n := 16) (by decide) (by rw [hms]; decide)
 have e17 : atI (ms.map D.int) 17 = some (.int (ms.getD 17 0)) := atI_int (n := 17) (by decide) (by rw [hms]; decide)
 refine ⟨⟨[.int w, .tup (hs.map hpD), .tup (nst.map My.rowD), .tup ((ms.take n8.toNat).map D.int), .tup (((ms.drop 8).take (n9.toNat - 8)).map D.int), .tup [.int (ms.getD 16 0), .int (ms.getD 17 0), .int fr]], nst, ms.take n8.toNat, (ms.drop 8).take (n9.toNat - 8), ms.getD 16 0, ms.getD 17 0, fr, rfl, rfl, rfl, rfl, b2.n4, b2.one, b2.nd, by rw [List.length_take, hms]; omega, by rw [List.length_take, hms]; omega, by rw [List.length_take, List.length_drop, hms]; omega, by rw [List.length_take, List.length_drop, hms]; omega, mem_getD (by rw [hms]; decide) (fun z => -9 <= z /\ z <= 9) hmb, by omega⟩, _, _, _, _, _, rfl, by show nst.length <= 50; simp at b1; omega, ?_⟩
 have e0 : mlwbook [.scr ns] = retOf (mbwbook [some (.scr ns), none, none, none, none, none, none, none, none, none, none, none, none, none, none, none]) := rfl
 rw [e0]
 unfold mbwbook
 rw [seq_nx (ρ' := [some (.scr ns), some (.d (.lst (cs.map D.str))), none, none, none, none, none, none, none, none, none, none, none, none, none, none]) (by simp only [mAsg, mCallA, mCons, mVar, look, mC, mNil, Option.bind_some, resA, resS, argS, unD, sto, mgName, List.set_cons_zero, List.set_cons_succ, ecs])]
 rw [seq_nx (ρ' := [some (.scr ns), some (.d (.lst (cs.map D.str))), some (.d (.int c)), none, none, none, none, none, none, none, none, none, none, none, none, none]) (by simp only [mAsg, mCallA, mCons, mVar, look, mC, mNil, Option.bind_some, resA, resS, argS, unD, sto, mgName, List.set_cons_zero, List.set_cons_succ, ec])]
 rw [seq_nx (ρ' := [some (.scr ns), some (.d (.lst (cs.map D.str))), some (.d (.int c)), some (.d (.tup (zs.map D.int))), none, none, none, none, none, none, none, none, none, none, none, none]) (by simp only [mAsg, mCallA, mCons, mVar, look, mC, mNil, Option.bind_some, resA, resS, argS, unD, sto, mgName, List.set_cons_zero, List.set_cons_succ, ezs])]
 rw [seq_nx (ρ' := [some (.scr ns), some (.d (.lst (cs.map D.str))), some (.d (.int c)), some (.d (.tup (zs.map D.int))), some (.d (.lst [])), none, none, none, none, none, none, none, none, none, none, none]) (by simp only [mAsgN, mnLst, mNil, Option.bind_some, stos, List.length_nil, Nat.zero_le, if_true, List.set_cons_zero, List.set_cons_succ])]
 rw [seq_nx (ρ' := [some (.scr ns), some (.d (.lst (cs.map D.str))), some (.d (.int c)), some (.d (.tup (zs.map D.int))), some (.d (.lst [])), some (.d (.lst [])), none, none, none, none, none, none, none, none, none, none]) (by simp only [mAsgN, mnLst, mNil, Option.bind_some, stos, List.length_nil, Nat.zero_le, if_true, List.set_cons_zero, List.set_cons_succ])]
 rw [seq_nx (ρ' := [some (.scr ns), some (.d (.lst (cs.map D.str))), some (.d (.int c)), some (.d (.tup (zs.map D.int))), some (.d (.lst (hs.map hpD))), some (.d (.lst [])), x6, x7, none, none, none, none, none, none, none, none]) (by
   unfold mFor
   rw [rng_cs h4 (by simp only [look])]
   simp only [Option.bind_some]
   exact a3)]
 rw [seq_nx (ρ' := [some (.scr ns), some (.d (.lst (cs.map D.str))), some (.d (.int c)), some (.d (.tup (zs.map D.int))), some (.d (.lst (hs.map hpD))), some (.d (.lst [])), x6, x7, some (.d (.tup (ps.map D.int))), none, none, none, none, none, none, none]) (by simp only [mAsg, mCallA, mCons, mVar, look, mC, mNil, Option.bind_some, resA, resS, argS, unD, sto, mgName, List.set_cons_zero, List.set_cons_succ, eps])]
 have hr2 : -(2 ^ 62) <= m /\ m < 2 ^ 62 := ⟨by omega, by omega⟩
 have z0 : ([] : List D).length <= sizeLine := Nat.zero_le _
 have er : (mRng1 (mCons (mOp mulX (mOp modD (mOp divD (mCallA mlwcell (mCons (mVar 0) (mCons (mC (.int 5)) mNil))) (mC (.int 512))) (mC (.int 7))) (mCB intD (mCons (mOp (eqD 4 true) (mVar 4) (mLst mdwbook mNil)) mNil))) mNil)) [some (.scr ns), some (.d (.lst (cs.map D.str))), some (.d (.int c)), some (.d (.tup (zs.map D.int))), some (.d (.lst (hs.map hpD))), some (.d (.lst [])), x6, x7, some (.d (.tup (ps.map D.int))), none, none, none, none, none, none, none] = some ((ups 0 m.toNat).map D.int, [some (.scr ns), some (.d (.lst (cs.map D.str))), some (.d (.int c)), some (.d (.tup (zs.map D.int))), some (.d (.lst (hs.map hpD))), some (.d (.lst [])), x6, x7, some (.d (.tup (ps.map D.int))), none, none, none, none, none, none, none]) := by
   rw [<- rng_ups]
   simp only [mRng1, mOp, mCallA, mCons, mVar, look, mC, mNil, Option.bind_some, resA, resS, argS, ek5, unD, res, div_int d512, mod_int p7, hq, mCB, mLst, stos, z0, if_true, eq_nilG depth_hp true hs, ress, intD, hb, mul_int mq, hm, hr2, and_self]
 rw [seq_nx (ρ' := [some (.scr ns), some (.d (.lst (cs.map D.str))), some (.d (.int c)), some (.d (.tup (zs.map D.int))), some (.d (.lst (hs.map hpD))), some (.d (.lst (nst.map My.rowD))), x6, y7, some (.d (.tup (ps.map D.int))), y9, y10, none, none, none, none, none]) (by
   unfold mFor
   rw [er]
   simp only [Option.bind_some]
   exact b3)]
 rw [seq_nx (ρ' := [some (.scr ns), some (.d (.lst (cs.map D.str))), some (.d (.int c)), some (.d (.tup (zs.map D.int))), some (.d (.lst (hs.map hpD))), some (.d (.lst (nst.map My.rowD))), x6, y7, some (.d (.tup (ps.map D.int))), y9, y10, some (.d (.tup (ms.map D.int))), none, none, none, none]) (by simp only [mAsg, mCallA, mCons, mVar, look, mC, mNil, Option.bind_some, resA, resS, argS, unD, sto, mgName, List.set_cons_zero, List.set_cons_succ, ems])]
 rw [seq_nx (ρ' := [some (.scr ns), some (.d (.lst (cs.map D.str))), some (.d (.int c)), some (.d (.tup (zs.map D.int))), some (.d (.lst (hs.map hpD))), some (.d (.lst (nst.map My.rowD))), x6, y7, some (.d (.tup (ps.map D.int))), y9, y10, some (.d (.tup (ms.map D.int))), some (.d (.int fr)), none, none, none]) (by simp only [mAsg, mCallA, mCons, mVar, look, mC, mNil, Option.bind_some, resA, resS, argS, unD, sto, mgName, List.set_cons_zero, List.set_cons_succ, ek4, mOp, res, div_int d11, mod_int p5, subD, hfr])]
 have l10 : ([D.int 0, D.int 0, D.int 1, D.int 2, D.int 0, D.int 6, D.int 1, D.int 3, D.int 4, D.int 5] : List D).length <= sizeLine := by show 10 <= sizeLine; decide
 rw [seq_nx (ρ' := [some (.scr ns), some (.d (.lst (cs.map D.str))), some (.d (.int c)), some (.d (.tup (zs.map D.int))), some (.d (.lst (hs.map hpD))), some (.d (.lst (nst.map My.rowD))), x6, y7, some (.d (.tup (ps.map D.int))), y9, y10, some (.d (.tup (ms.map D.int))), some (.d (.int fr)), some (.d (.int w)), none, none]) (by simp only [mAsg, mCallA, mCons, mVar, look, mC, mNil, Option.bind_some, resA, resS, argS, unD, sto, mgName, List.set_cons_zero, List.set_cons_succ, ek5, mOp, mLst, stos, l10, if_true, res, div_int d4096, mod_int p10, hr, ixD, ew])]
 rw [seq_nx (ρ' := [some (.scr ns), some (.d (.lst (cs.map D.str))), some (.d (.int c)), some (.d (.tup (zs.map D.int))), some (.d (.lst (hs.map hpD))), some (.d (.lst (nst.map My.rowD))), x6, y7, some (.d (.tup (ps.map D.int))), y9, y10, some (.d (.tup (ms.map D.int))), some (.d (.int fr)), some (.d (.int w)), some (.d (.tup ((ms.take n8.toNat).map D.int))), none]) (by simp only [mAsg, mCallA, mCons, mVar, look, mC, mNil, Option.bind_some, resA, resS, argS, unD, sto, mgName, List.set_cons_zero, List.set_cons_succ, ek5, mOp, mSl, moNo, moPart, res, div_int d8, mod_int p8, add_int, hn8, asI, l8])]
 rw [seq_nx (ρ' := [some (.scr ns), some (.d (.lst (cs.map D.str))), some (.d (.int c)), some (.d (.tup (zs.map D.int))), some (.d (.lst (hs.map hpD))), some (.d (.lst (nst.map My.rowD))), x6, y7, some (.d (.tup (ps.map D.int))), y9, y10, some (.d (.tup (ms.map D.int))), some (.d (.int fr)), some (.d (.int w)), some (.d (.tup ((ms.take n8.toNat).map D.int))), some (.d (.tup (((ms.drop 8).take (n9.toNat - 8)).map D.int)))]) (by simp only [mAsg, mCallA, mCons, mVar, look, mC, mNil, Option.bind_some, resA, resS, argS, unD, sto, mgName, List.set_cons_zero, List.set_cons_succ, ek5, mOp, mSl, moNo, moPart, res, div_int d64, mod_int p8, add_int, hn9, asI, l9])]
 have i1 : D.immL (hs.map hpD) = true := My.immL_map imm_hp hs
 have i2 : D.immL (nst.map My.rowD) = true := My.immL_map My.imm_rowD nst
 have i3 : D.immL ((ms.take n8.toNat).map D.int) = true := My.immL_map (f := D.int) (fun _ => rfl) _
 have i4 : D.immL (((ms.drop 8).take (n9.toNat - 8)).map D.int) = true := My.immL_map (f := D.int) (fun _ => rfl) _
 have l6 : ∀ {a b c d e f : D}, ([a, b, c, d, e, f] : List D).length <= sizeLine := by intros; show 6 <= sizeLine; decide
 have l3 : ∀ {a b c : D}, ([a, b, c] : List D).length <= sizeLine := by intros; show 3 <= sizeLine; decide
 simp only [mRet, mTup, mCons, mCB, mVar, mNil, Option.bind_some, ress, res, look, unD, tupX, mOp, mC, ixD, e16, e17, stos, sto, mode, mdwbook, l3, l6, if_true, immO, D.imm, D.immL, i1, i2, i3, i4, Bool.and_self, Bool.and_true, retOf]
end Mir
namespace Mir
open PySem L2 PyProof.Rows
theorem join_len (cs : List Str) (h : ∀ c ∈ cs, c.length = 1) : (Txt.join (Str.ofString "") cs).length = cs.length := by
 have e : (Str.ofString "") = Str.empty := by decide +kernel
 rw [e, <- len_list, join_codes]
 induction cs with
 | nil => rfl
 | cons c r ih =>
   rw [List.map_cons, List.flatten_cons, List.length_append, ih (fun x hx => h x (by simp [hx])), len_list, h c (by simp)]
   simp; omega
theorem rep5_len (z : Str) : (repS z 5).length <= 5 * z.length := by
 unfold repS
 rw [if_neg (by decide)]
 split
 · omega
 · show ((List.replicate (5 : Int).toNat z.cps).foldl (· ++ ·) #[]).size <= _
   rw [rep_size]
   show 0 + 5 * z.length <= 5 * z.length
   omega
theorem mul_str {z : Str} (h : z.length <= 1000) : mulX (.str z) (.int 5) = some (.str (repS z 5)) := if_pos ⟨by decide, by decide, h⟩
theorem eqL_pr (ps : List (Int × Int)) : D.eqL (ps.map pr) (ps.map pr) = true := by
 induction ps with
 | nil => rfl
 | cons p r ih => rw [List.map_cons, D.eqL, ih]; simp [pr, D.eq, D.eqL]
theorem ne_self (ps : List (Int × Int)) : Mir.eqD 4 true (.lst (ps.map pr)) (.lst (ps.map pr)) = some (.bl false) := by
 have hd : D.depth (.lst (ps.map pr)) <= 4 := by
   rw [D.depth]
   have := My.depthL_le (f := pr) (n := 1) depth_pr ps
   omega
 unfold Mir.eqD
 rw [if_pos hd, D.eq, eqL_pr]
 rfl
theorem eq_int (a : Int) : Mir.eqD 4 false (.int a) (.int a) = some (.bl true) := by
 simp only [Mir.eqD, D.depth, Nat.zero_le, if_true, D.eq, beq_self_eq_true, Bool.false_eq_true, if_false]
theorem tail_ok (B : Bo) (ns : List Int) (k g i j f : Int) (z : Str) (ps : List (Int × Int)) (x6 x11 x12 : Option S) (hz : z.length <= 20) (a0 : 0 <= i /\ i < z.length) (a1 : 0 <= j /\ j < z.length) (hp : ∀ p ∈ ps, (0 <= p.1 /\ p.1 < (z.length : Int)) /\ (0 <= p.2 /\ p.2 < (z.length : Int))) (f0 : 0 <= f) (f1 : f < 20) (hl : ps.length <= 20) :
   (mSeq (mAsg mdwright (mCallA m_ring_price (mCons (mVar 2) (mCons (mVar 3) (mCons (mTup mdwright (mCons (mVar 5) (mCons (mVar 7) mNil))) (mCons (mVar 8) (mCons (mVar 9) mNil)))))) (mgName 13)) (mSeq (mIfS (mOr (mNot (mTru (mIsi "int" (mVar 13)))) (mOr (mTru (mIsi "bool" (mVar 13))) (mB (mOp (eqD 4 true) (mVar 8) (mVar 10))))) (mRet (mC (.bl false))) (mNext)) (mRet (mOp (eqD 4 false) (mVar 13) (mCallA mlwdue (mCons (mVar 2) (mCons (mVar 3) (mCons (mTup mdwright (mCons (mVar 5) (mCons (mVar 7) mNil))) (mCons (mVar 10) (mCons (mVar 9) mNil)))))))))) [some (.scr ns), some (.d (.int k)), some (.d (.tup B.b)), some (.d (.str z)), some (.d (.int g)), some (.d (.int i)), x6, some (.d (.int j)), some (.d (.lst (ps.map pr))), some (.d (.int f)), some (.d (.lst (ps.map pr))), x11, x12, none] = some (.ret (.d (.bl true)), [some (.scr ns), some (.d (.int k)), some (.d (.tup B.b)), some (.d (.str z)), some (.d (.int g)), some (.d (.int i)), x6, some (.d (.int j)), some (.d (.lst (ps.map pr))), some (.d (.int f)), some (.d (.lst (ps.map pr))), x11, x12, some (.d (.int (addedP B z (i, j) ps f)))]) := by
 have er : m_ring_price [.d (.tup B.b), .d (.str z), .d (.tup [.int i, .int j]), .d (.lst (ps.map pr)), .d (.int f)] = some (.d (.int (addedP B z (i, j) ps f))) := ring_ok B (h := (i, j)) hz a0 a1 hp f0
 have ed : mlwdue [.d (.tup B.b), .d (.str z), .d (.tup [.int i, .int j]), .d (.lst (ps.map pr)), .d (.int f)] = some (.d (.int (addedP B z (i, j) ps f))) := due_ok B (h := (i, j)) hz a0 a1 hp f0 f1 (by omega)
 generalize addedP B z (i, j) ps f = r at er ed
 have l2 : ([D.int i, D.int j] : List D).length <= sizeLine := by show 2 <= sizeLine; decide
 rw [seq_nx (ρ' := [some (.scr ns), some (.d (.int k)), some (.d (.tup B.b)), some (.d (.str z)), some (.d (.int g)), some (.d (.int i)), x6, some (.d (.int j)), some (.d (.lst (ps.map pr))), some (.d (.int f)), some (.d (.lst (ps.map pr))), x11, x12, some (.d (.int (r)))]) (by simp only [mAsg, mCallA, mCons, mVar, look, mC, mNil, Option.bind_some, resA, resS, argS, unD, sto, mgName, List.set_cons_zero, List.set_cons_succ, mTup, stos, mode, mdwright, l2, if_true, res, er])]
 have k1 : isiT (kindD (.int r)) "int" = true := by simp only [kindD]; decide
 have k2 : isiT (kindD (.int r)) "bool" = false := by simp only [kindD]; decide
 rw [seq_nx (ρ' := [some (.scr ns), some (.d (.int k)), some (.d (.tup B.b)), some (.d (.str z)), some (.d (.int g)), some (.d (.int i)), x6, some (.d (.int j)), some (.d (.lst (ps.map pr))), some (.d (.int f)), some (.d (.lst (ps.map pr))), x11, x12, some (.d (.int (r)))]) (by simp only [mIfS, mOr, mNot, mTru, mIsi, mVar, look, Option.bind_some, res, unD, k1, k2, truD, Bool.not_true, Bool.false_eq_true, if_false, mB, mOp, ne_self, asB, mNext])]
 simp only [mRet, mOp, mAsg, mCallA, mCons, mVar, look, mC, mNil, Option.bind_some, resA, resS, argS, unD, sto, mgName, List.set_cons_zero, List.set_cons_succ, mTup, stos, mode, mdwright, l2, if_true, res, ed, eq_int, immO, D.imm]
theorem used_loop (md : List Md) (ps : List (Int × Int)) : ∀ (as : List Int) (x y : Option S), as.length + ps.length <= 100 -> ∃ x' y' : Option S,
   (lpM (mgTup 2 (mgCons (mgName 0) (mgCons (mgName 1) mgNil))) mYes (mEmit md (mOp addD (mOp subD (mVar 1) (mVar 0)) (mC (.int 1))))) (ps.map pr) [x, y] (as.map D.int) = some ([x', y'], (as ++ ps.map fun p : Int × Int => p.2 - p.1 + 1).map D.int) := by
 induction ps with
 | nil => intro as x y _; exact ⟨x, y, by simp [lpM]⟩
 | cons p r ih =>
   intro as x y h
   rw [List.length_cons] at h
   obtain ⟨x', y', e⟩ := ih (as ++ [p.2 - p.1 + 1]) (some (.d (.int p.1))) (some (.d (.int p.2))) (by simp; omega)
   refine ⟨x', y', ?_⟩
   rw [List.map_cons, List.map_cons, show as ++ (p.2 - p.1 + 1) :: r.map (fun p : Int × Int => p.2 - p.1 + 1) = as ++ [p.2 - p.1 + 1] ++ r.map (fun p : Int × Int => p.2 - p.1 + 1) by simp, <- e]
   have small : (as.map D.int).length < sizeLine := by rw [List.length_map]; exact small1000 (by omega)
   have l2 : ([D.int p.1, D.int p.2] : List D).length = 2 := rfl
   simp only [lpM, pr, mgTup, l2, if_true, mgCons, mgName, mgNil, List.set_cons_zero, List.set_cons_succ, Option.bind_some, mYes, mEmit, mOp, mVar, look, mC, res, unD, subD, add_int, sto, small, List.map_append, List.map_cons, List.map_nil]
theorem eq4t (a b c d x y u v : Str) : Mir.eqD 4 true (.tup [.str a, .str b, .str c, .str d]) (.tup [.str x, .str y, .str u, .str v]) = some (.bl (!decide ([a, b, c, d] = [x, y, u, v]))) := by
 have h := My.eq_nameD [a, b, c, d] [x, y, u, v]
 have hd := My.depth_nameD [a, b, c, d]
 unfold My.nameD at h hd
 simp only [List.map_cons, List.map_nil] at h hd
 unfold Mir.eqD
 rw [hd, h]
 rfl
theorem keep_loop (md : List Md) (hm : mode md 0 = .pl) (a b c d : Str) (l : List Row) : ∀ (acc : List Row) (x : Option S), (∀ r ∈ l, r.1.length = 4) -> acc.length + l.length <= 100 -> ∃ x' : Option S,
   (lpM (mgName 0) (mB (mOp (eqD 4 true) (mSl (mVar 0) moNo (moPart (mC (.int 4)))) (mVar 1))) (mEmit md (mVar 0))) (l.map My.rowD) [x, some (.d (.tup [.str a, .str b, .str c, .str d]))] (acc.map My.rowD) = some ([x', some (.d (.tup [.str a, .str b, .str c, .str d]))], (acc ++ l.filter fun r => !decide (r.1 = [a, b, c, d])).map My.rowD) := by
 induction l with
 | nil => intro acc x _ _; exact ⟨x, by simp [lpM]⟩
 | cons r l ih =>
   intro acc x h hl
   rw [List.length_cons] at hl
   obtain ⟨a', b', c', d', e1⟩ := four (h r (by simp))
   obtain ⟨r1, z⟩ := r
   dsimp only at e1
   subst e1
   by_cases hk : [a', b', c', d'] = [a, b, c, d]
   · obtain ⟨x', e⟩ := ih acc (some (.d (My.rowD ([a', b', c', d'], z)))) (fun r hr => h r (by simp [hr])) (by omega)
     refine ⟨x', ?_⟩
     have ef : (([a', b', c', d'], z) :: l).filter (fun r => !decide (r.1 = [a, b, c, d])) = l.filter (fun r => !decide (r.1 = [a, b, c, d])) := List.filter_cons_of_neg (by rw [decide_eq_true hk]; decide)
     rw [ef, <- e]
     simp only [List.map_cons, lpM, mgName, List.set_cons_zero, Option.bind_some, mB, mOp, mSl, mVar, look, moNo, moPart, mC, res, unD, asI, row5, cut4, eq4t, hk, decide_true, Bool.not_true, asB, Bool.false_eq_true, if_false]
   · obtain ⟨x', e⟩ := ih (acc ++ [([a', b', c', d'], z)]) (some (.d (My.rowD ([a', b', c', d'], z)))) (fun r hr => h r (by simp [hr])) (by simp; omega)
     refine ⟨x', ?_⟩
     have ef : (([a', b', c', d'], z) :: l).filter (fun r => !decide (r.1 = [a, b, c, d])) = ([a', b', c', d'], z) :: l.filter (fun r => !decide (r.1 = [a, b, c, d])) := List.filter_cons_of_pos (by rw [decide_eq_false hk]; decide)
     rw [ef, show acc ++ ([a', b', c', d'], z) :: l.filter (fun r => !decide (r.1 = [a, b, c, d])) = acc ++ [([a', b', c', d'], z)] ++ l.filter (fun r => !decide (r.1 = [a, b, c, d])) by simp, <- e]
     have small : (acc.map My.rowD).length < sizeLine := by rw [List.length_map]; exact small1000 (by omega)
     simp only [List.map_cons, lpM, mgName, List.set_cons_zero, Option.bind_some, mB, mOp, mSl, mVar, look, moNo, moPart, mC, res, unD, asI, row5, cut4, eq4t, hk, decide_false, Bool.not_false, asB, if_true, mEmit, sto, hm, small, List.map_append, List.map_nil]
end Mir
namespace Mir
open PySem L2 PyProof.Rows
theorem asg_op {md : List Md} {k : D -> D -> Option D} {f g : ME} {ρ : En} {d e u : D} {n : Nat} (hf : f ρ = some (.val d, ρ)) (hg : g ρ = some (.val e, ρ)) (h : k d e = some u) : mAsg md (mOp k f g) (mgName n) ρ = some (.nx, ρ.set n (some (.d u))) := by
 simp only [mAsg, mOp, hf, hg, Option.bind_some, res, h, sto, mgName]
theorem len_str {z : Str} (h : z.length <= 20) : lenD [.str z] = some (.int (z.length : Int)) := if_pos (Nat.le_of_lt (small1000 (by omega)))
theorem add13 (a b n e d f : D) : addD (.tup [a, b, n]) (.tup [e, d, f]) = some (.tup [a, b, n, e, d, f]) := if_pos (e := none) (show 2 + 1 + 3 <= sizeLine by decide)
theorem add21 (a b n : D) : addD (.tup [a, b]) (.tup [n]) = some (.tup [a, b, n]) := if_pos (e := none) (show 1 + 1 + 1 <= sizeLine by decide)
theorem swap_ok (B : Bo) (w h e d f5 : D) (hB : B.b = [w, h, .tup (B.nests.map My.rowD), e, d, f5]) (hl : B.nests.length <= 50) (ns : List Int) (k g i j f room : Int) (z : Str) (p : Int × Int) (hz : z.length <= 20) (a0 : 0 <= i /\ i < z.length) (a1 : 0 <= j /\ j < z.length) (hp : (0 <= p.1 /\ p.1 < (z.length : Int)) /\ (0 <= p.2 /\ p.2 < (z.length : Int))) :
   ∃ (B' : Bo) (x11 x12 : Option S), (mSeq (mAsg mdwright (mTup mdwright (mCons (mOp ixD (mVar 3) (mVar 5)) (mCons (mOp ixD (mVar 3) (mVar 7)) (mCons (mOp ixD (mVar 3) (mOp ixD (mOp ixD (mVar 8) (mC (.int 0))) (mC (.int 0)))) (mCons (mOp ixD (mVar 3) (mOp ixD (mOp ixD (mVar 8) (mC (.int 0))) (mC (.int 1)))) mNil))))) (mgName 11)) (mSeq (mAsg mdwright (mOp addD (mComp 1 [11] [] (mSeqI mdwright (mOp ixD (mVar 2) (mC (.int 2)))) (lpM (mgName 0) (mB (mOp (eqD 4 true) (mSl (mVar 0) moNo (moPart (mC (.int 4)))) (mVar 1))) (mEmit (mdIn mdwright 1 [11] []) (mVar 0)))) (mLst mdwright (mCons (mOp addD (mVar 11) (mTup mdwright (mCons (mOp subD (mOp modD (mOp divD (mVar 4) (mC (.int 11))) (mC (.int 19))) (mC (.int 9))) mNil))) mNil))) (mgName 12)) (mAsg mdwright (mOp addD (mOp addD (mSl (mVar 2) moNo (moPart (mC (.int 2)))) (mTup mdwright (mCons (mCB tupX (mCons (mVar 12) mNil)) mNil))) (mSl (mVar 2) (moPart (mC (.int 3))) moNo)) (mgName 2)))) [some (.scr ns), some (.d (.int k)), some (.d (.tup B.b)), some (.d (.str z)), some (.d (.int g)), some (.d (.int i)), some (.d (.int room)), some (.d (.int j)), some (.d (.lst ([p].map pr))), some (.d (.int f)), some (.d (.lst ([p].map pr))), none, none, none] = some (.nx, [some (.scr ns), some (.d (.int k)), some (.d (.tup B'.b)), some (.d (.str z)), some (.d (.int g)), some (.d (.int i)), some (.d (.int room)), some (.d (.int j)), some (.d (.lst ([p].map pr))), some (.d (.int f)), some (.d (.lst ([p].map pr))), x11, x12, none]) := by
 generalize hv : g / 11 % 19 - 9 = v
 obtain ⟨x', ek⟩ := keep_loop (mdIn mdwright 1 [11] []) rfl (cAt z i) (cAt z j) (cAt z p.1) (cAt z p.2) B.nests [] none B.n4 (by simp; omega)
 rw [List.nil_append] at ek
 have hF : Ne (B.nests.filter fun r => !decide (r.1 = [cAt z i, cAt z j, cAt z p.1, cAt z p.2])) := by
   refine ⟨fun r hr => B.n4 r (List.mem_filter.mp hr).1, fun r hr => B.one r (List.mem_filter.mp hr).1, ?_⟩
   exact B.nd.sublist (List.filter_sublist.map _)
 have hE : ((B.nests.filter fun r => !decide (r.1 = [cAt z i, cAt z j, cAt z p.1, cAt z p.2])).filter fun r => decide (r.1 = [cAt z i, cAt z j, cAt z p.1, cAt z p.2])) = [] := by
   rw [List.filter_eq_nil_iff]
   intro r hr
   have := (List.mem_filter.mp hr).2
   cases hd : decide (r.1 = [cAt z i, cAt z j, cAt z p.1, cAt z p.2]) with
   | false => decide
   | true => rw [hd] at this; exact absurd this (by decide)
 have hlF : (B.nests.filter fun r => !decide (r.1 = [cAt z i, cAt z j, cAt z p.1, cAt z p.2])).length <= 50 := Nat.le_trans (List.length_filter_le _ _) hl
 have hN := ne_add (z := v) hF (one_cAt z i) (one_cAt z j) (one_cAt z p.1) (one_cAt z p.2) hE
 generalize hFe : (B.nests.filter fun r => !decide (r.1 = [cAt z i, cAt z j, cAt z p.1, cAt z p.2])) = F at ek hN hlF
 generalize hne : F ++ [([cAt z i, cAt z j, cAt z p.1, cAt z p.2], v)] = nst at hN
 have b3 := B.he
 have b4 := B.hb
 have b5 := B.hf
 rw [hB] at b3 b4 b5
 refine ⟨{ B with b := [w, h, .tup (nst.map My.rowD), e, d, f5], nests := nst, hn := rfl, he := b3, hb := b4, hf := b5, n4 := hN.n4, one := hN.one, nd := hN.nd }, some (.d (.tup [.str (cAt z i), .str (cAt z j), .str (cAt z p.1), .str (cAt z p.2)])), some (.d (.lst (nst.map My.rowD))), ?_⟩
 show _ = some (Fl.nx, ([some (.scr ns), some (.d (.int k)), some (.d (.tup [w, h, .tup (nst.map My.rowD), e, d, f5])), some (.d (.str z)), some (.d (.int g)), some (.d (.int i)), some (.d (.int room)), some (.d (.int j)), some (.d (.lst ([p].map pr))), some (.d (.int f)), some (.d (.lst ([p].map pr))), some (.d (.tup [.str (cAt z i), .str (cAt z j), .str (cAt z p.1), .str (cAt z p.2)])), some (.d (.lst (nst.map My.rowD))), none] : En))
 have l4' : ∀ {a b c d : D}, ([a, b, c, d] : List D).length <= sizeLine := by intros; show 4 <= sizeLine; decide
 have l1' : ∀ {a : D}, ([a] : List D).length <= sizeLine := by intros; show 1 <= sizeLine; decide
 have ap : atI ([p].map pr) 0 = some (pr p) := rfl
 rw [hB]
 rw [seq_nx (ρ' := [some (.scr ns), some (.d (.int k)), some (.d (.tup [w, h, .tup (B.nests.map My.rowD), e, d, f5])), some (.d (.str z)), some (.d (.int g)), some (.d (.int i)), some (.d (.int room)), some (.d (.int j)), some (.d (.lst ([p].map pr))), some (.d (.int f)), some (.d (.lst ([p].map pr))), some (.d (.tup [.str (cAt z i), .str (cAt z j), .str (cAt z p.1), .str (cAt z p.2)])), none, none]) (by
   have ex0 : ixD (.lst ([p].map pr)) (.int 0) = some (pr p) := rfl
   simp only [mAsg, mTup, mCons, mNil, mOp, mVar, look, mC, Option.bind_some, res, unD, ex0, pr0, pr1, cord_at hz a0.1 a0.2, cord_at hz a1.1 a1.2, cord_at hz hp.1.1 hp.1.2, cord_at hz hp.2.1 hp.2.2, stos, sto, l4', if_true, mgName, List.set_cons_zero, List.set_cons_succ])]
 have d11 : CDivB 11 := divB (by decide) (by decide)
 have p19 : (0 : Int) < 19 := by decide
 rw [seq_nx (ρ' := [some (.scr ns), some (.d (.int k)), some (.d (.tup [w, h, .tup (B.nests.map My.rowD), e, d, f5])), some (.d (.str z)), some (.d (.int g)), some (.d (.int i)), some (.d (.int room)), some (.d (.int j)), some (.d (.lst ([p].map pr))), some (.d (.int f)), some (.d (.lst ([p].map pr))), some (.d (.tup [.str (cAt z i), .str (cAt z j), .str (cAt z p.1), .str (cAt z p.2)])), some (.d (.lst (nst.map My.rowD))), none]) (by
   have ec : (mComp 1 [11] [] (mSeqI mdwright (mOp ixD (mVar 2) (mC (.int 2)))) (lpM (mgName 0) (mB (mOp (eqD 4 true) (mSl (mVar 0) moNo (moPart (mC (.int 4)))) (mVar 1))) (mEmit (mdIn mdwright 1 [11] []) (mVar 0)))) [some (.scr ns), some (.d (.int k)), some (.d (.tup [w, h, .tup (B.nests.map My.rowD), e, d, f5])), some (.d (.str z)), some (.d (.int g)), some (.d (.int i)), some (.d (.int room)), some (.d (.int j)), some (.d (.lst ([p].map pr))), some (.d (.int f)), some (.d (.lst ([p].map pr))), some (.d (.tup [.str (cAt z i), .str (cAt z j), .str (cAt z p.1), .str (cAt z p.2)])), none, none] = some (.val (.lst (F.map My.rowD)), [some (.scr ns), some (.d (.int k)), some (.d (.tup [w, h, .tup (B.nests.map My.rowD), e, d, f5])), some (.d (.str z)), some (.d (.int g)), some (.d (.int i)), some (.d (.int room)), some (.d (.int j)), some (.d (.lst ([p].map pr))), some (.d (.int f)), some (.d (.lst ([p].map pr))), some (.d (.tup [.str (cAt z i), .str (cAt z j), .str (cAt z p.1), .str (cAt z p.2)])), none, none]) := by
     have ek' : (lpM (mgName 0) (mB (mOp (eqD 4 true) (mSl (mVar 0) moNo (moPart (mC (.int 4)))) (mVar 1))) (mEmit (mdIn mdwright 1 [11] []) (mVar 0))) (B.nests.map My.rowD) (inEn 1 [11] [some (.scr ns), some (.d (.int k)), some (.d (.tup [w, h, .tup (B.nests.map My.rowD), e, d, f5])), some (.d (.str z)), some (.d (.int g)), some (.d (.int i)), some (.d (.int room)), some (.d (.int j)), some (.d (.lst ([p].map pr))), some (.d (.int f)), some (.d (.lst ([p].map pr))), some (.d (.tup [.str (cAt z i), .str (cAt z j), .str (cAt z p.1), .str (cAt z p.2)])), none, none]) [] = some ([x', some (.d (.tup [.str (cAt z i), .str (cAt z j), .str (cAt z p.1), .str (cAt z p.2)]))], F.map My.rowD) := ek
     have e2 : atI [w, h, .tup (B.nests.map My.rowD), e, d, f5] 2 = some (.tup (B.nests.map My.rowD)) := rfl
     simp only [mComp, mSeqI, mOp, mVar, look, mC, res, unD, Option.bind_some, ixD, e2, sto, seqD, ek', wb, List.isEmpty_nil, if_true]
   have ad : addD (.lst (F.map My.rowD)) (.lst [.tup [.str (cAt z i), .str (cAt z j), .str (cAt z p.1), .str (cAt z p.2), .int v]]) = some (.lst (nst.map My.rowD)) := by
     rw [add_lst (by rw [List.length_map]; exact Nat.le_of_lt (small1000 (by show F.length + 1 <= 1000; omega))), <- hne, List.map_append]; rfl
   exact asg_op ec (by simp only [mOp, mLst, mCons, mNil, mTup, mVar, look, mC, Option.bind_some, res, unD, div_int d11, mod_int p19, subD, hv, stos, sto, mode, mdwright, l1', if_true, add41]) ad)]
 have c2 : slD (.tup [w, h, .tup (B.nests.map My.rowD), e, d, f5]) none (some 2) = some (.tup [w, h]) := rfl
 have c3 : slD (.tup [w, h, .tup (B.nests.map My.rowD), e, d, f5]) (some 3) none = some (.tup [e, d, f5]) := rfl
 simp only [mAsg, mOp, mSl, mVar, look, moNo, moPart, mC, Option.bind_some, res, unD, asI, c2, c3, mTup, mCons, mNil, mCB, ress, tupX, stos, sto, l1', if_true, add21, add13, mgName, List.set_cons_zero, List.set_cons_succ]
theorem right_ok (ns : List Int) (k : Int) (k0 : 0 <= k) (k6 : k < 6) : mlwright [.scr ns, .d (.int k)] = some (.d (.bl true)) := by
 obtain ⟨B, w, h, e, d, f5, hB, hBl, eb⟩ := book_ok ns
 obtain ⟨z0, hz0, ez⟩ := cord_ok ns
 obtain ⟨cs, h1, h4, ho, ecs⟩ := letters_ok ns
 obtain ⟨g, g0, g1, eg⟩ := cell_ok ns (20 + k) (by omega) (by omega)
 have hj := join_len cs fun c hc => one_len (ho c hc)
 have ejoin : joinD ("" : Str) [.lst (cs.map D.str)] = some (.str (Txt.join (Str.ofString "") cs)) := by
   have hsum : (cs.map (·.length)).sum = cs.length := by
     clear ecs h1 h4 hj
     induction cs with
     | nil => rfl
     | cons c r ih => rw [List.map_cons, List.sum_cons, one_len (ho c (by simp)), ih fun c hc => ho c (by simp [hc]), List.length_cons]; omega
   show ((strsD (cs.map D.str)).bind fun ys => if (ys.map (·.length)).sum + ys.length * ("" : Str).length <= 16777216 then some (D.str (Txt.join ("" : Str) ys)) else none) = _
   rw [strsD_of, Option.bind_some, if_pos (by rw [hsum]; show cs.length + cs.length * 0 <= 16777216; omega)]
 generalize hJ : Txt.join (Str.ofString "") cs = J at hj ejoin
 have hR := rep5_len J
 generalize hRe : repS J 5 = RJ at hR
 have mJ : mulX (.str J) (.int 5) = some (.str RJ) := by rw [<- hRe]; exact mul_str (by omega)
 have aa : ("aa" : Str).length = 2 := by decide +kernel
 have s1 : addD (.str z0) (.str RJ) = some (.str (z0 ++ RJ)) := add_str (Nat.le_of_lt (small1000 (by omega)))
 have s2 : addD (.str (z0 ++ RJ)) (.str ("aa" : Str)) = some (.str (z0 ++ RJ ++ ("aa" : Str))) := add_str (Nat.le_of_lt (small1000 (by rw [len_app, aa]; omega)))
 have hT : (z0 ++ RJ ++ ("aa" : Str)).length = z0.length + RJ.length + 2 := by rw [len_app, len_app, aa]
 have hc20 : slD (.str (z0 ++ RJ ++ ("aa" : Str))) none (some 20) = some (.str (Txt.slice (z0 ++ RJ ++ ("aa" : Str)) none (some 20))) := if_pos (Nat.le_of_lt (small1000 (by rw [hT]; omega)))
 have fs := fact_slice_ns (z0 ++ RJ ++ ("aa" : Str)) 20
 rw [hT] at fs
 generalize hz : Txt.slice (z0 ++ RJ ++ ("aa" : Str)) none (some 20) = z at fs hc20
 have hlen : 2 <= z.length /\ z.length <= 20 := by
   by_cases h20 : (20 : Int) <= ((z0.length + RJ.length + 2 : Nat) : Int)
   · have := fs.1 (by decide) h20; omega
   · have := fs.2 (by omega); omega
 have pL : (0 : Int) < (z.length : Int) - 1 := by omega
 have i0 := Int.emod_nonneg g (show (z.length : Int) - 1 ≠ 0 by omega)
 have i1 := Int.emod_lt_of_pos g pL
 generalize hi : g % ((z.length : Int) - 1) = i at i0 i1
 generalize hroom : (z.length : Int) - 1 - i = room
 have pr0' : 0 < room := by omega
 have d400 : CDivB 400 := divB (by decide) (by decide)
 have d20 : CDivB 20 := divB (by decide) (by decide)
 have d1200 : CDivB 1200 := divB (by decide) (by decide)
 have d7 : CDivB 7 := divB (by decide) (by decide)
 have p3 : (0 : Int) < 3 := by decide
 have p2 : (0 : Int) < 2 := by decide
 have q0 := Int.emod_nonneg (g / 400) (show room ≠ 0 by omega)
 have q1 := Int.emod_lt_of_pos (g / 400) pr0'
 generalize hq : g / 400 % room = q at q0 q1
 generalize hs : (if decide (0 < g / 20 % 3) = true then (1 : Int) else 0) = s
 have hs' : s = 0 ∨ s = 1 := by rw [<- hs]; exact b01 _
 have mq : CMul q s := mulB (by omega) (by omega)
 have hqs : 0 <= q * s /\ q * s < room := by
   rcases hs' with e | e <;> rw [e] <;> omega
 generalize hqe : q * s = qs at hqs
 generalize hje : (z.length : Int) - 1 - qs = j
 obtain ⟨ps, n1, n2, n3, n4⟩ := inner_ok (g / 1200) i j (Int.ediv_nonneg g0 (by decide)) i0 (by omega) (by omega)
 have hu0 : 0 <= usedP ps := by
   unfold usedP
   have : ∀ l : List (Int × Int), (∀ p ∈ l, p.1 < p.2) -> 0 <= (l.map fun p => p.2 - p.1 + 1).sum := by
     intro l hl
     induction l with
     | nil => simp
     | cons a r ih =>
       have h1 := ih fun p hp => hl p (by simp [hp])
       have h2 := hl a (by simp)
       rw [List.map_cons, List.sum_cons]; omega
   exact this ps fun p hp => (n3 p hp).2.1
 generalize hf : j - i - 1 - usedP ps = f
 have e0 : mlwright [.scr ns, .d (.int k)] = retOf (mbwright [some (.scr ns), some (.d (.int k)), none, none, none, none, none, none, none, none, none, none, none, none]) := rfl
 rw [e0]
 unfold mbwright
 rw [seq_nx (ρ' := [some (.scr ns), some (.d (.int k)), some (.d (.tup B.b)), none, none, none, none, none, none, none, none, none, none, none]) (by simp only [mAsg, mCallA, mCons, mVar, look, mC, mNil, Option.bind_some, resA, resS, argS, unD, sto, mgName, List.set_cons_zero, List.set_cons_succ, eb])]
 rw [seq_nx (ρ' := [some (.scr ns), some (.d (.int k)), some (.d (.tup B.b)), some (.d (.str z)), none, none, none, none, none, none, none, none, none, none]) (by simp only [mAsg, mCallA, mCons, mVar, look, mC, mNil, Option.bind_some, resA, resS, argS, unD, sto, mgName, List.set_cons_zero, List.set_cons_succ, mSl, mOp, mJoin, ress, res, ez, ecs, ejoin, mJ, s1, s2, moNo, moPart, asI, hc20])]
 rw [seq_nx (ρ' := [some (.scr ns), some (.d (.int k)), some (.d (.tup B.b)), some (.d (.str z)), some (.d (.int g)), none, none, none, none, none, none, none, none, none]) (by simp only [mAsg, mCallA, mCons, mVar, look, mC, mNil, Option.bind_some, resA, resS, argS, unD, sto, mgName, List.set_cons_zero, List.set_cons_succ, mOp, res, add_int, eg])]
 rw [seq_nx (ρ' := [some (.scr ns), some (.d (.int k)), some (.d (.tup B.b)), some (.d (.str z)), some (.d (.int g)), some (.d (.int i)), none, none, none, none, none, none, none, none]) (by simp only [mAsg, mCallA, mCons, mVar, look, mC, mNil, Option.bind_some, resA, resS, argS, unD, sto, mgName, List.set_cons_zero, List.set_cons_succ, mOp, mCB, ress, res, len_str hlen.2, subD, mod_int pL, hi])]
 rw [seq_nx (ρ' := [some (.scr ns), some (.d (.int k)), some (.d (.tup B.b)), some (.d (.str z)), some (.d (.int g)), some (.d (.int i)), some (.d (.int room)), none, none, none, none, none, none, none]) (by simp only [mAsg, mCallA, mCons, mVar, look, mC, mNil, Option.bind_some, resA, resS, argS, unD, sto, mgName, List.set_cons_zero, List.set_cons_succ, mOp, mCB, ress, res, len_str hlen.2, subD, hroom])]
 rw [seq_nx (ρ' := [some (.scr ns), some (.d (.int k)), some (.d (.tup B.b)), some (.d (.str z)), some (.d (.int g)), some (.d (.int i)), some (.d (.int room)), some (.d (.int j)), none, none, none, none, none, none]) (by simp only [mAsg, mCallA, mCons, mVar, look, mC, mNil, Option.bind_some, resA, resS, argS, unD, sto, mgName, List.set_cons_zero, List.set_cons_succ, mOp, mCB, ress, res, len_str hlen.2, subD, div_int d400, div_int d20, mod_int pr0', mod_int p3, hq, cmpD, intD, hs, mul_int mq, hqe, hje])]
 rw [seq_nx (ρ' := [some (.scr ns), some (.d (.int k)), some (.d (.tup B.b)), some (.d (.str z)), some (.d (.int g)), some (.d (.int i)), some (.d (.int room)), some (.d (.int j)), some (.d (.lst (ps.map pr))), none, none, none, none, none]) (by simp only [mAsg, mCallA, mCons, mVar, look, mC, mNil, Option.bind_some, resA, resS, argS, unD, sto, mgName, List.set_cons_zero, List.set_cons_succ, mOp, res, div_int d1200, n4])]
 obtain ⟨u1, u2, eu⟩ := used_loop (mdIn mdwright 2 [] []) ps [] none none (by simp; omega)
 rw [List.nil_append] at eu
 have ecm : (mComp 2 [] [] (mSeqI mdwright (mVar 8)) (lpM (mgTup 2 (mgCons (mgName 0) (mgCons (mgName 1) mgNil))) mYes (mEmit (mdIn mdwright 2 [] []) (mOp addD (mOp subD (mVar 1) (mVar 0)) (mC (.int 1)))))) [some (.scr ns), some (.d (.int k)), some (.d (.tup B.b)), some (.d (.str z)), some (.d (.int g)), some (.d (.int i)), some (.d (.int room)), some (.d (.int j)), some (.d (.lst (ps.map pr))), none, none, none, none, none] = some (.val (.lst ((ps.map fun p : Int × Int => p.2 - p.1 + 1).map D.int)), [some (.scr ns), some (.d (.int k)), some (.d (.tup B.b)), some (.d (.str z)), some (.d (.int g)), some (.d (.int i)), some (.d (.int room)), some (.d (.int j)), some (.d (.lst (ps.map pr))), none, none, none, none, none]) := by
   have eu' : (lpM (mgTup 2 (mgCons (mgName 0) (mgCons (mgName 1) mgNil))) mYes (mEmit (mdIn mdwright 2 [] []) (mOp addD (mOp subD (mVar 1) (mVar 0)) (mC (.int 1))))) (ps.map pr) (inEn 2 [] [some (.scr ns), some (.d (.int k)), some (.d (.tup B.b)), some (.d (.str z)), some (.d (.int g)), some (.d (.int i)), some (.d (.int room)), some (.d (.int j)), some (.d (.lst (ps.map pr))), none, none, none, none, none]) [] = some ([u1, u2], (ps.map fun p : Int × Int => p.2 - p.1 + 1).map D.int) := eu
   simp only [mComp, mSeqI, mVar, look, Option.bind_some, sto, mode, mdwright, unD, seqD]
   simp only [mdwright] at eu'
   rw [eu']
   rfl
 have esum : sumD [.lst ((ps.map fun p : Int × Int => p.2 - p.1 + 1).map D.int)] = some (.int (usedP ps)) := by
   show ((intsD _).map fun ns => D.int ns.sum) = _
   rw [intsD_of]
   rfl
 rw [seq_nx (ρ' := [some (.scr ns), some (.d (.int k)), some (.d (.tup B.b)), some (.d (.str z)), some (.d (.int g)), some (.d (.int i)), some (.d (.int room)), some (.d (.int j)), some (.d (.lst (ps.map pr))), some (.d (.int f)), none, none, none, none]) (by simp only [mAsg, mOp, mCB, mCons, ecm, mVar, look, mC, mNil, Option.bind_some, ress, res, unD, subD, esum, hf, sto, mgName, List.set_cons_zero, List.set_cons_succ])]
 rw [seq_nx (ρ' := [some (.scr ns), some (.d (.int k)), some (.d (.tup B.b)), some (.d (.str z)), some (.d (.int g)), some (.d (.int i)), some (.d (.int room)), some (.d (.int j)), some (.d (.lst (ps.map pr))), some (.d (.int f)), some (.d (.lst (ps.map pr))), none, none, none]) (by simp only [mAsg, mCB, mCons, mVar, look, mNil, Option.bind_some, ress, res, unD, listX, sto, mgName, List.set_cons_zero, List.set_cons_succ])]
 have hps : ∀ p ∈ ps, (0 <= p.1 /\ p.1 < (z.length : Int)) /\ (0 <= p.2 /\ p.2 < (z.length : Int)) := fun p hp => by
   have := n3 p hp; omega
 have hcond : ∃ b : Bool, (b = true -> ps.length = 1) /\ (mAnd (mB (mOp (eqD 4 false) (mCB lenD (mCons (mVar 8) mNil)) (mC (.int 1)))) (mB (mOp (eqD 4 false) (mOp modD (mOp divD (mVar 4) (mC (.int 7))) (mC (.int 2))) (mC (.int 0))))) [some (.scr ns), some (.d (.int k)), some (.d (.tup B.b)), some (.d (.str z)), some (.d (.int g)), some (.d (.int i)), some (.d (.int room)), some (.d (.int j)), some (.d (.lst (ps.map pr))), some (.d (.int f)), some (.d (.lst (ps.map pr))), none, none, none] = some (b, [some (.scr ns), some (.d (.int k)), some (.d (.tup B.b)), some (.d (.str z)), some (.d (.int g)), some (.d (.int i)), some (.d (.int room)), some (.d (.int j)), some (.d (.lst (ps.map pr))), some (.d (.int f)), some (.d (.lst (ps.map pr))), none, none, none]) := by
   have el : (((ps.map pr).length : Nat) : Int) = (ps.length : Int) := by rw [List.length_map]
   refine ⟨((ps.length : Int) == 1) && (g / 7 % 2 == 0), fun hb => by
     rw [Bool.and_eq_true] at hb
     have := hb.1
     rw [beq_iff_eq] at this
     omega, ?_⟩
   cases hb : ((ps.length : Int) == 1) <;>
     simp only [mAnd, mB, mOp, mCB, mCons, mVar, look, mNil, mC, Option.bind_some, ress, res, unD, lenD, el, Mir.eqD, D.depth, Nat.zero_le, if_true, D.eq, hb, Bool.false_eq_true, if_false, asB, Bool.false_and, Bool.true_and, div_int d7, mod_int p2]
 obtain ⟨b, hb1, hb2⟩ := hcond
 cases b with
 | false =>
   rw [seq_nx (ρ' := [some (.scr ns), some (.d (.int k)), some (.d (.tup B.b)), some (.d (.str z)), some (.d (.int g)), some (.d (.int i)), some (.d (.int room)), some (.d (.int j)), some (.d (.lst (ps.map pr))), some (.d (.int f)), some (.d (.lst (ps.map pr))), none, none, none]) ((ifs_f hb2).trans rfl)]
   rw [tail_ok B ns k g i j f z ps _ _ _ hlen.2 ⟨i0, by omega⟩ ⟨by omega, by omega⟩ hps (by omega) (by omega) n1]
   rfl
 | true =>
   have hp1 : ∃ p, ps = [p] := by
     match ps, hb1 rfl with
     | [p], _ => exact ⟨p, rfl⟩
   obtain ⟨p, hpe⟩ := hp1
   have hpp := hps p (by rw [hpe]; simp)
   obtain ⟨B', x11, x12, es⟩ := swap_ok B w h e d f5 hB hBl ns k g i j f room z p hlen.2 ⟨i0, by omega⟩ ⟨by omega, by omega⟩ hpp
   rw [<- hpe] at es
   rw [seq_nx ((ifs_t hb2).trans es)]
   rw [tail_ok B' ns k g i j f z ps _ _ _ hlen.2 ⟨i0, by omega⟩ ⟨by omega, by omega⟩ hps (by omega) (by omega) n1]
   rfl
end Mir
namespace Mir
open PySem L2
theorem law_loop (md : List Md) (ns : List Int) (l : List Int) : ∀ (n : Nat) (x : Option S), (∀ k ∈ l, 0 <= k /\ k < 6) -> n + l.length <= 100 -> ∃ x' : Option S,
   lpM (mgName 0) mYes (mEmit md (mCallA mlwright (mCons (mVar 1) (mCons (mVar 0) mNil)))) (l.map D.int) [x, some (.scr ns)] (List.replicate n (D.bl true)) = some ([x', some (.scr ns)], List.replicate (n + l.length) (D.bl true)) := by
 induction l with
 | nil => intro n x _ _; exact ⟨x, rfl⟩
 | cons k l ih =>
   intro n x h hl
   rw [List.length_cons] at hl
   have hk := h k (by simp)
   obtain ⟨x', e⟩ := ih (n + 1) (some (.d (.int k))) (fun i hi => h i (by simp [hi])) (by omega)
   refine ⟨x', ?_⟩
   have small : (List.replicate n (D.bl true)).length < sizeLine := by rw [List.length_replicate]; exact small1000 (by omega)
   have er := right_ok ns k hk.1 hk.2
   rw [List.length_cons, show n + (l.length + 1) = n + 1 + l.length by omega, <- e]
   simp only [List.map_cons, lpM, mgName, List.set_cons_zero, Option.bind_some, mYes, if_true, mEmit, mCallA, mCons, mVar, look, mNil, resA, resS, argS, er, unD, sto, small, List.replicate_succ']
theorem law_true : ∀ ns : List Int, ns.length <= 63 -> Mir.m_law [.scr ns] = some (.d (.bl true)) := by
 intro ns _
 have e0 : m_law [.scr ns] = retOf (mb_law [some (.scr ns)]) := rfl
 rw [e0]
 unfold mb_law
 obtain ⟨x, e⟩ := law_loop (mdIn md_law 1 [0] []) ns (ups 0 6) 0 none (fun k hk => by have := ups_mem hk; omega) (by rw [ups_len]; omega)
 rw [ups_len] at e
 have er : mRng1 (mCons (mC (.int 6)) mNil) [some (.scr ns)] = some ((ups 0 6).map D.int, [some (.scr ns)]) := rfl
 have e' : lpM (mgName 0) mYes (mEmit (mdIn md_law 1 [0] []) (mCallA mlwright (mCons (mVar 1) (mCons (mVar 0) mNil)))) ((ups 0 6).map D.int) (inEn 1 [0] [some (.scr ns)]) [] = some ([x, some (.scr ns)], List.replicate 6 (D.bl true)) := e
 have ei : inX 4 true (.bl false) (.lst (List.replicate 6 (D.bl true))) = some (.bl true) := by
   simp [inX, inD, itemsD, List.replicate, D.depthL, D.depth, D.eq]
 simp only [mRet, mOp, mC, mComp, er, Option.bind_some, e', wb, List.isEmpty_nil, if_true, res, ei, immO, D.imm, retOf]
end Mir
set_option maxHeartbeats 8000000
open PySem PySem.Spec PyProof.Rows L2
namespace My
open PySem L2
def top (i : Nat) : Stmt := PySem.Challenge.pw_hoopcord_k15_what_rings_add.main.body.getD i (.Pass ⟨0, 0, 0, 0⟩)
abbrev s_nest_price : Stmt := top 1
abbrev s_end_price : Stmt := top 2
abbrev s_step_price : Stmt := top 3
abbrev s_fork_price : Stmt := top 4
abbrev s_ring_price : Stmt := top 5
abbrev s_law_cell : Stmt := top 7
abbrev s_law_prices : Stmt := top 8
abbrev s_law_letters : Stmt := top 9
abbrev s_law_book : Stmt := top 10
abbrev s_law_cord : Stmt := top 11
abbrev s_law_due : Stmt := top 12
abbrev s_law_inner : Stmt := top 13
abbrev s_law_right : Stmt := top 14
abbrev s_law : Stmt := top 15
local macro_rules | `(tactic| walk_at "h pv") => `(tactic| first | exact pv 0 | exact pv 1 | exact pv 2 | exact pv 3 | exact pv 4 | exact pv 5 | exact pv 6 | exact pv 7 | exact pv 8 | exact pv 9 | exact pv 10 | exact pv 11 | exact pv 12 | exact pv 13 | exact pv 14 | exact pv 15 | exact pv 16 | exact pv 17 | exact pv 18 | exact pv 19 | exact pv 20 | exact pv 21)
local macro_rules | `(tactic| walk_at "h room") => `(tactic| exact Room.mono (by assumption) (by decide))
local macro_rules | `(tactic| walk_at "h un4") => `(tactic| exact My.un4 (by assumption))
local macro_rules | `(tactic| walk_at "h pa") => `(tactic| first
 | ((with_reducible show PA _ [] _); exact pa_nil)
 | (refine' pa_cons ?p1 ?p2))
local macro_rules | `(tactic| walk_at "h opB") => `(tactic| first | ((with_reducible show OpR _ (binaryOp Operator.Add) _); exact op_addX (by assumption)) | with_reducible first | exact op_subA | exact op_mulX | exact op_modA | exact op_divA | exact op_powA)
local macro_rules | `(tactic| walk_at "h opC") => `(tactic| first
 | ((with_reducible show OpR _ (compareOp CmpOp.Eq) _); exact op_eqK (n := 4) (by assumption) (by walk_at "h un4"))
 | ((with_reducible show OpR _ (compareOp CmpOp.NotEq) _); exact op_neK (n := 3) (by assumption) (by walk_at "h un4"))
 | ((with_reducible show OpR _ (compareOp CmpOp.In) _); walk_at "h opIn")
 | ((with_reducible show OpR _ (compareOp CmpOp.NotIn) _); walk_at "h opNotIn")
 | with_reducible exact op_ltA | with_reducible exact op_leA | with_reducible exact op_gtA | with_reducible exact op_geA | with_reducible exact op_isNA | with_reducible exact op_notNA)
local macro_rules | `(tactic| walk_at "h opIn") => `(tactic| exact op_inX (n := 4) (by assumption) (My.un5 (by assumption)))
local macro_rules | `(tactic| walk_at "h opNotIn") => `(tactic| walk_at "h opNI")
local macro_rules | `(tactic| walk_at "h mark") => `(tactic| first | exact nomark _ | (with_unfolding_all rfl))
local macro_rules | `(tactic| walk_at "h bcall") => `(tactic| first
 | ((with_reducible show PE _ (Expr.Call (Expr.Name (Str.ofString "len") _) _ _ _) _); refine' pe_callB (call_lenK (by assumption)) rfl (by assumption) PySem.boot_len ?p1)
 | ((with_reducible show PE _ (Expr.Call (Expr.Name (Str.ofString "abs") _) _ _ _) _); refine' pe_callB call_absA rfl (by assumption) PyProof.Rows.boot_abs ?p1)
 | ((with_reducible show PE _ (Expr.Call (Expr.Name (Str.ofString "sum") _) _ _ _) _); refine' pe_callB (call_sumK (by assumption) rfl) rfl (by assumption) PyProof.Rows.boot_sum ?p1)
 | ((with_reducible show PE _ (Expr.Call (Expr.Name (Str.ofString "isinstance") _) _ _ _) _); refine' pe_callB (call_isiK (by assumption)) rfl (by assumption) PyProof.Rows.boot_isinstance ?p1)
 | ((with_reducible show PE _ (Expr.Call (Expr.Name (Str.ofString "list") _) _ _ _) _); refine' pe_callTy (by walk_at "h list") rfl (by assumption) PyProof.Rows.boot_list ?p1)
 | ((with_reducible show PE _ (Expr.Call (Expr.Name (Str.ofString "tuple") _) _ _ _) _); refine' pe_callTy (by walk_at "h tuple") rfl (by assumption) PyProof.Rows.boot_tuple ?p1)
 | ((with_reducible show PE _ (Expr.Call (Expr.Name (Str.ofString "all") _) _ _ _) _); refine' pe_callB (call_allK (by assumption) rfl) rfl (by assumption) PyProof.Rows.boot_all ?p1)
 | ((with_reducible show PE _ (Expr.Call (Expr.Name (Str.ofString "int") _) _ _ _) _); refine' pe_callTy call_intA rfl (by assumption) PyProof.Rows.boot_int ?p1)
 | ((with_reducible show PE _ (Expr.Call (Expr.Name (Str.ofString "min") _) [_, _] _ _) _); refine' pe_callB (call_min2X rfl) rfl (by assumption) PyProof.Rows.boot_min ?p1)
 | ((with_reducible show PE _ (Expr.Call (Expr.Name (Str.ofString "max") _) [_, _] _ _) _); refine' pe_callB (call_max2X rfl) rfl (by assumption) PyProof.Rows.boot_max ?p1))
local macro_rules | `(tactic| walk_at "h list") => `(tactic| exact call_listX (by assumption) rfl)
local macro_rules | `(tactic| walk_at "h tuple") => `(tactic| exact call_tupX (by assumption) rfl)
local macro_rules | `(tactic| walk_at "h bty") => `(tactic| first
 | ((with_reducible show PE _ (Expr.Name (Str.ofString "int") _) _); exact pe_bltn (v := .ty "int") rfl (by assumption) PyProof.Rows.boot_int rfl)
 | ((with_reducible show PE _ (Expr.Name (Str.ofString "bool") _) _); exact pe_bltn (v := .ty "bool") rfl (by assumption) PyProof.Rows.boot_bool rfl)
 | ((with_reducible show PE _ (Expr.Name (Str.ofString "str") _) _); exact pe_bltn (v := .ty "str") rfl (by assumption) PyProof.Rows.boot_str rfl)
 | ((with_reducible show PE _ (Expr.Name (Str.ofString "list") _) _); exact pe_bltn (v := .ty "list") rfl (by assumption) PyProof.Rows.boot_list rfl)
 | ((with_reducible show PE _ (Expr.Name (Str.ofString "tuple") _) _); exact pe_bltn (v := .ty "tuple") rfl (by assumption) PyProof.Rows.boot_tuple rfl))
local macro_rules | `(tactic| walk_at "h comp") => `(tactic| first
 | ((with_reducible show PE _ (Expr.ListComp _ [⟨Expr.Tuple _ _ _, _, _, _⟩] _ _) _); refine' pe_compT2 rfl ⟨rfl, rfl, rfl, rfl, rfl⟩ ?p1 ?p0 ?p2 ?p3; (case' p0 => intro C s2 H2 fp); (case' p2 => intro C s2 H2 fp); (case' p3 => intro C s2 H2 fp))
 | ((with_reducible show PE _ (Expr.ListComp _ [_] _ _) _); refine' pe_comp1 rfl ⟨rfl, rfl, rfl, rfl, rfl⟩ ?p1 rfl (ndB_nodup rfl) ?p2 ?p3; (case' p2 => intro C s2 H2 fp); (case' p3 => intro C s2 H2 fp))
 | ((with_reducible show PE _ (Expr.ListComp _ [_, _] _ _) _); refine' pe_comp2 rfl ⟨rfl, rfl, rfl, rfl, rfl⟩ ?p1 rfl rfl (ndB_nodup rfl) ?p2 ?p3 ?p4 ?p5; (case' p2 => intro C s2 H2 fp); (case' p3 => intro C s2 H2 fp); (case' p4 => intro C s2 H2 fp); (case' p5 => intro C s2 H2 fp)))
local macro_rules | `(tactic| walk_at "h pif") => `(tactic| first | ((with_reducible show PIf _ [] _); exact pif_nil) | (refine' pif_one ?p1))
local macro_rules | `(tactic| walk_at "h pe") => `(tactic| first
 | ((with_reducible show PE _ (Expr.Constant _ _ _) _); with_reducible first | exact pe_int | exact pe_str | exact pe_bl | exact pe_non)
 | ((with_reducible show PE _ (Expr.Name _ _) _); first | walk_at "h pv" | walk_at "h bty" | walk_at "h glob")
 | ((with_reducible show PE _ (Expr.Call (Expr.Name _ _) _ _ _) _); first | walk_at "h bcall" | (refine' pe_callF (by assumption) (by walk_at "h room") rfl ?p1))
 | ((with_reducible show PE _ (Expr.Call (Expr.Attribute _ (Str.ofString "join") _) _ _ _) _); refine' pe_bmZ (by assumption) PySem.F.plainAttrs_str PySem.F.slot_str_join PySem.F.type_str_join (mt_join (by assumption)) ?p1 ?p2)
 | ((with_reducible show PE _ (Expr.Call (Expr.Attribute _ (Str.ofString "pop") _) [] _ _) _); refine' pe_bm0K (by assumption) PySem.F.plainAttrs_list PySem.F.slot_list_pop PySem.F.type_list_pop mt_pop ?p1)
 | ((with_reducible show PE _ (Expr.BinOp _ _ _ _) _); refine' pe_op (by walk_at "h opB") ?p1 ?p2)
 | ((with_reducible show PE _ (Expr.Subscript _ _ _) _); first | walk_at "h slice" | (refine' pe_ix (op_ixK (by assumption)) ?p1 ?p2 (fun _ _ => rfl)))
 | ((with_reducible show PE _ (Expr.Tuple _ _ _) _); refine' pe_tup ?p1)
 | ((with_reducible show PE _ (Expr.List _ _) _); refine' pe_lst ?p1)
 | ((with_reducible show PE _ (Expr.Compare _ [_] _ _) _); refine' pe_cmpR (by walk_at "h opC") ?p1 ?p2 (by walk_at "h mark"))
 | ((with_reducible show PE _ (Expr.Compare _ [_, _] _ _) _); refine' pe_chain (by walk_at "h opC") (by walk_at "h opC") ?p1 ?p2 ?p3)
 | ((with_reducible show PE _ (Expr.UnaryOp UnaryOp.USub _ _) _); refine' pe_un un_neg ?p1)
 | ((with_reducible show PE _ (Expr.UnaryOp UnaryOp.Not _ _) _); refine' pe_not ?p1)
 | ((with_reducible show PE _ (Expr.ListComp _ _ _ _) _); walk_at "h comp")
 | ((with_reducible show PE _ (Expr.BoolOp BoolOp.And (_ :: _ :: _) _) _); refine' pe_and ?p1 ?p2)
 | ((with_reducible show PE _ (Expr.BoolOp BoolOp.Or (_ :: _ :: _) _) _); refine' pe_or ?p1 ?p2)
 | ((with_reducible show PE _ (Expr.BoolOp _ [_] _) _); refine' pe_one ?p1)
 | ((with_reducible show PE _ (Expr.IfExp _ _ _ _) _); refine' pe_ifExp ?p1 ?p2 ?p3))
local macro_rules | `(tactic| walk_at "h pt") => `(tactic| first
 | ((with_reducible show PT _ (Expr.UnaryOp UnaryOp.Not _ _) _); refine' pt_not ?p1)
 | ((with_reducible show PT _ (Expr.BoolOp _ _ _) _); refine' PW.pt ?p1)
 | ((with_reducible show PT _ (Expr.Compare _ [_] _ _) _); refine' pt_cmpR (by walk_at "h opC") ?p1 ?p2 (by walk_at "h mark"))
 | ((with_reducible show PT _ (Expr.Compare _ [_, _] _ _) _); refine' pt_chain (by walk_at "h opC") (by walk_at "h opC") ?p1 ?p2 ?p3)
 | ((with_reducible show PT _ (Expr.Compare _ [_, _, _] _ _) _); refine' pt_chain3 (by walk_at "h opC") (by walk_at "h opC") (by walk_at "h opC") ?p1 ?p2 ?p3 ?p4)
 | (refine' pt_tru (by assumption) ?p1))
local macro_rules | `(tactic| walk_at "h pw") => `(tactic| first
 | ((with_reducible show PW _ (Expr.BoolOp BoolOp.And (_ :: _ :: _) _) _); refine' pw_and ?p1 ?p2)
 | ((with_reducible show PW _ (Expr.BoolOp BoolOp.Or (_ :: _ :: _) _) _); refine' pw_or ?p1 ?p2)
 | ((with_reducible show PW _ (Expr.BoolOp BoolOp.And [_] _) _); refine' pw_and1 ?p1)
 | ((with_reducible show PW _ (Expr.BoolOp BoolOp.Or [_] _) _); refine' pw_or1 ?p1))
local macro_rules | `(tactic| walk_at "h pi") => `(tactic| first
 | ((with_reducible show PI _ _ (Expr.Call (Expr.Name (Str.ofString "range") _) [_] _ _) _); refine' pi_range1 rfl (by assumption) ?p1)
 | ((with_reducible show PI _ _ (Expr.Call (Expr.Name (Str.ofString "range") _) [_, _] _ _) _); refine' pi_range2 rfl (by assumption) ?p1)
 | ((with_reducible show PI _ _ (Expr.Call (Expr.Name (Str.ofString "zip") _) [_, _] _ _) _); refine' pi_zip (by assumption) rfl (by assumption) ?p1)
 | (refine' pi_seqK (by assumption) ?p1))
local macro_rules | `(tactic| walk_at "h loc") => `(tactic| first | exact Or.inl rfl | exact Or.inr rfl)
local macro_rules | `(tactic| walk_at "h pg") => `(tactic| first
 | ((with_reducible show PG _ (Expr.Tuple _ _ _) _); first | refine' pg_tupK (n := 2) (by assumption) rfl ?p1 rfl | refine' pg_tupK (n := 3) (by assumption) rfl ?p1 rfl | refine' pg_tupK (n := 4) (by assumption) rfl ?p1 rfl | refine' pg_tupK (n := 5) (by assumption) rfl ?p1 rfl | refine' pg_tupK (n := 6) (by assumption) rfl ?p1 rfl)
 | ((with_reducible show PG _ (Expr.Subscript _ _ _) _); refine' pg_sub ?p1 ?p2 set_list)
 | exact pg_name (i := 0) (by assumption) rfl (by walk_at "h loc") | exact pg_name (i := 1) (by assumption) rfl (by walk_at "h loc") | exact pg_name (i := 2) (by assumption) rfl (by walk_at "h loc")
 | exact pg_name (i := 3) (by assumption) rfl (by walk_at "h loc") | exact pg_name (i := 4) (by assumption) rfl (by walk_at "h loc") | exact pg_name (i := 5) (by assumption) rfl (by walk_at "h loc")
 | exact pg_name (i := 6) (by assumption) rfl (by walk_at "h loc") | exact pg_name (i := 7) (by assumption) rfl (by walk_at "h loc") | exact pg_name (i := 8) (by assumption) rfl (by walk_at "h loc")
 | exact pg_name (i := 9) (by assumption) rfl (by walk_at "h loc") | exact pg_name (i := 10) (by assumption) rfl (by walk_at "h loc") | exact pg_name (i := 11) (by assumption) rfl (by walk_at "h loc")
 | exact pg_name (i := 12) (by assumption) rfl (by walk_at "h loc") | exact pg_name (i := 13) (by assumption) rfl (by walk_at "h loc") | exact pg_name (i := 14) (by assumption) rfl (by walk_at "h loc") | exact pg_name (i := 15) (by assumption) rfl (by walk_at "h loc") | exact pg_name (i := 16) (by assumption) rfl (by walk_at "h loc") | exact pg_name (i := 17) (by assumption) rfl (by walk_at "h loc") | exact pg_name (i := 18) (by assumption) rfl (by walk_at "h loc") | exact pg_name (i := 19) (by assumption) rfl (by walk_at "h loc") | exact pg_name (i := 20) (by assumption) rfl (by walk_at "h loc") | exact pg_name (i := 21) (by assumption) rfl (by walk_at "h loc") | exact pg_name (i := 22) (by assumption) rfl (by walk_at "h loc") | exact pg_name (i := 23) (by assumption) rfl (by walk_at "h loc"))
local macro_rules | `(tactic| walk_at "h pgs") => `(tactic| first | ((with_reducible show PGs _ [] _); exact pgs_nil) | (refine' pgs_cons ?p1 ?p2))
local macro_rules | `(tactic| walk_at "h ps") => `(tactic| first
 | ((with_reducible show PS _ (Stmt.Return (some _) _) _); refine' ps_ret ?p1)
 | ((with_reducible show PS _ (Stmt.Return none _) _); exact ps_retN)
 | ((with_reducible show PS _ (Stmt.If _ _ _ _) _); refine' ps_if ?p1 ?p2 ?p3)
 | ((with_reducible show PS _ (Stmt.For _ _ _ _ _) _); refine' ps_for PassesOwn.never rfl ?p1 ?p2 ?p3)
 | ((with_reducible show PS _ (Stmt.Assign [Expr.Name _ _] (Expr.ListComp _ [⟨Expr.Name _ _, _, _, _⟩] _ _) _) _); first | (refine' ps_setComp1 (i := 0) rfl ⟨rfl, rfl, rfl, rfl, rfl⟩ ?p1 rfl (ndB_nodup rfl) ?p2 ?p3 (by assumption) rfl rfl; (case' p2 => intro C s2 H2 fp); (case' p3 => intro C s2 H2 fp)) | (refine' ps_setComp1 (i := 1) rfl ⟨rfl, rfl, rfl, rfl, rfl⟩ ?p1 rfl (ndB_nodup rfl) ?p2 ?p3 (by assumption) rfl rfl; (case' p2 => intro C s2 H2 fp); (case' p3 => intro C s2 H2 fp)) | (refine' ps_setComp1 (i := 2) rfl ⟨rfl, rfl, rfl, rfl, rfl⟩ ?p1 rfl (ndB_nodup rfl) ?p2 ?p3 (by assumption) rfl rfl; (case' p2 => intro C s2 H2 fp); (case' p3 => intro C s2 H2 fp)) | (refine' ps_setComp1 (i := 3) rfl ⟨rfl, rfl, rfl, rfl, rfl⟩ ?p1 rfl (ndB_nodup rfl) ?p2 ?p3 (by assumption) rfl rfl; (case' p2 => intro C s2 H2 fp); (case' p3 => intro C s2 H2 fp)) | (refine' ps_setComp1 (i := 4) rfl ⟨rfl, rfl, rfl, rfl, rfl⟩ ?p1 rfl (ndB_nodup rfl) ?p2 ?p3 (by assumption) rfl rfl; (case' p2 => intro C s2 H2 fp); (case' p3 => intro C s2 H2 fp)) | (refine' ps_setComp1 (i := 5) rfl ⟨rfl, rfl, rfl, rfl, rfl⟩ ?p1 rfl (ndB_nodup rfl) ?p2 ?p3 (by assumption) rfl rfl; (case' p2 => intro C s2 H2 fp); (case' p3 => intro C s2 H2 fp)) | (refine' ps_setComp1 (i := 6) rfl ⟨rfl, rfl, rfl, rfl, rfl⟩ ?p1 rfl (ndB_nodup rfl) ?p2 ?p3 (by assumption) rfl rfl; (case' p2 => intro C s2 H2 fp); (case' p3 => intro C s2 H2 fp)) | (refine' ps_setComp1 (i := 7) rfl ⟨rfl, rfl, rfl, rfl, rfl⟩ ?p1 rfl (ndB_nodup rfl) ?p2 ?p3 (by assumption) rfl rfl; (case' p2 => intro C s2 H2 fp); (case' p3 => intro C s2 H2 fp)) | (refine' ps_setComp1 (i := 8) rfl ⟨rfl, rfl, rfl, rfl, rfl⟩ ?p1 rfl (ndB_nodup rfl) ?p2 ?p3 (by assumption) rfl rfl; (case' p2 => intro C s2 H2 fp); (case' p3 => intro C s2 H2 fp)) | (refine' ps_setComp1 (i := 9) rfl ⟨rfl, rfl, rfl, rfl, rfl⟩ ?p1 rfl (ndB_nodup rfl) ?p2 ?p3 (by assumption) rfl rfl; (case' p2 => intro C s2 H2 fp); (case' p3 => intro C s2 H2 fp)) | (refine' ps_setComp1 (i := 10) rfl ⟨rfl, rfl, rfl, rfl, rfl⟩ ?p1 rfl (ndB_nodup rfl) ?p2 ?p3 (by assumption) rfl rfl; (case' p2 => intro C s2 H2 fp); (case' p3 => intro C s2 H2 fp)) | (refine' ps_setComp1 (i := 11) rfl ⟨rfl, rfl, rfl, rfl, rfl⟩ ?p1 rfl (ndB_nodup rfl) ?p2 ?p3 (by assumption) rfl rfl; (case' p2 => intro C s2 H2 fp); (case' p3 => intro C s2 H2 fp)) | (refine' ps_setComp1 (i := 12) rfl ⟨rfl, rfl, rfl, rfl, rfl⟩ ?p1 rfl (ndB_nodup rfl) ?p2 ?p3 (by assumption) rfl rfl; (case' p2 => intro C s2 H2 fp); (case' p3 => intro C s2 H2 fp)) | (refine' ps_setComp1 (i := 13) rfl ⟨rfl, rfl, rfl, rfl, rfl⟩ ?p1 rfl (ndB_nodup rfl) ?p2 ?p3 (by assumption) rfl rfl; (case' p2 => intro C s2 H2 fp); (case' p3 => intro C s2 H2 fp)))
 | ((with_reducible show PS _ (Stmt.Assign [Expr.Name _ _] (Expr.ListComp _ [⟨Expr.Tuple _ _ _, _, _, _⟩] _ _) _) _); first | (refine' ps_setCompT2 (i := 0) rfl ⟨rfl, rfl, rfl, rfl, rfl⟩ ?p1 ?p0 ?p2 ?p3 (by assumption) rfl rfl; (case' p0 => intro C s2 H2 fp); (case' p2 => intro C s2 H2 fp); (case' p3 => intro C s2 H2 fp)) | (refine' ps_setCompT2 (i := 1) rfl ⟨rfl, rfl, rfl, rfl, rfl⟩ ?p1 ?p0 ?p2 ?p3 (by assumption) rfl rfl; (case' p0 => intro C s2 H2 fp); (case' p2 => intro C s2 H2 fp); (case' p3 => intro C s2 H2 fp)) | (refine' ps_setCompT2 (i := 2) rfl ⟨rfl, rfl, rfl, rfl, rfl⟩ ?p1 ?p0 ?p2 ?p3 (by assumption) rfl rfl; (case' p0 => intro C s2 H2 fp); (case' p2 => intro C s2 H2 fp); (case' p3 => intro C s2 H2 fp)) | (refine' ps_setCompT2 (i := 3) rfl ⟨rfl, rfl, rfl, rfl, rfl⟩ ?p1 ?p0 ?p2 ?p3 (by assumption) rfl rfl; (case' p0 => intro C s2 H2 fp); (case' p2 => intro C s2 H2 fp); (case' p3 => intro C s2 H2 fp)) | (refine' ps_setCompT2 (i := 4) rfl ⟨rfl, rfl, rfl, rfl, rfl⟩ ?p1 ?p0 ?p2 ?p3 (by assumption) rfl rfl; (case' p0 => intro C s2 H2 fp); (case' p2 => intro C s2 H2 fp); (case' p3 => intro C s2 H2 fp)) | (refine' ps_setCompT2 (i := 5) rfl ⟨rfl, rfl, rfl, rfl, rfl⟩ ?p1 ?p0 ?p2 ?p3 (by assumption) rfl rfl; (case' p0 => intro C s2 H2 fp); (case' p2 => intro C s2 H2 fp); (case' p3 => intro C s2 H2 fp)) | (refine' ps_setCompT2 (i := 6) rfl ⟨rfl, rfl, rfl, rfl, rfl⟩ ?p1 ?p0 ?p2 ?p3 (by assumption) rfl rfl; (case' p0 => intro C s2 H2 fp); (case' p2 => intro C s2 H2 fp); (case' p3 => intro C s2 H2 fp)) | (refine' ps_setCompT2 (i := 7) rfl ⟨rfl, rfl, rfl, rfl, rfl⟩ ?p1 ?p0 ?p2 ?p3 (by assumption) rfl rfl; (case' p0 => intro C s2 H2 fp); (case' p2 => intro C s2 H2 fp); (case' p3 => intro C s2 H2 fp)) | (refine' ps_setCompT2 (i := 8) rfl ⟨rfl, rfl, rfl, rfl, rfl⟩ ?p1 ?p0 ?p2 ?p3 (by assumption) rfl rfl; (case' p0 => intro C s2 H2 fp); (case' p2 => intro C s2 H2 fp); (case' p3 => intro C s2 H2 fp)) | (refine' ps_setCompT2 (i := 9) rfl ⟨rfl, rfl, rfl, rfl, rfl⟩ ?p1 ?p0 ?p2 ?p3 (by assumption) rfl rfl; (case' p0 => intro C s2 H2 fp); (case' p2 => intro C s2 H2 fp); (case' p3 => intro C s2 H2 fp)) | (refine' ps_setCompT2 (i := 10) rfl ⟨rfl, rfl, rfl, rfl, rfl⟩ ?p1 ?p0 ?p2 ?p3 (by assumption) rfl rfl; (case' p0 => intro C s2 H2 fp); (case' p2 => intro C s2 H2 fp); (case' p3 => intro C s2 H2 fp)) | (refine' ps_setCompT2 (i := 11) rfl ⟨rfl, rfl, rfl, rfl, rfl⟩ ?p1 ?p0 ?p2 ?p3 (by assumption) rfl rfl; (case' p0 => intro C s2 H2 fp); (case' p2 => intro C s2 H2 fp); (case' p3 => intro C s2 H2 fp)) | (refine' ps_setCompT2 (i := 12) rfl ⟨rfl, rfl, rfl, rfl, rfl⟩ ?p1 ?p0 ?p2 ?p3 (by assumption) rfl rfl; (case' p0 => intro C s2 H2 fp); (case' p2 => intro C s2 H2 fp); (case' p3 => intro C s2 H2 fp)) | (refine' ps_setCompT2 (i := 13) rfl ⟨rfl, rfl, rfl, rfl, rfl⟩ ?p1 ?p0 ?p2 ?p3 (by assumption) rfl rfl; (case' p0 => intro C s2 H2 fp); (case' p2 => intro C s2 H2 fp); (case' p3 => intro C s2 H2 fp)))
 | ((with_reducible show PS _ (Stmt.Assign [Expr.Tuple [_, _] _ _] (Expr.Tuple [_, _] _ _) _) _); first | (refine' ps_par (i := 0) (j := 1) rfl (by assumption) rfl rfl (by decide) rfl rfl ?p1 rfl) | (refine' ps_par (i := 0) (j := 2) rfl (by assumption) rfl rfl (by decide) rfl rfl ?p1 rfl) | (refine' ps_par (i := 0) (j := 3) rfl (by assumption) rfl rfl (by decide) rfl rfl ?p1 rfl) | (refine' ps_par (i := 0) (j := 4) rfl (by assumption) rfl rfl (by decide) rfl rfl ?p1 rfl) | (refine' ps_par (i := 0) (j := 5) rfl (by assumption) rfl rfl (by decide) rfl rfl ?p1 rfl) | (refine' ps_par (i := 0) (j := 6) rfl (by assumption) rfl rfl (by decide) rfl rfl ?p1 rfl) | (refine' ps_par (i := 0) (j := 7) rfl (by assumption) rfl rfl (by decide) rfl rfl ?p1 rfl) | (refine' ps_par (i := 1) (j := 0) rfl (by assumption) rfl rfl (by decide) rfl rfl ?p1 rfl) | (refine' ps_par (i := 1) (j := 2) rfl (by assumption) rfl rfl (by decide) rfl rfl ?p1 rfl) | (refine' ps_par (i := 1) (j := 3) rfl (by assumption) rfl rfl (by decide) rfl rfl ?p1 rfl) | (refine' ps_par (i := 1) (j := 4) rfl (by assumption) rfl rfl (by decide) rfl rfl ?p1 rfl) | (refine' ps_par (i := 1) (j := 5) rfl (by assumption) rfl rfl (by decide) rfl rfl ?p1 rfl) | (refine' ps_par (i := 1) (j := 6) rfl (by assumption) rfl rfl (by decide) rfl rfl ?p1 rfl) | (refine' ps_par (i := 1) (j := 7) rfl (by assumption) rfl rfl (by decide) rfl rfl ?p1 rfl) | (refine' ps_par (i := 2) (j := 0) rfl (by assumption) rfl rfl (by decide) rfl rfl ?p1 rfl) | (refine' ps_par (i := 2) (j := 1) rfl (by assumption) rfl rfl (by decide) rfl rfl ?p1 rfl) | (refine' ps_par (i := 2) (j := 3) rfl (by assumption) rfl rfl (by decide) rfl rfl ?p1 rfl) | (refine' ps_par (i := 2) (j := 4) rfl (by assumption) rfl rfl (by decide) rfl rfl ?p1 rfl) | (refine' ps_par (i := 2) (j := 5) rfl (by assumption) rfl rfl (by decide) rfl rfl ?p1 rfl) | (refine' ps_par (i := 2) (j := 6) rfl (by assumption) rfl rfl (by decide) rfl rfl ?p1 rfl) | (refine' ps_par (i := 2) (j := 7) rfl (by assumption) rfl rfl (by decide) rfl rfl ?p1 rfl) | (refine' ps_par (i := 3) (j := 0) rfl (by assumption) rfl rfl (by decide) rfl rfl ?p1 rfl) | (refine' ps_par (i := 3) (j := 1) rfl (by assumption) rfl rfl (by decide) rfl rfl ?p1 rfl) | (refine' ps_par (i := 3) (j := 2) rfl (by assumption) rfl rfl (by decide) rfl rfl ?p1 rfl) | (refine' ps_par (i := 3) (j := 4) rfl (by assumption) rfl rfl (by decide) rfl rfl ?p1 rfl) | (refine' ps_par (i := 3) (j := 5) rfl (by assumption) rfl rfl (by decide) rfl rfl ?p1 rfl) | (refine' ps_par (i := 3) (j := 6) rfl (by assumption) rfl rfl (by decide) rfl rfl ?p1 rfl) | (refine' ps_par (i := 3) (j := 7) rfl (by assumption) rfl rfl (by decide) rfl rfl ?p1 rfl) | (refine' ps_par (i := 4) (j := 0) rfl (by assumption) rfl rfl (by decide) rfl rfl ?p1 rfl) | (refine' ps_par (i := 4) (j := 1) rfl (by assumption) rfl rfl (by decide) rfl rfl ?p1 rfl) | (refine' ps_par (i := 4) (j := 2) rfl (by assumption) rfl rfl (by decide) rfl rfl ?p1 rfl) | (refine' ps_par (i := 4) (j := 3) rfl (by assumption) rfl rfl (by decide) rfl rfl ?p1 rfl) | (refine' ps_par (i := 4) (j := 5) rfl (by assumption) rfl rfl (by decide) rfl rfl ?p1 rfl) | (refine' ps_par (i := 4) (j := 6) rfl (by assumption) rfl rfl (by decide) rfl rfl ?p1 rfl) | (refine' ps_par (i := 4) (j := 7) rfl (by assumption) rfl rfl (by decide) rfl rfl ?p1 rfl) | (refine' ps_par (i := 5) (j := 0) rfl (by assumption) rfl rfl (by decide) rfl rfl ?p1 rfl) | (refine' ps_par (i := 5) (j := 1) rfl (by assumption) rfl rfl (by decide) rfl rfl ?p1 rfl) | (refine' ps_par (i := 5) (j := 2) rfl (by assumption) rfl rfl (by decide) rfl rfl ?p1 rfl) | (refine' ps_par (i := 5) (j := 3) rfl (by assumption) rfl rfl (by decide) rfl rfl ?p1 rfl) | (refine' ps_par (i := 5) (j := 4) rfl (by assumption) rfl rfl (by decide) rfl rfl ?p1 rfl) | (refine' ps_par (i := 5) (j := 6) rfl (by assumption) rfl rfl (by decide) rfl rfl ?p1 rfl) | (refine' ps_par (i := 5) (j := 7) rfl (by assumption) rfl rfl (by decide) rfl rfl ?p1 rfl) | (refine' ps_par (i := 6) (j := 0) rfl (by assumption) rfl rfl (by decide) rfl rfl ?p1 rfl) | (refine' ps_par (i := 6) (j := 1) rfl (by assumption) rfl rfl (by decide) rfl rfl ?p1 rfl) | (refine' ps_par (i := 6) (j := 2) rfl (by assumption) rfl rfl (by decide) rfl rfl ?p1 rfl) | (refine' ps_par (i := 6) (j := 3) rfl (by assumption) rfl rfl (by decide) rfl rfl ?p1 rfl) | (refine' ps_par (i := 6) (j := 4) rfl (by assumption) rfl rfl (by decide) rfl rfl ?p1 rfl) | (refine' ps_par (i := 6) (j := 5) rfl (by assumption) rfl rfl (by decide) rfl rfl ?p1 rfl) | (refine' ps_par (i := 6) (j := 7) rfl (by assumption) rfl rfl (by decide) rfl rfl ?p1 rfl) | (refine' ps_par (i := 7) (j := 0) rfl (by assumption) rfl rfl (by decide) rfl rfl ?p1 rfl) | (refine' ps_par (i := 7) (j := 1) rfl (by assumption) rfl rfl (by decide) rfl rfl ?p1 rfl) | (refine' ps_par (i := 7) (j := 2) rfl (by assumption) rfl rfl (by decide) rfl rfl ?p1 rfl) | (refine' ps_par (i := 7) (j := 3) rfl (by assumption) rfl rfl (by decide) rfl rfl ?p1 rfl) | (refine' ps_par (i := 7) (j := 4) rfl (by assumption) rfl rfl (by decide) rfl rfl ?p1 rfl) | (refine' ps_par (i := 7) (j := 5) rfl (by assumption) rfl rfl (by decide) rfl rfl ?p1 rfl) | (refine' ps_par (i := 7) (j := 6) rfl (by assumption) rfl rfl (by decide) rfl rfl ?p1 rfl))
 | ((with_reducible show PS _ (Stmt.AugAssign (Expr.Name _ _) _ _ _) _); first | (refine' ps_aug (i := 0) (by assumption) rfl (by walk_at "h loc") ?p1 (by first | exact ip_add | exact ip_sub)) | (refine' ps_aug (i := 1) (by assumption) rfl (by walk_at "h loc") ?p1 (by first | exact ip_add | exact ip_sub)) | (refine' ps_aug (i := 2) (by assumption) rfl (by walk_at "h loc") ?p1 (by first | exact ip_add | exact ip_sub)) | (refine' ps_aug (i := 3) (by assumption) rfl (by walk_at "h loc") ?p1 (by first | exact ip_add | exact ip_sub)) | (refine' ps_aug (i := 4) (by assumption) rfl (by walk_at "h loc") ?p1 (by first | exact ip_add | exact ip_sub)) | (refine' ps_aug (i := 5) (by assumption) rfl (by walk_at "h loc") ?p1 (by first | exact ip_add | exact ip_sub)) | (refine' ps_aug (i := 6) (by assumption) rfl (by walk_at "h loc") ?p1 (by first | exact ip_add | exact ip_sub)) | (refine' ps_aug (i := 7) (by assumption) rfl (by walk_at "h loc") ?p1 (by first | exact ip_add | exact ip_sub)) | (refine' ps_aug (i := 8) (by assumption) rfl (by walk_at "h loc") ?p1 (by first | exact ip_add | exact ip_sub)) | (refine' ps_aug (i := 9) (by assumption) rfl (by walk_at "h loc") ?p1 (by first | exact ip_add | exact ip_sub)) | (refine' ps_aug (i := 10) (by assumption) rfl (by walk_at "h loc") ?p1 (by first | exact ip_add | exact ip_sub)) | (refine' ps_aug (i := 11) (by assumption) rfl (by walk_at "h loc") ?p1 (by first | exact ip_add | exact ip_sub)) | (refine' ps_aug (i := 12) (by assumption) rfl (by walk_at "h loc") ?p1 (by first | exact ip_add | exact ip_sub)) | (refine' ps_aug (i := 13) (by assumption) rfl (by walk_at "h loc") ?p1 (by first | exact ip_add | exact ip_sub)))
 | ((with_reducible show PS _ (Stmt.While _ _ _ _) _); refine' ps_while PassesOwn.never ?p1 ?p2)
 | ((with_reducible show PS _ (Stmt.Pass _) _); exact ps_pass)
 | ((with_reducible show PS _ (Stmt.Break _) _); exact ps_break)
 | ((with_reducible show PS _ (Stmt.Continue _) _); exact ps_continue)
 | ((with_reducible show PS _ (Stmt.Assign [_] _ _) _); refine' ps_asg ?p1 ?p2)
 | ((with_reducible show PS _ (Stmt.Expr _ _) _); walk_at "h stex"))
local macro_rules | `(tactic| walk_at "h stex") => `(tactic| first
 | ((with_reducible show PS _ (Stmt.Expr (Expr.Call (Expr.Attribute _ (Str.ofString "append") _) _ _ _) _) _); refine' ps_expr (pe_bmZ (by assumption) PySem.F.plainAttrs_list PySem.F.slot_list_append PySem.F.type_list_append mt_append ?p1 ?p2))
 | ((with_reducible show PS _ (Stmt.Expr (Expr.Call (Expr.Attribute _ (Str.ofString "reverse") _) _ _ _) _) _); refine' ps_expr (pe_bm0K (by assumption) PySem.F.plainAttrs_list PySem.F.slot_list_reverse PySem.F.type_list_reverse mt_reverse ?p1))
 | (refine' ps_expr ?p1))
local macro_rules | `(tactic| walk_at "h pss") => `(tactic| first
 | ((with_reducible show PSs _ [] _); exact pss_nil)
 | ((with_reducible show PSs _ [_] _); refine' pss_one ?p1)
 | ((with_reducible show PSs _ (_ :: _) _); refine' pss_cons ?p1 ?p2))
local macro_rules | `(tactic| walk_at "h opNI") => `(tactic| exact op_notInX (n := 4) (by assumption) (My.un5 (by assumption)))
local macro_rules | `(tactic| walk_at "h glob") => `(tactic| first | (refine' pe_glob (v := .int _) rfl ?gm ?gr; (case gm => assumption); (case gr => exact ⟨_, rfl⟩)) | (refine' pe_glob (v := .str _) rfl ?gm ?gr; (case gm => assumption); (case gr => exact ⟨_, rfl⟩)))
local macro_rules | `(tactic| walk_at "h po") => `(tactic| first | exact po_none | (refine' po_some ?p1))
local macro_rules | `(tactic| walk_at "h slice") => `(tactic| ((with_reducible show PE _ (Expr.Subscript _ (Expr.Slice _ _ none _) _) _); refine' pe_slice (sl_any (by assumption)) ?p1 ?p2 ?p3))
local macro_rules | `(tactic| walk_at "h pgc") => `(tactic| (refine' pg_tupK (by assumption) rfl ?p1))
local macro_rules | `(tactic| walk_at "h pgcs") => `(tactic| first | ((with_reducible show PGs _ [] _); exact pgs_nil) | (refine' pgs_cons ?p1 ?p2))
local macro_rules | `(tactic| walk_at "h pgc1") => `(tactic| first | exact pg_name (i := 0) (ndB_nodup rfl) rfl (by walk_at "h loc") | exact pg_name (i := 1) (ndB_nodup rfl) rfl (by walk_at "h loc"))
local macro_rules | `(tactic| walk_at "h1") => `(tactic| first
 | ((with_reducible show PE _ _ _); walk_at "h pe")
 | ((with_reducible show PT _ _ _); walk_at "h pt")
 | ((with_reducible show PW _ _ _); walk_at "h pw")
 | ((with_reducible show PA _ _ _); walk_at "h pa")
 | ((with_reducible show PSs _ _ _); walk_at "h pss")
 | ((with_reducible show PS _ _ _); walk_at "h ps")
 | ((with_reducible show PI _ _ _ _); walk_at "h pi")
 | ((with_reducible show PG _ _ _); first | walk_at "h pg" | walk_at "h pgc" | walk_at "h pgc1")
 | ((with_reducible show PGs _ _ _); first | walk_at "h pgs" | walk_at "h pgcs")
 | ((with_reducible show PO _ _ _); walk_at "h po")
 | ((with_reducible show PIf _ _ _); walk_at "h pif"))
local macro_rules | `(tactic| walk_at "h all") => `(tactic| repeat' (walk_at "h1"))
local macro_rules | `(tactic| walk_at "m op") => `(tactic| with_reducible first | exact Mir.op_add | exact Mir.op_sub | exact Mir.op_mulXA | exact Mir.op_mod | exact Mir.op_div | exact Mir.op_pow | exact Mir.op_cmp | exact Mir.op_eq | exact Mir.op_isN | exact Mir.op_notN | exact Mir.op_ix | exact Mir.op_inXA)
local macro_rules | `(tactic| walk_at "m cb") => `(tactic| with_reducible first | exact Mir.cb_len | exact Mir.cb_abs | exact Mir.cb_sum | exact Mir.cb_int | exact Mir.cb_listX | exact Mir.cb_tupX | exact Mir.cb_all | exact Mir.cb_min2 | exact Mir.cb_max2)
local macro_rules | `(tactic| walk_at "m ow") => `(tactic| first | exact Or.inl rfl | exact Or.inr rfl)
local macro_rules | `(tactic| walk_at "m a") => `(tactic| first
 | with_reducible exact Mir.la_nil
 | ((with_reducible refine' Mir.la_cons ?p1 ?p2)))
local macro_rules | `(tactic| walk_at "m o") => `(tactic| first
 | with_reducible exact Mir.lo_no
 | ((with_reducible refine' Mir.lo_part ?p1)))
local macro_rules | `(tactic| walk_at "m e") => `(tactic| first
 | with_reducible exact Mir.le_var _
 | with_reducible exact Mir.le_int
 | with_reducible exact Mir.le_str
 | with_reducible exact Mir.le_bl
 | with_reducible exact Mir.le_non
 | ((with_reducible refine' Mir.le_op ?o ?p1 ?p2); (case o => walk_at "m op"))
 | ((with_reducible refine' Mir.le_ixS ?o ?p1); (case o => rfl))
 | ((with_reducible refine' Mir.le_lenS ?o); (case o => rfl))
 | ((with_reducible refine' Mir.le_un Mir.un_neg ?p1))
 | ((with_reducible refine' Mir.le_isi ?o ?p1); (case o => decide))
 | ((with_reducible refine' Mir.le_cb ?o ?p1); (case o => walk_at "m cb"))
 | ((with_reducible refine' Mir.le_tup ?p1))
 | ((with_reducible refine' Mir.le_lst ?p1))
 | ((with_reducible refine' Mir.le_sl ?p1 ?p2 ?p3))
 | ((with_reducible refine' Mir.le_join ?p1))
 | ((with_reducible refine' Mir.le_callA ?p1))
 | ((with_reducible refine' Mir.le_callM ?o ?p1); (case o => walk_at "m ow"))
 | ((with_reducible refine' Mir.le_append ?o ?p1); (case o => walk_at "m ow"))
 | ((with_reducible refine' Mir.le_pop ?o); (case o => walk_at "m ow"))
 | ((with_reducible refine' Mir.le_reverse ?o); (case o => walk_at "m ow"))
 | ((with_reducible refine' Mir.le_andV ?p1 ?p2))
 | ((with_reducible refine' Mir.le_orV ?p1 ?p2))
 | ((with_reducible refine' Mir.le_notV ?p1))
 | ((with_reducible refine' Mir.le_if ?p1 ?p2 ?p3))
 | ((with_reducible refine' Mir.le_chain ?o ?o2 ?p1 ?p2 ?p3); (case o => walk_at "m op"); (case o2 => walk_at "m op"))
 | (refine' Mir.le_compE ?q0 ?q1 ?q2 ?q3 ?c1 ?c2 ?c3 ?c4; (case q0 => rfl); (case q1 => decide); (case q2 => decide); (case c1 => (walk_at "m i"; walk_at "m all")); (case q3 => walk_at "m lj")))
local macro_rules | `(tactic| walk_at "m lj") => `(tactic| first | (intro j h; cases h; done) | (intro j h; cases h; decide))
local macro_rules | `(tactic| walk_at "m t") => `(tactic| first
 | with_reducible exact Mir.lt_yes
 | ((with_reducible refine' Mir.lt_and ?p1 ?p2))
 | ((with_reducible refine' Mir.lt_or ?p1 ?p2))
 | ((with_reducible refine' Mir.lt_not ?p1))
 | ((with_reducible refine' Mir.lt_test ?p1))
 | ((with_reducible refine' Mir.lt_tru ?p1))
 | ((with_reducible refine' Mir.lt_b ?p1))
 | ((with_reducible refine' Mir.lt_chain3 ?o ?o2 ?o3 ?p1 ?p2 ?p3 ?p4); (case o => walk_at "m op"); (case o2 => walk_at "m op"); (case o3 => walk_at "m op")))
local macro_rules | `(tactic| walk_at "m i") => `(tactic| first
 | ((with_reducible refine' Mir.li_rng1 ?p1))
 | ((with_reducible refine' Mir.li_rng2 ?p1))
 | ((with_reducible refine' Mir.li_seq ?p1))
 | ((with_reducible refine' Mir.li_lk ?o); (case o => rfl))
 | ((with_reducible refine' Mir.li_own ?o); (case o => decide)))
local macro_rules | `(tactic| walk_at "m held") => `(tactic| (unfold Mir.held; decide))
local macro_rules | `(tactic| walk_at "m g") => `(tactic| first
 | ((with_reducible refine' Mir.lg_name ?o ?q); (case o => rfl); (case q => walk_at "m held"))
 | ((with_reducible refine' Mir.lg_own ?o ?q); (case o => rfl); (case q => walk_at "m held"))
 | ((with_reducible show Mir.LG _ _ _ (gTup _ _ _) _); refine' Mir.lg_tup ?p1)
 | ((with_reducible refine' Mir.lg_sub ?o ?p1); (case o => walk_at "m ow")))
local macro_rules | `(tactic| walk_at "m gs") => `(tactic| first
 | with_reducible exact Mir.lgs_nil
 | ((with_reducible refine' Mir.lgs_cons ?p1 ?p2)))
local macro_rules | `(tactic| walk_at "m gc") => `(tactic| first
 | ((with_reducible refine' Mir.lg_name ?o ?q); (case o => rfl); (case q => decide))
 | ((with_reducible show Mir.LG _ _ _ (gTup _ _ _) _); refine' Mir.lg_tup ?p1))
local macro_rules | `(tactic| walk_at "m gcs") => `(tactic| first
 | with_reducible exact Mir.lgs_nil
 | ((with_reducible refine' Mir.lgs_cons ?p1 ?p2)))
local macro_rules | `(tactic| walk_at "m b") => `(tactic| first
 | (refine' Mir.lb_emit ?p1)
 | (refine' Mir.lb_in ?p1 ?p2 ?p3 ?p4))
local macro_rules | `(tactic| walk_at "m n") => `(tactic| first
 | ((with_reducible refine' Mir.ln_lst ?p1))
 | ((with_reducible refine' Mir.ln_callA ?p1))
 | ((with_reducible refine' Mir.ln_stream ?o); (case o => rfl))
 | ((with_reducible refine' Mir.ln_op Mir.on_mul ?p1 ?p2))
 | (refine' Mir.ln_compE ?q0 ?q1 ?q2 ?q3 ?c1 ?c2 ?c3 ?c4; (case q0 => rfl); (case q1 => decide); (case q2 => decide); (case c1 => (walk_at "m i"; walk_at "m all")); (case q3 => walk_at "m lj")))
local macro_rules | `(tactic| walk_at "m s") => `(tactic| first
 | with_reducible exact Mir.ls_next
 | with_reducible exact Mir.ls_retNone
 | with_reducible exact Mir.ls_brk
 | with_reducible exact Mir.ls_ct
 | ((with_reducible refine' Mir.ls_seq ?p1 ?p2))
 | ((with_reducible refine' Mir.ls_if ?p1 ?p2 ?p3))
 | ((with_reducible refine' Mir.ls_asgN ?o ?p1); (case o => rfl))
 | ((with_reducible refine' Mir.ls_asg ?p1 ?p2))
 | ((with_reducible refine' Mir.ls_retNew ?p1))
 | ((with_reducible refine' Mir.ls_retV ?o); (case o => rfl))
 | ((with_reducible refine' Mir.ls_retF ?o ?p1); (case o => assumption))
 | ((with_reducible refine' Mir.ls_ret ?p1))
 | ((with_reducible refine' Mir.ls_drop ?p1))
 | ((with_reducible refine' Mir.ls_for ?p1 ?p2 ?p3))
 | ((with_reducible refine' Mir.ls_forL ?o ?p2 ?p3); (case o => rfl))
 | ((with_reducible refine' Mir.ls_while _ ?p1 ?p2))
 | ((with_reducible refine' Mir.ls_par ?o ?o2 ?p1); (case o => rfl); (case o2 => rfl))
 | ((with_reducible refine' Mir.ls_aug ?o ?p1); (case o => rfl)))
local macro_rules | `(tactic| walk_at "m1") => `(tactic| first
 | ((with_reducible show Mir.LE _ _ _ _); walk_at "m e")
 | ((with_reducible show Mir.LT _ _ _ _); walk_at "m t")
 | ((with_reducible show Mir.LA _ _ _ _); walk_at "m a")
 | ((with_reducible show Mir.LS _ _ _ _); walk_at "m s")
 | ((with_reducible show Mir.LI _ _ _ _ _); walk_at "m i")
 | ((with_reducible show Mir.LG _ _ _ _ _); first | walk_at "m g" | walk_at "m gc")
 | ((with_reducible show Mir.LGs _ _ _ _ _); walk_at "m gs")
 | ((with_reducible show Mir.LO _ _ _ _); walk_at "m o")
 | ((with_reducible show Mir.LB _ _ _ _ _); walk_at "m b")
 | ((with_reducible show Mir.LN _ _ _ _); walk_at "m n"))
local macro_rules | `(tactic| walk_at "m all") => `(tactic| repeat' (walk_at "m1"))
section
variable {P : Program} {w : World} {K : PySem.W.Frag} {mg : Str -> Option Value} {base : Heap}
theorem sc_nest_price : FnScope ["book", "x", "y", "u", "v", "row"] ["book", "x", "y", "u", "v"] (defScope s_nest_price) := ⟨rfl, rfl, rfl, by decide +kernel, rfl, by decide +kernel, by decide +kernel⟩
theorem ok_nest_price {f : Addr} {fd : FuncData} (F : Fun K "nest_price" "nest_price" s_nest_price f fd)  : FnOk P w K mg base CX0 1 f fd ["book", "x", "y", "u", "v"] (Mir.spP K Mir.m_nest_price) := by
 refine Mir.fn_pureE (md := Mir.md_nest_price) (mb := Mir.mb_nest_price) (n := 6) (np := 5) F sc_nest_price rfl rfl rfl rfl rfl ?_
 intro cdv A outer s H E hr
 have nd := sc_nest_price.nd
 have kt : KT K := ⟨⟩
 refine' ⟨_, ?a, ?b⟩
 case a =>
   show PSs _ (_ :: _) _
   walk_at "h all"
 case b =>
   intro C hC
   subst hC
   unfold Mir.mb_nest_price
   walk_at "m all"
theorem sc_end_price : FnScope ["book", "free", "ends"] ["book", "free"] (defScope s_end_price) := ⟨rfl, rfl, rfl, by decide +kernel, rfl, by decide +kernel, by decide +kernel⟩
theorem ok_end_price {f : Addr} {fd : FuncData} (F : Fun K "end_price" "end_price" s_end_price f fd) (b_len : mg "len" = none) (b_min : mg "min" = none) : FnOk P w K mg base CX0 1 f fd ["book", "free"] (Mir.spP K Mir.m_end_price) := by
 refine Mir.fn_pureE (md := Mir.md_end_price) (mb := Mir.mb_end_price) (n := 3) (np := 2) F sc_end_price rfl rfl rfl rfl rfl ?_
 intro cdv A outer s H E hr
 have nd := sc_end_price.nd
 have kt : KT K := ⟨⟩
 refine' ⟨_, ?a, ?b⟩
 case a =>
   show PSs _ (_ :: _) _
   walk_at "h all"
 case b =>
   intro C hC
   subst hC
   unfold Mir.mb_end_price
   walk_at "m all"
theorem sc_step_price : FnScope ["book", "cord", "hoop", "inner", "free", "bends"] ["book", "cord", "hoop", "inner", "free"] (defScope s_step_price) := ⟨rfl, rfl, rfl, by decide +kernel, rfl, by decide +kernel, by decide +kernel⟩
theorem ok_step_price {f : Addr} {fd : FuncData} (F : Fun K "step_price" "step_price" s_step_price f fd) (G_nest_price : FnG P w K mg base "nest_price" 1 ["book", "x", "y", "u", "v"] (Mir.spP K Mir.m_nest_price)) (b_len : mg "len" = none) (b_min : mg "min" = none) : FnOk P w K mg base CX0 2 f fd ["book", "cord", "hoop", "inner", "free"] (Mir.spP K Mir.m_step_price) := by
 refine Mir.fn_pureE (md := Mir.md_step_price) (mb := Mir.mb_step_price) (n := 6) (np := 5) F sc_step_price rfl rfl rfl rfl rfl ?_
 intro cdv A outer s H E hr
 have nd := sc_step_price.nd
 have kt : KT K := ⟨⟩
 refine' ⟨_, ?a, ?b⟩
 case a =>
   show PSs _ (_ :: _) _
   walk_at "h all"
 case b =>
   intro C hC
   subst hC
   unfold Mir.mb_step_price
   walk_at "m all"
theorem sc_fork_price : FnScope ["book", "many", "free", "base", "each", "each_free"] ["book", "many", "free"] (defScope s_fork_price) := ⟨rfl, rfl, rfl, by decide +kernel, rfl, by decide +kernel, by decide +kernel⟩
theorem ok_fork_price {f : Addr} {fd : FuncData} (F : Fun K "fork_price" "fork_price" s_fork_price f fd)  : FnOk P w K mg base CX0 1 f fd ["book", "many", "free"] (Mir.spP K Mir.m_fork_price) := by
 refine Mir.fn_pureE (md := Mir.md_fork_price) (mb := Mir.mb_fork_price) (n := 6) (np := 3) F sc_fork_price rfl rfl rfl rfl rfl ?_
 intro cdv A outer s H E hr
 have nd := sc_fork_price.nd
 have kt : KT K := ⟨⟩
 refine' ⟨_, ?a, ?b⟩
 case a =>
   show PSs _ (_ :: _) _
   walk_at "h all"
 case b =>
   intro C hC
   subst hC
   unfold Mir.mb_fork_price
   walk_at "m all"
theorem sc_ring_price : FnScope ["book", "cord", "hoop", "inner", "free"] ["book", "cord", "hoop", "inner", "free"] (defScope s_ring_price) := ⟨rfl, rfl, rfl, by decide +kernel, rfl, by decide +kernel, by decide +kernel⟩
theorem ok_ring_price {f : Addr} {fd : FuncData} (F : Fun K "ring_price" "ring_price" s_ring_price f fd) (G_end_price : FnG P w K mg base "end_price" 1 ["book", "free"] (Mir.spP K Mir.m_end_price)) (G_step_price : FnG P w K mg base "step_price" 2 ["book", "cord", "hoop", "inner", "free"] (Mir.spP K Mir.m_step_price)) (G_fork_price : FnG P w K mg base "fork_price" 1 ["book", "many", "free"] (Mir.spP K Mir.m_fork_price)) (b_len : mg "len" = none) : FnOk P w K mg base CX0 3 f fd ["book", "cord", "hoop", "inner", "free"] (Mir.spP K Mir.m_ring_price) := by
 refine Mir.fn_pureE (md := Mir.md_ring_price) (mb := Mir.mb_ring_price) (n := 5) (np := 5) F sc_ring_price rfl rfl rfl rfl rfl ?_
 intro cdv A outer s H E hr
 have nd := sc_ring_price.nd
 have kt : KT K := ⟨⟩
 refine' ⟨_, ?a, ?b⟩
 case a =>
   show PSs _ (_ :: _) _
   walk_at "h all"
 case b =>
   intro C hC
   subst hC
   unfold Mir.mb_ring_price
   walk_at "m all"
theorem sc_law_cell : FnScope ["script", "k", "near"] ["script", "k"] (defScope s_law_cell) := ⟨rfl, rfl, rfl, by decide +kernel, rfl, by decide +kernel, by decide +kernel⟩
theorem ok_law_cell {f : Addr} {fd : FuncData} (F : Fun K "_law_cell" "_law_cell" s_law_cell f fd) (b_len : mg "len" = none) : FnOk P w K mg base CX0 1 f fd ["script", "k"] (Mir.spP K Mir.mlwcell) := by
 refine Mir.fn_pureE (md := Mir.mdwcell) (mb := Mir.mbwcell) (n := 3) (np := 2) F sc_law_cell rfl rfl rfl rfl rfl ?_
 intro cdv A outer s H E hr
 have nd := sc_law_cell.nd
 have kt : KT K := ⟨⟩
 refine' ⟨_, ?a, ?b⟩
 case a =>
   show PSs _ (_ :: _) _
   walk_at "h all"
 case b =>
   intro C hC
   subst hC
   unfold Mir.mbwcell
   walk_at "m all"
theorem sc_law_prices : FnScope ["script", "k", "many", "found", "j", "cell"] ["script", "k", "many"] (defScope s_law_prices) := ⟨rfl, rfl, rfl, by decide +kernel, rfl, by decide +kernel, by decide +kernel⟩
theorem ok_law_prices {f : Addr} {fd : FuncData} (F : Fun K "_law_prices" "_law_prices" s_law_prices f fd) (G_law_cell : FnG P w K mg base "_law_cell" 1 ["script", "k"] (Mir.spP K Mir.mlwcell)) (b_int : mg "int" = none) (b_range : mg "range" = none) (b_tuple : mg "tuple" = none) : FnOk P w K mg base CX0 2 f fd ["script", "k", "many"] (Mir.spP K Mir.mlwprices) := by
 refine Mir.fn_pureE (md := Mir.mdwprices) (mb := Mir.mbwprices) (n := 6) (np := 3) F sc_law_prices rfl rfl rfl rfl rfl ?_
 intro cdv A outer s H E hr
 have nd := sc_law_prices.nd
 have kt : KT K := ⟨⟩
 refine' ⟨_, ?a, ?b⟩
 case a =>
   show PSs _ (_ :: _) _
   walk_at "h all"
 case b =>
   intro C hC
   subst hC
   unfold Mir.mbwprices
   walk_at "m all"
theorem sc_law_letters : FnScope ["script", "cell", "alphabet"] ["script"] (defScope s_law_letters) := ⟨rfl, rfl, rfl, by decide +kernel, rfl, by decide +kernel, by decide +kernel⟩
theorem ok_law_letters {f : Addr} {fd : FuncData} (F : Fun K "_law_letters" "_law_letters" s_law_letters f fd) (G_law_cell : FnG P w K mg base "_law_cell" 1 ["script", "k"] (Mir.spP K Mir.mlwcell)) (b_range : mg "range" = none) : FnOk P w K mg base CX0 2 f fd ["script"] (Mir.spP K Mir.mlwletters) := by
 refine Mir.fn_pureE (md := Mir.mdwletters) (mb := Mir.mbwletters) (n := 3) (np := 1) F sc_law_letters rfl rfl rfl rfl rfl ?_
 intro cdv A outer s H E hr
 have nd := sc_law_letters.nd
 have kt : KT K := ⟨⟩
 refine' ⟨_, ?a, ?b⟩
 case a =>
   show PSs _ (_ :: _) _
   walk_at "h all"
 case b =>
   intro C hC
   subst hC
   unfold Mir.mbwletters
   walk_at "m all"
theorem sc_law_book : FnScope ["script", "letters", "cell", "costs", "hoops", "nests", "i", "j", "some", "one", "other", "more", "free", "gap", "ends", "bends"] ["script"] (defScope s_law_book) := ⟨rfl, rfl, rfl, by decide +kernel, rfl, by decide +kernel, by decide +kernel⟩
theorem ok_law_book {f : Addr} {fd : FuncData} (F : Fun K "_law_book" "_law_book" s_law_book f fd) (G_law_cell : FnG P w K mg base "_law_cell" 1 ["script", "k"] (Mir.spP K Mir.mlwcell)) (G_law_prices : FnG P w K mg base "_law_prices" 2 ["script", "k", "many"] (Mir.spP K Mir.mlwprices)) (G_law_letters : FnG P w K mg base "_law_letters" 2 ["script"] (Mir.spP K Mir.mlwletters)) (b_int : mg "int" = none) (b_len : mg "len" = none) (b_range : mg "range" = none) (b_tuple : mg "tuple" = none) : FnOk P w K mg base CX0 3 f fd ["script"] (Mir.spP K Mir.mlwbook) := by
 refine Mir.fn_pureE (md := Mir.mdwbook) (mb := Mir.mbwbook) (n := 16) (np := 1) F sc_law_book rfl rfl rfl rfl rfl ?_
 intro cdv A outer s H E hr
 have nd := sc_law_book.nd
 have kt : KT K := ⟨⟩
 refine' ⟨_, ?a, ?b⟩
 case a =>
   show PSs _ (_ :: _) _
   walk_at "h all"
 case b =>
   intro C hC
   subst hC
   unfold Mir.mbwbook
   walk_at "m all"
theorem sc_law_cord : FnScope ["script", "most", "letters", "cell", "found", "many", "j"] ["script", "most"] (defScope s_law_cord) := ⟨rfl, rfl, rfl, by decide +kernel, rfl, by decide +kernel, by decide +kernel⟩
theorem ok_law_cord {f : Addr} {fd : FuncData} (F : Fun K "_law_cord" "_law_cord" s_law_cord f fd) (G_law_cell : FnG P w K mg base "_law_cell" 1 ["script", "k"] (Mir.spP K Mir.mlwcell)) (G_law_letters : FnG P w K mg base "_law_letters" 2 ["script"] (Mir.spP K Mir.mlwletters)) (b_int : mg "int" = none) (b_len : mg "len" = none) (b_range : mg "range" = none) : FnOk P w K mg base CX0 3 f fd ["script", "most"] (Mir.spP K Mir.mlwcord) := by
 refine Mir.fn_pureE (md := Mir.mdwcord) (mb := Mir.mbwcord) (n := 7) (np := 2) F sc_law_cord rfl rfl rfl rfl rfl ?_
 intro cdv A outer s H E hr
 have nd := sc_law_cord.nd
 have kt : KT K := ⟨⟩
 refine' ⟨_, ?a, ?b⟩
 case a =>
   show PSs _ (_ :: _) _
   walk_at "h all"
 case b =>
   intro C hC
   subst hC
   unfold Mir.mbwcord
   walk_at "m all"
theorem sc_law_due : FnScope ["book", "cord", "hoop", "inner", "free", "ends", "bends", "found", "x", "y", "u", "v", "cost"] ["book", "cord", "hoop", "inner", "free"] (defScope s_law_due) := ⟨rfl, rfl, rfl, by decide +kernel, rfl, by decide +kernel, by decide +kernel⟩
theorem ok_law_due {f : Addr} {fd : FuncData} (F : Fun K "_law_due" "_law_due" s_law_due f fd) (b_len : mg "len" = none) (b_list : mg "list" = none) (b_range : mg "range" = none) (b_sum : mg "sum" = none) : FnOk P w K mg base CX0 1 f fd ["book", "cord", "hoop", "inner", "free"] (Mir.spP K Mir.mlwdue) := by
 refine Mir.fn_pureE (md := Mir.mdwdue) (mb := Mir.mbwdue) (n := 13) (np := 5) F sc_law_due rfl rfl rfl rfl rfl ?_
 intro cdv A outer s H E hr
 have nd := sc_law_due.nd
 have kt : KT K := ⟨⟩
 refine' ⟨_, ?a, ?b⟩
 case a =>
   show PSs _ (_ :: _) _
   walk_at "h all"
 case b =>
   intro C hC
   subst hC
   unfold Mir.mbwdue
   walk_at "m all"
theorem sc_law_inner : FnScope ["cell", "i", "j", "inner", "at", "n", "first", "second"] ["cell", "i", "j"] (defScope s_law_inner) := ⟨rfl, rfl, rfl, by decide +kernel, rfl, by decide +kernel, by decide +kernel⟩
theorem ok_law_inner {f : Addr} {fd : FuncData} (F : Fun K "_law_inner" "_law_inner" s_law_inner f fd) (b_int : mg "int" = none) (b_range : mg "range" = none) : FnOk P w K mg base CX0 1 f fd ["cell", "i", "j"] (Mir.spP K Mir.mlwinner) := by
 refine Mir.fn_pureE (md := Mir.mdwinner) (mb := Mir.mbwinner) (n := 8) (np := 3) F sc_law_inner rfl rfl rfl rfl rfl ?_
 intro cdv A outer s H E hr
 have nd := sc_law_inner.nd
 have kt : KT K := ⟨⟩
 refine' ⟨_, ?a, ?b⟩
 case a =>
   show PSs _ (_ :: _) _
   walk_at "h all"
 case b =>
   intro C hC
   subst hC
   unfold Mir.mbwinner
   walk_at "m all"
theorem sc_law_right : FnScope ["script", "k", "book", "cord", "cell", "i", "room", "j", "inner", "free", "kept", "letters", "nests", "found"] ["script", "k"] (defScope s_law_right) := ⟨rfl, rfl, rfl, by decide +kernel, rfl, by decide +kernel, by decide +kernel⟩
theorem ok_law_right {f : Addr} {fd : FuncData} (F : Fun K "_law_right" "_law_right" s_law_right f fd) (G_ring_price : FnG P w K mg base "ring_price" 3 ["book", "cord", "hoop", "inner", "free"] (Mir.spP K Mir.m_ring_price)) (G_law_cell : FnG P w K mg base "_law_cell" 1 ["script", "k"] (Mir.spP K Mir.mlwcell)) (G_law_letters : FnG P w K mg base "_law_letters" 2 ["script"] (Mir.spP K Mir.mlwletters)) (G_law_book : FnG P w K mg base "_law_book" 3 ["script"] (Mir.spP K Mir.mlwbook)) (G_law_cord : FnG P w K mg base "_law_cord" 3 ["script", "most"] (Mir.spP K Mir.mlwcord)) (G_law_due : FnG P w K mg base "_law_due" 1 ["book", "cord", "hoop", "inner", "free"] (Mir.spP K Mir.mlwdue)) (G_law_inner : FnG P w K mg base "_law_inner" 1 ["cell", "i", "j"] (Mir.spP K Mir.mlwinner)) (b_bool : mg "bool" = none) (b_int : mg "int" = none) (b_isinstance : mg "isinstance" = none) (b_len : mg "len" = none) (b_list : mg "list" = none) (b_sum : mg "sum" = none) (b_tuple : mg "tuple" = none) : FnOk P w K mg base CX0 4 f fd ["script", "k"] (Mir.spP K Mir.mlwright) := by
 refine Mir.fn_pureE (md := Mir.mdwright) (mb := Mir.mbwright) (n := 14) (np := 2) F sc_law_right rfl rfl rfl rfl rfl ?_
 intro cdv A outer s H E hr
 have nd := sc_law_right.nd
 have kt : KT K := ⟨⟩
 refine' ⟨_, ?a, ?b⟩
 case a =>
   show PSs _ (_ :: _) _
   walk_at "h all"
 case b =>
   intro C hC
   subst hC
   unfold Mir.mbwright
   walk_at "m all"
theorem sc_law : FnScope ["script"] ["script"] (defScope s_law) := ⟨rfl, rfl, rfl, by decide +kernel, rfl, by decide +kernel, by decide +kernel⟩
theorem ok_law {f : Addr} {fd : FuncData} (F : Fun K "law" "law" s_law f fd) (G_law_right : FnG P w K mg base "_law_right" 4 ["script", "k"] (Mir.spP K Mir.mlwright)) (b_range : mg "range" = none) (okl : ∀ ns : List Int, ns.length <= 63 -> Mir.m_law [.scr ns] = some (.d (.bl true))) : FnOk P w K mg base CX0 5 f fd ["script"] (Mir.spLawM K) := by
 refine Mir.fn_lawE (md := Mir.md_law) (mb := Mir.mb_law) (n := 1) F sc_law rfl rfl rfl rfl okl ?_
 intro cdv A outer s H E hr
 have nd := sc_law.nd
 have kt : KT K := ⟨⟩
 refine' ⟨_, ?a, ?b⟩
 case a =>
   show PSs _ (_ :: _) _
   walk_at "h all"
 case b =>
   intro C hC
   subst hC
   unfold Mir.mb_law
   walk_at "m all"
end
theorem all_mk {l : PySem.W.OpenLaw} {w : World} {K : PySem.W.Frag} {h : Heap} {mg : Str -> Option Value} {fa f0 f1 f2 f3 f4 f5 f6 f7 f8 f9 f10 f11 f12 f13 : Addr} (X : K.In h) (G : h.Ns mainGlobals mg) (hfa : mg "law" = some (.ref fa))
   {od0 an0 od1 an1 od2 an2 od3 an3 od4 an4 od5 an5 od6 an6 od7 an7 od8 an8 od9 an9 od10 an10 od11 an11 od12 an12 od13 an13 : Option Addr} {sl0 sl1 sl2 sl3 sl4 sl5 sl6 sl7 sl8 sl9 sl10 sl11 sl12 sl13 : Array (Option Value)} {oc0 kV0 dc0 pm0 cd0 ct0 oc1 kV1 dc1 pm1 cd1 ct1 oc2 kV2 dc2 pm2 cd2 ct2 oc3 kV3 dc3 pm3 cd3 ct3 oc4 kV4 dc4 pm4 cd4 ct4 oc5 kV5 dc5 pm5 cd5 ct5 oc6 kV6 dc6 pm6 cd6 ct6 oc7 kV7 dc7 pm7 cd7 ct7 oc8 kV8 dc8 pm8 cd8 ct8 oc9 kV9 dc9 pm9 cd9 ct9 oc10 kV10 dc10 pm10 cd10 ct10 oc11 kV11 dc11 pm11 cd11 ct11 oc12 kV12 dc12 pm12 cd12 ct12 oc13 kV13 dc13 pm13 cd13 ct13 : Value}
   (a0 : PySem.W.nsIn K mainGlobals "nest_price" = some (some (.ref f0))) (l0 : K.lookup f0 = some ⟨oc0, od0, .func (PySem.W.fnOf "nest_price" "nest_price" (defArgs s_nest_price) (defBody s_nest_price) (defScope s_nest_price) .none kV0 dc0 pm0 an0 cd0 ct0), sl0⟩) (c0 : PySem.W.codeIn K cd0 "nest_price" = true) (k0 : PySem.W.keepIn K (.ref f0) = true)
   (a1 : PySem.W.nsIn K mainGlobals "end_price" = some (some (.ref f1))) (l1 : K.lookup f1 = some ⟨oc1, od1, .func (PySem.W.fnOf "end_price" "end_price" (defArgs s_end_price) (defBody s_end_price) (defScope s_end_price) .none kV1 dc1 pm1 an1 cd1 ct1), sl1⟩) (c1 : PySem.W.codeIn K cd1 "end_price" = true) (k1 : PySem.W.keepIn K (.ref f1) = true)
   (a2 : PySem.W.nsIn K mainGlobals "step_price" = some (some (.ref f2))) (l2 : K.lookup f2 = some ⟨oc2, od2, .func (PySem.W.fnOf "step_price" "step_price" (defArgs s_step_price) (defBody s_step_price) (defScope s_step_price) .none kV2 dc2 pm2 an2 cd2 ct2), sl2⟩) (c2 : PySem.W.codeIn K cd2 "step_price" = true) (k2 : PySem.W.keepIn K (.ref f2) = true)
   (a3 : PySem.W.nsIn K mainGlobals "fork_price" = some (some (.ref f3))) (l3 : K.lookup f3 = some ⟨oc3, od3, .func (PySem.W.fnOf "fork_price" "fork_price" (defArgs s_fork_price) (defBody s_fork_price) (defScope s_fork_price) .none kV3 dc3 pm3 an3 cd3 ct3), sl3⟩) (c3 : PySem.W.codeIn K cd3 "fork_price" = true) (k3 : PySem.W.keepIn K (.ref f3) = true)
   (a4 : PySem.W.nsIn K mainGlobals "ring_price" = some (some (.ref f4))) (l4 : K.lookup f4 = some ⟨oc4, od4, .func (PySem.W.fnOf "ring_price" "ring_price" (defArgs s_ring_price) (defBody s_ring_price) (defScope s_ring_price) .none kV4 dc4 pm4 an4 cd4 ct4), sl4⟩) (c4 : PySem.W.codeIn K cd4 "ring_price" = true) (k4 : PySem.W.keepIn K (.ref f4) = true)
   (a5 : PySem.W.nsIn K mainGlobals "_law_cell" = some (some (.ref f5))) (l5 : K.lookup f5 = some ⟨oc5, od5, .func (PySem.W.fnOf "_law_cell" "_law_cell" (defArgs s_law_cell) (defBody s_law_cell) (defScope s_law_cell) .none kV5 dc5 pm5 an5 cd5 ct5), sl5⟩) (c5 : PySem.W.codeIn K cd5 "_law_cell" = true) (k5 : PySem.W.keepIn K (.ref f5) = true)
   (a6 : PySem.W.nsIn K mainGlobals "_law_prices" = some (some (.ref f6))) (l6 : K.lookup f6 = some ⟨oc6, od6, .func (PySem.W.fnOf "_law_prices" "_law_prices" (defArgs s_law_prices) (defBody s_law_prices) (defScope s_law_prices) .none kV6 dc6 pm6 an6 cd6 ct6), sl6⟩) (c6 : PySem.W.codeIn K cd6 "_law_prices" = true) (k6 : PySem.W.keepIn K (.ref f6) = true)
   (a7 : PySem.W.nsIn K mainGlobals "_law_letters" = some (some (.ref f7))) (l7 : K.lookup f7 = some ⟨oc7, od7, .func (PySem.W.fnOf "_law_letters" "_law_letters" (defArgs s_law_letters) (defBody s_law_letters) (defScope s_law_letters) .none kV7 dc7 pm7 an7 cd7 ct7), sl7⟩) (c7 : PySem.W.codeIn K cd7 "_law_letters" = true) (k7 : PySem.W.keepIn K (.ref f7) = true)
   (a8 : PySem.W.nsIn K mainGlobals "_law_book" = some (some (.ref f8))) (l8 : K.lookup f8 = some ⟨oc8, od8, .func (PySem.W.fnOf "_law_book" "_law_book" (defArgs s_law_book) (defBody s_law_book) (defScope s_law_book) .none kV8 dc8 pm8 an8 cd8 ct8), sl8⟩) (c8 : PySem.W.codeIn K cd8 "_law_book" = true) (k8 : PySem.W.keepIn K (.ref f8) = true)
   (a9 : PySem.W.nsIn K mainGlobals "_law_cord" = some (some (.ref f9))) (l9 : K.lookup f9 = some ⟨oc9, od9, .func (PySem.W.fnOf "_law_cord" "_law_cord" (defArgs s_law_cord) (defBody s_law_cord) (defScope s_law_cord) .none kV9 dc9 pm9 an9 cd9 ct9), sl9⟩) (c9 : PySem.W.codeIn K cd9 "_law_cord" = true) (k9 : PySem.W.keepIn K (.ref f9) = true)
   (a10 : PySem.W.nsIn K mainGlobals "_law_due" = some (some (.ref f10))) (l10 : K.lookup f10 = some ⟨oc10, od10, .func (PySem.W.fnOf "_law_due" "_law_due" (defArgs s_law_due) (defBody s_law_due) (defScope s_law_due) .none kV10 dc10 pm10 an10 cd10 ct10), sl10⟩) (c10 : PySem.W.codeIn K cd10 "_law_due" = true) (k10 : PySem.W.keepIn K (.ref f10) = true)
   (a11 : PySem.W.nsIn K mainGlobals "_law_inner" = some (some (.ref f11))) (l11 : K.lookup f11 = some ⟨oc11, od11, .func (PySem.W.fnOf "_law_inner" "_law_inner" (defArgs s_law_inner) (defBody s_law_inner) (defScope s_law_inner) .none kV11 dc11 pm11 an11 cd11 ct11), sl11⟩) (c11 : PySem.W.codeIn K cd11 "_law_inner" = true) (k11 : PySem.W.keepIn K (.ref f11) = true)
   (a12 : PySem.W.nsIn K mainGlobals "_law_right" = some (some (.ref f12))) (l12 : K.lookup f12 = some ⟨oc12, od12, .func (PySem.W.fnOf "_law_right" "_law_right" (defArgs s_law_right) (defBody s_law_right) (defScope s_law_right) .none kV12 dc12 pm12 an12 cd12 ct12), sl12⟩) (c12 : PySem.W.codeIn K cd12 "_law_right" = true) (k12 : PySem.W.keepIn K (.ref f12) = true)
   (a13 : PySem.W.nsIn K mainGlobals "law" = some (some (.ref f13))) (l13 : K.lookup f13 = some ⟨oc13, od13, .func (PySem.W.fnOf "law" "law" (defArgs s_law) (defBody s_law) (defScope s_law) .none kV13 dc13 pm13 an13 cd13 ct13), sl13⟩) (c13 : PySem.W.codeIn K cd13 "law" = true) (k13 : PySem.W.keepIn K (.ref f13) = true)
   (z_bool : PySem.W.nsIn K mainGlobals "bool" = some none)
   (z_int : PySem.W.nsIn K mainGlobals "int" = some none)
   (z_isinstance : PySem.W.nsIn K mainGlobals "isinstance" = some none)
   (z_len : PySem.W.nsIn K mainGlobals "len" = some none)
   (z_list : PySem.W.nsIn K mainGlobals "list" = some none)
   (z_min : PySem.W.nsIn K mainGlobals "min" = some none)
   (z_range : PySem.W.nsIn K mainGlobals "range" = some none)
   (z_sum : PySem.W.nsIn K mainGlobals "sum" = some none)
   (z_tuple : PySem.W.nsIn K mainGlobals "tuple" = some none)
   : ∃ fd : FuncData, (∀ (s : Shared) (v : Value), BindsTo s fd ⟨[v], []⟩ [("script", v)]) /\ ∀ base : Heap, K.In base -> base.Ns mainGlobals mg -> FnOk l.prog w K mg base CX0 5 fa fd ["script"] (Mir.spLawM K) := by
 have e := hfa.symm.trans (PySem.W.mg_of X G a13)
 cases e
 have b_bool : mg "bool" = none := PySem.W.mg_none_of X G z_bool
 have b_int : mg "int" = none := PySem.W.mg_none_of X G z_int
 have b_isinstance : mg "isinstance" = none := PySem.W.mg_none_of X G z_isinstance
 have b_len : mg "len" = none := PySem.W.mg_none_of X G z_len
 have b_list : mg "list" = none := PySem.W.mg_none_of X G z_list
 have b_min : mg "min" = none := PySem.W.mg_none_of X G z_min
 have b_range : mg "range" = none := PySem.W.mg_none_of X G z_range
 have b_sum : mg "sum" = none := PySem.W.mg_none_of X G z_sum
 have b_tuple : mg "tuple" = none := PySem.W.mg_none_of X G z_tuple
 have F0 := fun_mk (st := s_nest_price) l0 c0 k0
 have d0 := F0.binds (ps := ["book", "x", "y", "u", "v"]) fun _ _ _ _ _ _ us hl => match us, hl with | [_, _, _, _, _], _ => rfl
 have F1 := fun_mk (st := s_end_price) l1 c1 k1
 have d1 := F1.binds (ps := ["book", "free"]) fun _ _ _ _ _ _ us hl => match us, hl with | [_, _], _ => rfl
 have F2 := fun_mk (st := s_step_price) l2 c2 k2
 have d2 := F2.binds (ps := ["book", "cord", "hoop", "inner", "free"]) fun _ _ _ _ _ _ us hl => match us, hl with | [_, _, _, _, _], _ => rfl
 have F3 := fun_mk (st := s_fork_price) l3 c3 k3
 have d3 := F3.binds (ps := ["book", "many", "free"]) fun _ _ _ _ _ _ us hl => match us, hl with | [_, _, _], _ => rfl
 have F4 := fun_mk (st := s_ring_price) l4 c4 k4
 have d4 := F4.binds (ps := ["book", "cord", "hoop", "inner", "free"]) fun _ _ _ _ _ _ us hl => match us, hl with | [_, _, _, _, _], _ => rfl
 have F5 := fun_mk (st := s_law_cell) l5 c5 k5
 have d5 := F5.binds (ps := ["script", "k"]) fun _ _ _ _ _ _ us hl => match us, hl with | [_, _], _ => rfl
 have F6 := fun_mk (st := s_law_prices) l6 c6 k6
 have d6 := F6.binds (ps := ["script", "k", "many"]) fun _ _ _ _ _ _ us hl => match us, hl with | [_, _, _], _ => rfl
 have F7 := fun_mk (st := s_law_letters) l7 c7 k7
 have d7 := F7.binds (ps := ["script"]) fun _ _ _ _ _ _ us hl => match us, hl with | [_], _ => rfl
 have F8 := fun_mk (st := s_law_book) l8 c8 k8
 have d8 := F8.binds (ps := ["script"]) fun _ _ _ _ _ _ us hl => match us, hl with | [_], _ => rfl
 have F9 := fun_mk (st := s_law_cord) l9 c9 k9
 have d9 := F9.binds (ps := ["script", "most"]) fun _ _ _ _ _ _ us hl => match us, hl with | [_, _], _ => rfl
 have F10 := fun_mk (st := s_law_due) l10 c10 k10
 have d10 := F10.binds (ps := ["book", "cord", "hoop", "inner", "free"]) fun _ _ _ _ _ _ us hl => match us, hl with | [_, _, _, _, _], _ => rfl
 have F11 := fun_mk (st := s_law_inner) l11 c11 k11
 have d11 := F11.binds (ps := ["cell", "i", "j"]) fun _ _ _ _ _ _ us hl => match us, hl with | [_, _, _], _ => rfl
 have F12 := fun_mk (st := s_law_right) l12 c12 k12
 have d12 := F12.binds (ps := ["script", "k"]) fun _ _ _ _ _ _ us hl => match us, hl with | [_, _], _ => rfl
 have F13 := fun_mk (st := s_law) l13 c13 k13
 refine ⟨PySem.W.fnOf "law" "law" (defArgs s_law) (defBody s_law) (defScope s_law) .none kV13 dc13 pm13 an13 cd13 ct13, fun s v => .of_eq rfl, fun base _ _ => ?_⟩
 have G_nest_price : FnG l.prog w K mg base "nest_price" 1 ["book", "x", "y", "u", "v"] (Mir.spP K Mir.m_nest_price) := ⟨f0, _, ok_nest_price F0 , PySem.W.mg_of X G a0, k0, d0⟩
 have G_end_price : FnG l.prog w K mg base "end_price" 1 ["book", "free"] (Mir.spP K Mir.m_end_price) := ⟨f1, _, ok_end_price F1 b_len b_min, PySem.W.mg_of X G a1, k1, d1⟩
 have G_fork_price : FnG l.prog w K mg base "fork_price" 1 ["book", "many", "free"] (Mir.spP K Mir.m_fork_price) := ⟨f3, _, ok_fork_price F3 , PySem.W.mg_of X G a3, k3, d3⟩
 have G_law_cell : FnG l.prog w K mg base "_law_cell" 1 ["script", "k"] (Mir.spP K Mir.mlwcell) := ⟨f5, _, ok_law_cell F5 b_len, PySem.W.mg_of X G a5, k5, d5⟩
 have G_law_due : FnG l.prog w K mg base "_law_due" 1 ["book", "cord", "hoop", "inner", "free"] (Mir.spP K Mir.mlwdue) := ⟨f10, _, ok_law_due F10 b_len b_list b_range b_sum, PySem.W.mg_of X G a10, k10, d10⟩
 have G_law_inner : FnG l.prog w K mg base "_law_inner" 1 ["cell", "i", "j"] (Mir.spP K Mir.mlwinner) := ⟨f11, _, ok_law_inner F11 b_int b_range, PySem.W.mg_of X G a11, k11, d11⟩
 have G_step_price : FnG l.prog w K mg base "step_price" 2 ["book", "cord", "hoop", "inner", "free"] (Mir.spP K Mir.m_step_price) := ⟨f2, _, ok_step_price F2 G_nest_price b_len b_min, PySem.W.mg_of X G a2, k2, d2⟩
 have G_law_prices : FnG l.prog w K mg base "_law_prices" 2 ["script", "k", "many"] (Mir.spP K Mir.mlwprices) := ⟨f6, _, ok_law_prices F6 G_law_cell b_int b_range b_tuple, PySem.W.mg_of X G a6, k6, d6⟩
 have G_law_letters : FnG l.prog w K mg base "_law_letters" 2 ["script"] (Mir.spP K Mir.mlwletters) := ⟨f7, _, ok_law_letters F7 G_law_cell b_range, PySem.W.mg_of X G a7, k7, d7⟩
 have G_ring_price : FnG l.prog w K mg base "ring_price" 3 ["book", "cord", "hoop", "inner", "free"] (Mir.spP K Mir.m_ring_price) := ⟨f4, _, ok_ring_price F4 G_end_price G_step_price G_fork_price b_len, PySem.W.mg_of X G a4, k4, d4⟩
 have G_law_book : FnG l.prog w K mg base "_law_book" 3 ["script"] (Mir.spP K Mir.mlwbook) := ⟨f8, _, ok_law_book F8 G_law_cell G_law_prices G_law_letters b_int b_len b_range b_tuple, PySem.W.mg_of X G a8, k8, d8⟩
 have G_law_cord : FnG l.prog w K mg base "_law_cord" 3 ["script", "most"] (Mir.spP K Mir.mlwcord) := ⟨f9, _, ok_law_cord F9 G_law_cell G_law_letters b_int b_len b_range, PySem.W.mg_of X G a9, k9, d9⟩
 have G_law_right : FnG l.prog w K mg base "_law_right" 4 ["script", "k"] (Mir.spP K Mir.mlwright) := ⟨f12, _, ok_law_right F12 G_ring_price G_law_cell G_law_letters G_law_book G_law_cord G_law_due G_law_inner b_bool b_int b_isinstance b_len b_list b_sum b_tuple, PySem.W.mg_of X G a12, k12, d12⟩
 exact ok_law F13 G_law_right b_range Mir.law_true
theorem scr_of {K : PySem.W.Frag} {H : Hp} {a : Addr} {ns : List Int} (hO : L2.Only H) (h : SqL K H a (ns.map V.int)) : Mir.ScrAt K H a ns := by
 rcases h with (h | h) | h
 · rcases hO a with z | ⟨o, xs, z⟩
   · rw [h] at z; cases z
   · rw [h] at z; cases z
 · exact .inl h
 · exact .inr h
theorem walk {l : PySem.W.OpenLaw} {q : Program} {loose : List Str} {XP : (Str -> Option Value) -> Heap -> Prop} {YP : World -> Heap -> Prop} {d : DefRec} {K : Params -> PySem.W.Frag} (hn : l.most = some 63) (hdf : d.params.defaults = [])
   (hY : ∀ (w : World) (h : Heap), YP w h -> (K w.params).In h)
   (F : ∀ (w : World) (mg : Str -> Option Value) (fa : Addr) (h : Heap), (K w.params).In h -> h.Ns mainGlobals mg -> mg d.name = some (.ref fa) ->
     ∃ fd : FuncData, (∀ (s : Shared) (u : Value), BindsTo s fd ⟨[u], []⟩ [("script", u)]) /\ ∀ base : Heap, (K w.params).In base -> base.Ns mainGlobals mg -> FnOk l.prog w (K w.params) mg base CX0 5 fa fd ["script"] (Mir.spLawM (K w.params))) :
   PySem.W.WalkO q loose XP YP l.row.toRowW d [] (fun f vs => PySem.call f vs) :=
 L2.walk_of (n := 63) (k := 5) (x := "script") (CX := fun _ => CX0) (sp := fun w => Mir.spLawM (K w.params)) hn (by decide) hdf ⟨rfl, by decide, by decide⟩ hY F (fun _ _ a ns hl hO hS => ⟨a, ns, rfl, scr_of hO hS, hl, fun _ => rfl⟩) fun _ _ _ _ _ z => z
end My
open PySem PySem.W PyProof.Rows
set_option maxRecDepth 100000 in
set_option maxHeartbeats 0 in
theorem PySem.Challenge.cw_hoopcord_k15_what_rings_add_holds : PySem.Challenge.rw_hoopcord_k15_what_rings_add.Holds := by
 w_on; o_law; k_head; (case hw => w_witness2)
 k_fill
 refine My.walk (l := PySem.Challenge.rw_hoopcord_k15_what_rings_add) rfl rfl (fun w h Y => PySem.W.kIn_of Y) ?F
 case F =>
   intro w mg fa h KX G hmg
   refine' My.all_mk KX G hmg ?a0 ?l0 ?c0 ?k0 ?a1 ?l1 ?c1 ?k1 ?a2 ?l2 ?c2 ?k2 ?a3 ?l3 ?c3 ?k3 ?a4 ?l4 ?c4 ?k4 ?a5 ?l5 ?c5 ?k5 ?a6 ?l6 ?c6 ?k6 ?a7 ?l7 ?c7 ?k7 ?a8 ?l8 ?c8 ?k8 ?a9 ?l9 ?c9 ?k9 ?a10 ?l10 ?c10 ?k10 ?a11 ?l11 ?c11 ?k11 ?a12 ?l12 ?c12 ?k12 ?a13 ?l13 ?c13 ?k13 ?z_bool ?z_int ?z_isinstance ?z_len ?z_list ?z_min ?z_range ?z_sum ?z_tuple
   (case a0 => k_is); (case l0 => k_is); (case c0 => k_is); (case k0 => k_is); (case a1 => k_is); (case l1 => k_is); (case c1 => k_is); (case k1 => k_is); (case a2 => k_is); (case l2 => k_is); (case c2 => k_is); (case k2 => k_is); (case a3 => k_is); (case l3 => k_is); (case c3 => k_is); (case k3 => k_is); (case a4 => k_is); (case l4 => k_is); (case c4 => k_is); (case k4 => k_is); (case a5 => k_is); (case l5 => k_is); (case c5 => k_is); (case k5 => k_is); (case a6 => k_is); (case l6 => k_is); (case c6 => k_is); (case k6 => k_is); (case a7 => k_is); (case l7 => k_is); (case c7 => k_is); (case k7 => k_is); (case a8 => k_is); (case l8 => k_is); (case c8 => k_is); (case k8 => k_is); (case a9 => k_is); (case l9 => k_is); (case c9 => k_is); (case k9 => k_is); (case a10 => k_is); (case l10 => k_is); (case c10 => k_is); (case k10 => k_is); (case a11 => k_is); (case l11 => k_is); (case c11 => k_is); (case k11 => k_is); (case a12 => k_is); (case l12 => k_is); (case c12 => k_is); (case k12 => k_is); (case a13 => k_is); (case l13 => k_is); (case c13 => k_is); (case k13 => k_is); (case z_bool => k_is); (case z_int => k_is); (case z_isinstance => k_is); (case z_len => k_is); (case z_list => k_is); (case z_min => k_is); (case z_range => k_is); (case z_sum => k_is); (case z_tuple => k_is)
