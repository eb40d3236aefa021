import PyProof.Rows.All
import Wide.All
import OpenK.AllK
import Wide.FinOn
import Lean
import PyProof.EqAt
import PyProof.EqKinds
import PyProof.TupleCall
import PySem.Challenge.RW_seekhall_k24_units_to_a_standstill
set_option Elab.async false
set_option linter.all false
set_option maxRecDepth 100000
namespace L2
open PySem PySem.Spec PyProof.Rows
noncomputable abbrev Key := Sum Int Str
noncomputable def keyIs : Key → Value → Bool
  | .inl k, v => Value.isInt k v
  | .inr x, v => Value.isStrOf x v
noncomputable def keyH (w : World) : Key → Int
  | .inl k => hashInt k
  | .inr x => hashStr w x
theorem keyIs_shape : ∀ {k : Key} {v : Value}, keyIs k v = true → (∃ i t, k = Sum.inl i ∧ v = Value.int i t) ∨ (∃ x t, k = Sum.inr x ∧ v = Value.str x t)
  | .inl i, v, h => by
    obtain ⟨t, e⟩ := Value.isInt_shape (k := i) (v := v) h
    exact .inl ⟨i, t, rfl, e⟩
  | .inr x, v, h => by
    obtain ⟨t, e⟩ := Value.isStrOf_shape (x := x) (v := v) h
    exact .inr ⟨x, t, rfl, e⟩
theorem keyIs_int (i : Int) (t : Tok) : keyIs (.inl i) (.int i t) = true := by simp [keyIs, Value.isInt]
theorem keyIs_str (x : Str) (t : Tok) : keyIs (.inr x) (.str x t) = true := by simp [keyIs, Value.isStrOf]
theorem key_ll (a b : Int) : decide ((Sum.inl a : Key) = Sum.inl b) = (a == b) := by
  by_cases e : a = b
  · subst e; simp
  · have h : ¬ (Sum.inl a : Key) = Sum.inl b := fun q => e (Sum.inl.inj q)
    rw [decide_eq_false h]
    exact (beq_eq_false_iff_ne.mpr e).symm
theorem key_rr (a b : Str) : decide ((Sum.inr a : Key) = Sum.inr b) = decide (a = b) := by
  by_cases e : a = b
  · subst e; simp
  · have h : ¬ (Sum.inr a : Key) = Sum.inr b := fun q => e (Sum.inr.inj q)
    rw [decide_eq_false h, decide_eq_false e]
theorem key_lr (a : Int) (b : Str) : decide ((Sum.inl a : Key) = Sum.inr b) = false := decide_eq_false (fun q => nomatch q)
theorem key_rl (a : Str) (b : Int) : decide ((Sum.inr a : Key) = Sum.inl b) = false := decide_eq_false (fun q => nomatch q)
noncomputable def mixKind (prog : Program) (w : World) : PySem.KeyKind prog w Key where
  is := keyIs
  hash := keyH w
  inj := fun v a b ha hb => by
    rcases keyIs_shape ha with ⟨i, t, rfl, rfl⟩ | ⟨x, t, rfl, rfl⟩
    · rcases keyIs_shape hb with ⟨j, u, rfl, e⟩ | ⟨y, u, rfl, e⟩
      · injection e with e1 _; rw [e1]
      · exact nomatch e
    · rcases keyIs_shape hb with ⟨j, u, rfl, e⟩ | ⟨y, u, rfl, e⟩
      · exact nomatch e
      · injection e with e1 _; rw [e1]
  byValue := fun k v h => by
    rcases keyIs_shape h with ⟨i, t, rfl, rfl⟩ | ⟨x, t, rfl, rfl⟩ <;> rfl
  pyHash := fun hv h => by
    rcases keyIs_shape hv with ⟨i, t, rfl, rfl⟩ | ⟨x, t, rfl, rfl⟩
    · exact wpAny_pyHash_int h
    · exact wpAny_pyHash_str h
  eqBool := fun hu hv h => by
    rcases keyIs_shape hu with ⟨i, t, rfl, rfl⟩ | ⟨x, t, rfl, rfl⟩
    · rcases keyIs_shape hv with ⟨j, u, rfl, rfl⟩ | ⟨y, u, rfl, rfl⟩
      · rw [key_ll] at h; exact wpAny_eqBool_int h
      · rw [key_lr] at h; exact SeqAt.EqAt.int_str i t y u _ _ _ _ h
    · rcases keyIs_shape hv with ⟨j, u, rfl, rfl⟩ | ⟨y, u, rfl, rfl⟩
      · rw [key_rl] at h; exact SeqAt.EqAt.str_int x t j u _ _ _ _ h
      · rw [key_rr] at h; exact wpAny_eqBool_str h
  «strs» := fun k x t v h => by
    rcases keyIs_shape h with ⟨i, u, rfl, e⟩ | ⟨y, u, rfl, e⟩
    · exact nomatch e
    · injection e with e1 _
      subst e1
      cases v <;> rfl
theorem mixKind_int (prog : Program) (w : World) (i : Int) (t : Tok) : (mixKind prog w).is (.inl i) (.int i t) = true := keyIs_int i t
theorem mixKind_str (prog : Program) (w : World) (x : Str) (t : Tok) : (mixKind prog w).is (.inr x) (.str x t) = true := keyIs_str x t
end L2
namespace L2
open PySem PySem.Spec PyProof.Rows
inductive V where
  | non | bl (b : Bool) | int (i : Int) | str (x : Str) | byt (b : Array UInt8) | flt (b : UInt64) | ref (a : Addr) | ty (n : String)
  deriving DecidableEq
noncomputable def RelV : V → Value → Prop
  | .non, u => u = Value.none
  | .bl b, u => u = Value.bool b
  | .int i, u => ∃ t, u = Value.int i t
  | .str x, u => ∃ t, u = Value.str x t
  | .byt b, u => ∃ t, u = Value.bytes b t
  | .flt b, u => ∃ t, u = Value.float b t
  | .ref a, u => u = Value.ref a
  | .ty n, u => u = Value.type n
noncomputable abbrev Vals : List V → List Value → Prop := Paired RelV
theorem Vals.length {xs : List V} {us : List Value} (r : Vals xs us) : xs.length = us.length := Paired.length r
theorem Vals.get : ∀ {xs : List V} {us : List Value} {i : Nat} {x : V}, Vals xs us → xs[i]? = some x → ∃ u, us[i]? = some u ∧ RelV x u
  | _, _, _, _, .nil, e => by simp at e
  | _, _, 0, _, .cons r _, e => by simp at e; subst e; exact ⟨_, rfl, r⟩
  | _, _, i + 1, x, .cons _ t, e => by
    obtain ⟨u, h1, h2⟩ := Vals.get (i := i) (x := x) t (by simpa using e)
    exact ⟨u, by simpa using h1, h2⟩
theorem Vals.set {x : V} {u : Value} (r : RelV x u) : ∀ {xs : List V} {us : List Value} (i : Nat), Vals xs us → Vals (xs.set i x) (us.set i u)
  | _, _, _, .nil => .nil
  | _, _, 0, .cons _ t => .cons r t
  | _, _, i + 1, .cons q t => .cons q (Vals.set r i t)
theorem Vals.append : ∀ {xs ys : List V} {us ws : List Value}, Vals xs us → Vals ys ws → Vals (xs ++ ys) (us ++ ws)
  | _, _, _, _, .nil, s => s
  | _, _, _, _, .cons r t, s => .cons r (Vals.append t s)
theorem Vals.take : ∀ {xs : List V} {us : List Value} (n : Nat), Vals xs us → Vals (xs.take n) (us.take n)
  | _, _, 0, _ => .nil
  | _, _, _ + 1, .nil => .nil
  | _, _, n + 1, .cons r t => .cons r (Vals.take n t)
theorem Vals.drop : ∀ {xs : List V} {us : List Value} (n : Nat), Vals xs us → Vals (xs.drop n) (us.drop n)
  | _, _, 0, r => r
  | _, _, _ + 1, .nil => .nil
  | _, _, n + 1, .cons _ t => Vals.drop n t
noncomputable def RelO : Option V → Option Value → Prop
  | some v, some u => RelV v u
  | none, none => True
  | _, _ => False
noncomputable def KV {κ : Type} : List (κ × V) → List (κ × Value) → Prop := Paired fun (p : κ × V) (q : κ × Value) => p.1 = q.1 ∧ RelV p.2 q.2
noncomputable def kV : Key → V
  | .inl i => .int i
  | .inr x => .str x
inductive HO where
  /-- a list -/
  | lst (xs : List V)
  /-- a tuple (never changes) -/
  | tup (xs : List V)
  /-- a dict whose keys are ints and texts; one whose keys are tuples of ints and texts (the empty one is both) -/
  | dK (kvs : List (Key × V)) | dT (kvs : List (List Key × V))
  /-- a set of ints: its members, its size -/
  | set (S : Int → Bool) (n : Nat)
  /-- an instance of the class at C, its dict at dx, its attributes -/
  | ins (C dx : Addr) (fs : List (Str × V))
  /-- the dict of the instance at x -/
  | own (x : Addr)
  /-- the dict of an exception -/
  | xd (fs : List (Str × V))
  /-- a bound method, f of x -/
  | met (f x : Addr)
  /-- a range object lo, lo + 1, .. below hi -/
  | rng (lo hi : Int)
  /-- a thing that is known to the object (the script; a dict while a loop walks it): read, never written while it is so -/
  | frz (o : Obj) (u : HO)
  /-- a code object's table -/
  | tbl (ps : Array Value)
  /-- any other thing, by what is true of its one object (a def of one's own: SetO a S n := HO.ext fun h => ..) -/
  | ext (φ : Heap → Prop)
noncomputable abbrev Hp := Addr → Option HO
noncomputable def upd (H : Hp) (a : Addr) (o : HO) : Hp := fun b => if b = a then some o else H b
theorem upd_same {H : Hp} {a : Addr} {o : HO} : upd H a o a = some o := by unfold upd; rw [if_pos rfl]
theorem upd_ne {H : Hp} {a b : Addr} {o : HO} (h : b ≠ a) : upd H a o b = H b := by unfold upd; rw [if_neg h]
theorem upd_upd {H : Hp} {a : Addr} {o u : HO} : upd (upd H a o) a u = upd H a u := by
  funext b; unfold upd; split <;> rfl
theorem ne_of {H : Hp} {a b : Addr} {o u : HO} (h : H a = some o) (h' : H b = some u) (d : o ≠ u) : a ≠ b := by
  intro e; subst e; rw [h] at h'; exact d (Option.some.inj h')
theorem ne_of_none {H : Hp} {a b : Addr} {o : HO} (h : H a = some o) (h' : H b = none) : a ≠ b := by
  intro e; subst e; rw [h] at h'; cases h'
section
variable (P : Program) (w : World)
noncomputable def ObjOk (H : Hp) (h : Heap) (a : Addr) : HO → Prop
  | .lst xs => xs.length ≤ sizeLine ∧ ∃ (its : List Value) (n : Nat), Vals xs its ∧ h.get? a = some { cls := .type "list", data := .seq its.toArray n }
  | .tup xs => xs.length ≤ sizeLine ∧ ∃ its : List Value, Vals xs its ∧ IsTup h a its.toArray
  | .dK kvs => kvs.length ≤ sizeLine ∧ (a == sysModules) = false ∧ ∃ vs, KV kvs vs ∧ h.DictOf (mixKind P w) a vs
  | .dT kvs => kvs.length ≤ sizeLine ∧ (a == sysModules) = false ∧ ∃ xs : List (List Key × Addr × Value),
      Paired (fun (p : List Key × V) (q : List Key × Addr × Value) => p.1 = q.1 ∧ H q.2.1 = some (.tup (p.1.map kV)) ∧ RelV p.2 q.2.2) kvs xs ∧
      ∃ o es ep, h.get? a = some o ∧ o.ExactDict ∧ o.data = .dict es ep ∧ es.toList = xs.map (entryOfKey (tupleKind (mixKind P w))) ∧ (xs.map (·.1)).Nodup
  | .set S n => h.SetOf (intKind P w) a S n
  | .ins C dx fs => H dx = some (.own a) ∧ fs.length ≤ 1000 ∧ dx ≠ a ∧ h.get? a = some (PySem.W.instObj C dx) ∧
      ∃ mA, h.Ns1 dx mA ∧ (∀ f, RelO (fs.lookup f) (mA f)) ∧ PySem.Within mA (fs.map (·.1))
  | .own _ => ∃ o, h.get? a = some o
  | .xd fs => ∃ mA, h.Ns1 a mA ∧ ∀ f, RelO (fs.lookup f) (mA f)
  | .rng lo hi => ∃ t u v, h.get? a = some { cls := .type "range", data := .fields #[.int lo t, .int hi u, .int 1 v] }
  | .frz o u => h.get? a = some o ∧ ObjOk H h a u
  | .tbl ps => h.get? a = some { cls := .none, data := .fields ps }
  | .met f x => h.get? a = some (PySem.W.methodObj (.ref f) (.ref x))
  | .ext φ => φ h ∧ (∃ o, h.get? a = some o) ∧ ∀ h1 h2 : Heap, φ h1 → (∀ o, h1.get? a = some o → h2.get? a = some o) → φ h2
noncomputable def HOk (H : Hp) (h : Heap) : Prop := ∀ a o, H a = some o → ObjOk P w H h a o
end
section
variable {P : Program} {w : World} {H H' : Hp} {h h' : Heap} {a : Addr} {o : HO}
theorem ObjOk.lt (x : ObjOk P w H h a o) : a < h.objs.size := by
  cases o with
  | lst xs => obtain ⟨_, _, _, _, e⟩ := x; exact Heap.lt_size e
  | tup xs => obtain ⟨_, _, _, p⟩ := x; exact p.lt
  | dK kvs => obtain ⟨_, _, _, _, o, _, _, e, _⟩ := x; exact Heap.lt_size e
  | dT kvs => obtain ⟨_, _, _, _, o, _, _, e, _⟩ := x; exact Heap.lt_size e
  | set S n => obtain ⟨o, _, _, _, e, _⟩ := x; exact Heap.lt_size e
  | ins C dx fs => obtain ⟨_, _, _, e, _⟩ := x; exact Heap.lt_size e
  | own y => obtain ⟨_, e⟩ := x; exact Heap.lt_size e
  | xd fs => obtain ⟨_, ⟨_, _, _, e, _⟩, _⟩ := x; exact Heap.lt_size e
  | rng lo hi => obtain ⟨_, _, _, e⟩ := x; exact Heap.lt_size e
  | frz ob u => obtain ⟨e, _⟩ := x; exact Heap.lt_size e
  | tbl ps => exact Heap.lt_size (show h.get? a = some _ from x)
  | met f y => exact Heap.lt_size (show h.get? a = some _ from x)
  | ext φ => obtain ⟨_, ⟨_, e⟩, _⟩ := x; exact Heap.lt_size e
theorem Paired.mapP {α β : Type} {F G : α → β → Prop} : ∀ {l₁ : List α} {l₂ : List β}, Paired F l₁ l₂ → (∀ a b, F a b → G a b) → Paired G l₁ l₂
  | _, _, .nil, _ => .nil
  | _, _, .cons r t, f => .cons (f _ _ r) (Paired.mapP t f)
theorem ObjOk.stay (x : ObjOk P w H h a o) (k : ∀ b u, (b = a ∨ H b = some (.own a)) → h.get? b = some u → h'.get? b = some u)
    (ho : ∀ b, H b = some (.own a) → H' b = some (.own a)) (ht : ∀ b xs, H b = some (.tup xs) → H' b = some (.tup xs)) : ObjOk P w H' h' a o := by
  induction o with
  | lst xs => obtain ⟨z, its, n, r, e⟩ := x; exact ⟨z, its, n, r, k _ _ (.inl rfl) e⟩
  | tup xs => obtain ⟨z, its, r, ob, e, c⟩ := x; exact ⟨z, its, r, ob, k _ _ (.inl rfl) e, c⟩
  | dK kvs => obtain ⟨z, y, vs, r, ob, es, ep, e, c⟩ := x; exact ⟨z, y, vs, r, ob, es, ep, k _ _ (.inl rfl) e, c⟩
  | dT kvs =>
    obtain ⟨z, y, xs, r, ob, es, ep, e, c⟩ := x
    exact ⟨z, y, xs, Paired.mapP r fun p q z => ⟨z.1, ht _ _ z.2.1, z.2.2⟩, ob, es, ep, k _ _ (.inl rfl) e, c⟩
  | set S n => obtain ⟨ob, es, ep, t, e, c⟩ := x; exact ⟨ob, es, ep, t, k _ _ (.inl rfl) e, c⟩
  | ins C dx fs =>
    obtain ⟨d, z, ne, e, mA, ⟨od, es, ep, e2, c⟩, r⟩ := x
    exact ⟨ho _ d, z, ne, k _ _ (.inl rfl) e, mA, ⟨od, es, ep, k _ _ (.inr d) e2, c⟩, r⟩
  | own y => obtain ⟨ob, e⟩ := x; exact ⟨ob, k _ _ (.inl rfl) e⟩
  | xd fs => obtain ⟨mA, ⟨od, es, ep, e, c⟩, r⟩ := x; exact ⟨mA, ⟨od, es, ep, k _ _ (.inl rfl) e, c⟩, r⟩
  | rng lo hi => obtain ⟨t, u, v, e⟩ := x; exact ⟨t, u, v, k _ _ (.inl rfl) e⟩
  | frz ob u ih => obtain ⟨e, q⟩ := x; exact ⟨k _ _ (.inl rfl) e, ih q⟩
  | tbl ps =>
    have e : h.get? a = some { cls := .none, data := .fields ps } := x
    show h'.get? a = some { cls := .none, data := .fields ps }
    exact k a _ (.inl rfl) e
  | met f y =>
    have e : h.get? a = some (PySem.W.methodObj (.ref f) (.ref y)) := x
    show h'.get? a = some (PySem.W.methodObj (.ref f) (.ref y))
    exact k a _ (.inl rfl) e
  | ext φ => obtain ⟨p, ⟨o, e⟩, st⟩ := x; exact ⟨st _ _ p fun o q => k _ _ (.inl rfl) q, ⟨o, k _ _ (.inl rfl) e⟩, st⟩
theorem HOk.lt (x : HOk P w H h) (e : H a = some o) : a < h.objs.size := (x a o e).lt
theorem HOk.fresh (x : HOk P w H h) (e : h.objs.size ≤ a) : H a = none := by
  cases q : H a with
  | none => rfl
  | some u => exact absurd (Nat.lt_of_lt_of_le (x.lt q) e) (Nat.lt_irrefl _)
theorem HOk.kept (x : HOk P w H h) (k : ∀ b u, h.get? b = some u → h'.get? b = some u) : HOk P w H h' := fun a o e =>
  (x a o e).stay (fun b u _ q => k b u q) (fun _ q => q) fun _ _ q => q
theorem HOk.laid (x : HOk P w H h) (k : ∀ b u, h.get? b = some u → h'.get? b = some u) (hp : h.objs.size ≤ a) (new : ObjOk P w (upd H a o) h' a o) : HOk P w (upd H a o) h' := fun b u e => by
  have hn := x.fresh hp
  by_cases hb : b = a
  · subst hb; rw [upd_same] at e; cases e; exact new
  · rw [upd_ne hb] at e
    exact (x b u e).stay (fun c v _ q => k c v q) (fun c q => by rw [upd_ne (ne_of_none q hn)]; exact q) fun c xs q => by rw [upd_ne (ne_of_none q hn)]; exact q
end
noncomputable def Rd (H : Hp) (a : Addr) (u : HO) : Prop := H a = some u ∨ ∃ o, H a = some (.frz o u)
theorem Rd.of {H : Hp} {a : Addr} {u : HO} (h : H a = some u) : Rd H a u := .inl h
theorem Rd.ok {P : Program} {w : World} {H : Hp} {h : Heap} {a : Addr} {u : HO} (r : Rd H a u) (x : HOk P w H h) : ObjOk P w H h a u := by
  rcases r with r | ⟨o, r⟩
  · exact x a u r
  · obtain ⟨_, q⟩ := x a _ r
    exact q
noncomputable def Mut : Option HO → Prop
  | some (.lst _) => True
  | some (.dK _) => True
  | some (.dT _) => True
  | some (.set _ _) => True
  | some (.ins _ _ _) => True
  | some (.ext _) => True
  | _ => False
section
variable {P : Program} {w : World} {H : Hp} {h h' : Heap} {x e : Addr} {o' : HO}
theorem HOk.write (ok : HOk P w H h) (mu : Mut (H x)) (he : e = x ∨ H e = some (.own x)) (k : ∀ b u, b ≠ e → h.get? b = some u → h'.get? b = some u) (heo : ∃ u, h'.get? e = some u)
    (new : ObjOk P w (upd H x o') h' x o') : HOk P w (upd H x o') h' := fun b u q => by
  have nown : ∀ c y, H c = some (.own y) → c ≠ x := fun c y r z => by subst z; rw [r] at mu; exact mu
  have ntup : ∀ c xs, H c = some (.tup xs) → c ≠ x := fun c xs r z => by subst z; rw [r] at mu; exact mu
  by_cases hb : b = x
  · subst hb; rw [upd_same] at q; cases q; exact new
  · rw [upd_ne hb] at q
    by_cases hbe : b = e
    · have q' : H b = some (.own x) := by
        rcases he with z | z
        · exact absurd (hbe.trans z) hb
        · rw [hbe]; exact z
      rw [q] at q'; cases q'
      obtain ⟨v, hv⟩ := heo
      exact ⟨v, by rw [hbe]; exact hv⟩
    · refine (ok b u q).stay (fun c v hc r => k c v ?_ r) (fun c r => by rw [upd_ne (nown c b r)]; exact r) fun c xs r => by rw [upd_ne (ntup c xs r)]; exact r
      rcases hc with rfl | hc
      · exact hbe
      · rintro rfl
        rcases he with z | z
        · exact nown c b hc z
        · rw [hc] at z; cases z; exact hb rfl
end
structure Un (fs ex : List Addr) (H H' : Hp) (h h' : Heap) : Prop where
  keep : ∀ b o, h.get? b = some o → H b = none → b ∉ fs → b ∉ ex → h'.get? b = some o
  slot : ∀ b o, h.get? b = some o → H b = none → b ∈ fs → b ∉ ex → ∃ sl, h'.get? b = some { o with slots := sl }
  free : ∀ b o, h.get? b = some o → H b = none → b ∉ ex → H' b = none
  there : ∀ b o, h.get? b = some o → b ∉ ex → ∃ o', h'.get? b = some o'
  tups : ∀ b xs, H b = some (.tup xs) → H' b = some (.tup xs)
  frzs : ∀ b o u, H b = some (.frz o u) → H' b = some (.frz o u)
  tbls : ∀ b ps, H b = some (.tbl ps) → ∃ more, H' b = some (.tbl (ps ++ more))
section
variable {fs fs' ex ex' : List Addr} {H H1 H2 : Hp} {h h1 h2 h' : Heap} {a x e : Addr} {o : HO}
theorem Un.any (u : Un fs ex H H1 h h1) {b : Addr} {ob : Obj} (q : h.get? b = some ob) (n : H b = none) (hx : b ∉ ex) : ∃ sl, h1.get? b = some { ob with slots := sl } := by
  by_cases hb : b ∈ fs
  · exact u.slot b ob q n hb hx
  · exact ⟨ob.slots, u.keep b ob q n hb hx⟩
theorem Un.trans (a : Un fs ex H H1 h h1) (b : Un fs ex H1 H2 h1 h2) : Un fs ex H H2 h h2 where
  keep := fun c ob q n hc hx => b.keep c ob (a.keep c ob q n hc hx) (a.free c ob q n hx) hc hx
  slot := fun c ob q n hc hx => by
    obtain ⟨sl, e1⟩ := a.slot c ob q n hc hx
    obtain ⟨sl', e2⟩ := b.slot c _ e1 (a.free c ob q n hx) hc hx
    exact ⟨sl', e2⟩
  free := fun c ob q n hx => by
    obtain ⟨o', e1⟩ := a.there c ob q hx
    exact b.free c o' e1 (a.free c ob q n hx) hx
  there := fun c ob q hx => by
    obtain ⟨o', e1⟩ := a.there c ob q hx
    exact b.there c o' e1 hx
  tups := fun c xs q => b.tups c xs (a.tups c xs q)
  frzs := fun c ob xs q => b.frzs c ob xs (a.frzs c ob xs q)
  tbls := fun c ps q => by
    obtain ⟨m1, e1⟩ := a.tbls c ps q
    obtain ⟨m2, e2⟩ := b.tbls c _ e1
    exact ⟨m1 ++ m2, by rw [e2, Array.append_assoc]⟩
theorem Un.kept (k : ∀ b u, h.get? b = some u → h'.get? b = some u) : Un fs ex H H h h' :=
  ⟨fun b ob q _ _ _ => k b ob q, fun b ob q _ _ _ => ⟨ob.slots, k b ob q⟩, fun _ _ _ n _ => n, fun b ob q _ => ⟨ob, k b ob q⟩, fun _ _ q => q, fun _ _ _ q => q, fun _ ps q => ⟨#[], by rw [q]; simp⟩⟩
theorem Un.refl : Un fs ex H H h h := Un.kept fun _ _ q => q
theorem Un.laid (k : ∀ b u, h.get? b = some u → h'.get? b = some u) (hp : h.objs.size ≤ a) (hn : H a = none) : Un fs ex H (upd H a o) h h' where
  keep := fun b u q _ _ _ => k b u q
  slot := fun b u q _ _ _ => ⟨u.slots, k b u q⟩
  free := fun b u q n _ => by rw [upd_ne (Nat.ne_of_lt (Nat.lt_of_lt_of_le (Heap.lt_size q) hp))]; exact n
  there := fun b u q _ => ⟨u, k b u q⟩
  tups := fun b xs q => by rw [upd_ne (ne_of_none q hn)]; exact q
  frzs := fun b u xs q => by rw [upd_ne (ne_of_none q hn)]; exact q
  tbls := fun b ps q => ⟨#[], by rw [upd_ne (ne_of_none q hn), q]; simp⟩
theorem Un.write (mu : Mut (H x)) (he : e = x ∨ H e = some (.own x)) (k : ∀ b u, b ≠ e → h.get? b = some u → h'.get? b = some u) (heo : ∃ u, h'.get? e = some u) : Un fs ex H (upd H x o) h h' := by
  have hx : ∀ b, H b = none → b ≠ x := fun b n z => by subst z; rw [n] at mu; exact mu
  have hb : ∀ b, H b = none → b ≠ e := fun b n z => by
    subst z
    rcases he with r | r
    · exact hx b n r
    · rw [n] at r; cases r
  have hm : ∀ b u, H b = some u → ¬ Mut (some u) → b ≠ x := fun b u q nm z => by subst z; rw [q] at mu; exact nm mu
  refine ⟨fun b u q n _ _ => k b u (hb b n) q, fun b u q n _ _ => ⟨u.slots, k b u (hb b n) q⟩, fun b u q n _ => by rw [upd_ne (hx b n)]; exact n, fun b u q _ => ?_,
    fun b xs q => by rw [upd_ne (hm b _ q fun z => z)]; exact q, fun b u xs q => by rw [upd_ne (hm b _ q fun z => z)]; exact q, fun b ps q => ⟨#[], by rw [upd_ne (hm b _ q fun z => z), q]; simp⟩⟩
  by_cases hbe : b = e
  · subst hbe; exact heo
  · exact ⟨u, k b u hbe q⟩
end
noncomputable def trk (h : Heap) (H : Hp) : List Addr := (List.range h.objs.size).filter fun a => (H a).isSome
noncomputable def hidT (h : Heap) (H : Hp) : Heap := PySem.W.hideAll h (trk h H)
theorem hidT_size (h : Heap) (H : Hp) : (hidT h H).objs.size = h.objs.size := PySem.W.hideAll_size _ _
theorem hidT_get {h : Heap} {H : Hp} {b : Addr} {o : Obj} (e : h.get? b = some o) (n : H b = none) : (hidT h H).get? b = some o :=
  PySem.W.hideAll_get _ e fun hm => by
    have q : (H b).isSome = true := (List.mem_filter.mp hm).2
    rw [n] at q; simp at q
theorem of_hidT {h : Heap} {H : Hp} {b : Addr} {o : Obj} (e : (hidT h H).get? b = some o) : h.get? b = some o ∧ H b = none := by
  have e' : h.get? b = some o := PySem.W.of_hideAll (trk h H) e
  refine ⟨e', ?_⟩
  cases q : H b with
  | none => rfl
  | some x =>
    have hm : b ∈ trk h H := List.mem_filter.mpr ⟨List.mem_range.mpr (Heap.lt_size e'), by simp [q]⟩
    have z : (hidT h H).get? b = none := PySem.W.hideAll_none (trk h H) hm
    rw [z] at e; cases e
end L2
namespace L2
open PySem PySem.Spec PyProof.Rows
structure Mod (K : PySem.W.Frag) (mg : Str → Option Value) (base : Heap) : Prop where
  kin : K.In base
  glob : base.Ns mainGlobals mg
  blt : ∃ mb, base.Ns builtinsNs mb ∧ ∀ x : Str, x ≠ "__name__" → mb x = bootBuiltins x
  nolimit : base.NoLimit
structure Cx where
  prog : Program
  w : World
  K : PySem.W.Frag
  mg : Str → Option Value
  base : Heap
  A : Around
  N : List Str
  s₀ : Shared
  H₀ : Hp
  env : Env
  outer : List Env
  stack : List Env
  ex : List Addr
  fn : Str → Bool
  calm : Bool
  pn : List (Addr × Obj)
  xe : Value → Shared → Prop
noncomputable def frs (l : List Env) : List Addr := l.filterMap (·.frame)
noncomputable abbrev Cx.fs (X : Cx) : List Addr := frs X.outer
noncomputable def Vis (sc : Scope) (x : Str) : Prop := sc.names.lookup x = some .local ∨ sc.names.lookup x = some .cell ∨ sc.names.lookup x = some .free
noncomputable def Loc (sc : Scope) (x : Str) : Prop := sc.names.lookup x = some .local ∨ sc.names.lookup x = some .cell
noncomputable def Look (env : Env) (h : Heap) (m : Str → Option Value) (x : Str) (u : Value) : Prop :=
  (env.kindOf x = some .local ∧ m x = some u) ∨ ((env.kindOf x = some .cell ∨ env.kindOf x = some .free) ∧ ∃ c, env.cells.lookup x = some c ∧ h.IsCell c (some u))
structure Cx.Ok (X : Cx) : Prop where
  mod : Mod X.K X.mg X.base
  kind : X.env.scope.kind = .function
  glob : X.env.globals = mainGlobals
  blt : X.env.builtins = builtinsNs
  above : X.s₀.heap.objs.size ≤ X.env.locals
  inj : ∀ x y c, X.env.cells.lookup x = some c → X.env.cells.lookup y = some c → x = y
  has : ∀ x, (X.env.kindOf x = some .cell ∨ X.env.kindOf x = some .free) → ∃ c, X.env.cells.lookup x = some c
  cab : ∀ x c, X.fn x = true → X.env.cells.lookup x = some c → X.s₀.heap.objs.size ≤ c
  hd : X.calm = true → X.A.handled = none
  frames : X.A.frames = some X.stack
  stk : X.stack = X.outer ∨ (X.stack = X.env :: X.outer ∧ X.env.frame = some X.env.locals)
  exf : ∀ b ∈ X.ex, b ≠ X.env.locals ∧ ∀ x c, X.env.cells.lookup x = some c → c ≠ b
  bs : ∀ b o, X.base.get? b = some o → X.s₀.heap.get? b = some o ∧ X.H₀ b = none
  bsz : X.base.objs.size ≤ X.s₀.heap.objs.size
  noex : ∀ b o, X.base.get? b = some o → b ∉ X.ex
  exfs : ∀ b ∈ X.ex, b ∉ X.fs
  funs : X.s₀.heap.FunFrames X.base X.outer
  frf : ∀ b ∈ X.fs, X.H₀ b = none
structure Inv (X : Cx) (pins : List (Addr × Obj)) (σ : List (Option V)) (H : Hp) (s : Shared) : Prop where
  ok : X.Ok
  os : s.os = X.s₀.os
  bare : AllBare s.gens
  base : Un X.fs X.ex X.H₀ H X.s₀.heap s.heap
  loc : ∃ m, s.heap.Ns X.env.locals m ∧ ∀ (i : Nat) (x : Str) (v : V), X.N[i]? = some x → σ[i]? = some (some v) → Vis X.env.scope x → ∃ u, RelV v u ∧ Look X.env s.heap m x u
  cell : ∀ x c, X.env.cells.lookup x = some c → ∃ v, s.heap.IsCell c v
  free : H X.env.locals = none
  freeC : ∀ x c, X.env.cells.lookup x = some c → H c = none
  pin : ∀ p ∈ X.pn ++ pins, s.heap.get? p.1 = some p.2 ∧ H p.1 = none ∧ p.1 ≠ X.env.locals ∧ p.1 ∉ X.fs ∧ ∀ v, p.2.data ≠ .cell v
  hok : HOk X.prog X.w H s.heap
  len : σ.length = X.N.length
section
variable {X : Cx} {pins : List (Addr × Obj)} {σ : List (Option V)} {H H' : Hp} {s : Shared} {h' : Heap}
theorem Cx.Ok.nofr (ok : X.Ok) {b : Addr} {o : Obj} (e : X.base.get? b = some o) : b ∉ X.fs := fun hb => by
  have := (ok.funs.mem hb).1
  rw [e] at this; cases this
theorem Inv.bs (I : Inv X pins σ H s) : ∀ b o, X.base.get? b = some o → s.heap.get? b = some o ∧ H b = none := fun b o e =>
  ⟨I.base.keep b o (I.ok.bs b o e).1 (I.ok.bs b o e).2 (I.ok.nofr e) (I.ok.noex b o e), I.base.free b o (I.ok.bs b o e).1 (I.ok.bs b o e).2 (I.ok.noex b o e)⟩
theorem Inv.bk (I : Inv X pins σ H s) : ∀ b o, X.base.get? b = some o → s.heap.get? b = some o := fun b o e => (I.bs b o e).1
theorem Inv.mod (I : Inv X pins σ H s) : Mod X.K X.mg X.base := I.ok.mod
theorem Inv.kIn (I : Inv X pins σ H s) : X.K.In s.heap := I.ok.mod.kin.keeps I.bk
theorem Inv.lt (I : Inv X pins σ H s) : X.env.locals < s.heap.objs.size := let ⟨_, hn, _⟩ := I.loc; hn.lt
theorem Inv.sz (I : Inv X pins σ H s) : X.s₀.heap.objs.size ≤ s.heap.objs.size := Nat.le_trans I.ok.above (Nat.le_of_lt I.lt)
theorem Inv.nofs (I : Inv X pins σ H s) {a : Addr} (h : s.heap.objs.size ≤ a) : a ∉ X.fs := fun hb => by
  obtain ⟨_, o, ho, _⟩ := I.ok.funs.mem hb
  exact absurd (Nat.lt_of_lt_of_le (Heap.lt_size ho) (Nat.le_trans I.sz h)) (Nat.lt_irrefl _)
theorem Inv.cne (I : Inv X pins σ H s) : ∀ x c, X.env.cells.lookup x = some c → c ≠ X.env.locals := fun x c e z => by
  obtain ⟨v, o, ho, hd⟩ := I.cell x c e
  obtain ⟨m, ⟨o', es, ep, ho', hd', _⟩, _⟩ := I.loc
  rw [z, ho'] at ho; cases ho; rw [hd'] at hd; cases hd
theorem Inv.funs (I : Inv X pins σ H s) : s.heap.FunFrames X.base X.outer := by
  have all : ∀ (l : List Env), (∀ b ∈ frs l, b ∈ X.fs) → X.s₀.heap.FunFrames X.base l → s.heap.FunFrames X.base l := by
    intro l
    induction l with
    | nil => intro _ _; trivial
    | cons env r ih =>
      intro hs hl
      obtain ⟨hk, ⟨L, o, hf, hn, ho, hd⟩, hr⟩ := hl
      have hL : L ∈ X.fs := hs L (by unfold frs; rw [List.filterMap_cons, hf]; exact List.mem_cons_self)
      obtain ⟨sl, e⟩ := I.base.slot L o ho (I.ok.frf L hL) hL fun z => I.ok.exfs L z hL
      exact ⟨hk, ⟨L, _, hf, hn, e, hd⟩, ih (fun b hb => hs b (by unfold frs; rw [List.filterMap_cons, hf]; exact List.mem_cons_of_mem _ hb)) hr⟩
  exact all X.outer (fun _ hb => hb) I.ok.funs
theorem Inv.stack (I : Inv X pins σ H s) : s.heap.FunFrames X.base X.stack := by
  rcases I.ok.stk with e | ⟨e, hf⟩
  · rw [e]; exact I.funs
  · rw [e]
    obtain ⟨m, hn, _⟩ := I.loc
    refine .cons (by rw [I.ok.kind]; decide) hf hn ?_ I.funs
    exact Heap.get?_none_of_le (Nat.le_trans I.ok.bsz I.ok.above)
theorem Inv.stkSub (I : Inv X pins σ H s) : ∀ b ∈ frs X.stack, b ∈ X.env.locals :: X.fs := fun b hb => by
  rcases I.ok.stk with e | ⟨e, hf⟩
  · rw [e] at hb; exact List.mem_cons_of_mem _ hb
  · rw [e] at hb
    unfold frs at hb
    rw [List.filterMap_cons, hf] at hb
    exact hb
theorem Inv.stkFree (I : Inv X pins σ H s) : ∀ b ∈ frs X.stack, H b = none := fun b hb => by
  rcases List.mem_cons.mp (I.stkSub b hb) with e | hb
  · rw [e]; exact I.free
  · obtain ⟨_, o, ho, _⟩ := I.ok.funs.mem hb
    exact I.base.free b o ho (I.ok.frf b hb) fun z => I.ok.exfs b z hb
theorem Inv.step {g' : Array GenState} {t' : Nat} {d' : Drawn} {ch : List Addr} (I : Inv X pins σ H s)
    (hch : ∀ b ∈ ch, (b ∈ X.ex ∨ X.s₀.heap.objs.size ≤ b) ∧ b ≠ X.env.locals ∧ (∀ x c, X.env.cells.lookup x = some c → c ≠ b) ∧ ∀ p ∈ X.pn ++ pins, p.1 ≠ b)
    (keep : ∀ b o, b ≠ X.env.locals → b ∉ X.fs → b ∉ ch → s.heap.get? b = some o → H b = none → h'.get? b = some o)
    (slot : ∀ b o, b ≠ X.env.locals → b ∈ X.fs → b ∉ ch → s.heap.get? b = some o → H b = none → ∃ sl, h'.get? b = some { o with slots := sl }) (free : ∀ b o, b ∉ ch → s.heap.get? b = some o → H b = none → H' b = none)
    (there : ∀ b o, b ∉ ch → s.heap.get? b = some o → ∃ o', h'.get? b = some o')
    (tups : ∀ b xs, H b = some (.tup xs) → H' b = some (.tup xs)) (frzs : ∀ b o u, H b = some (.frz o u) → H' b = some (.frz o u)) (tbls : ∀ b ps, H b = some (.tbl ps) → ∃ more, H' b = some (.tbl (ps ++ more)))
    (ns : ∀ m, s.heap.Ns X.env.locals m → h'.Ns X.env.locals m) (hok : HOk X.prog X.w H' h') (hg : AllBare g') :
    Inv X pins σ H' { s with heap := h', gens := g', drawn := d', toks := t' } := by
  have neL : ∀ b o, X.s₀.heap.get? b = some o → b ≠ X.env.locals := fun b o e => Nat.ne_of_lt (Nat.lt_of_lt_of_le (Heap.lt_size e) I.ok.above)
  have neC : ∀ b o, X.s₀.heap.get? b = some o → b ∉ X.ex → b ∉ ch := fun b o e hx hb => by
    rcases (hch b hb).1 with z | z
    · exact hx z
    · exact absurd (Nat.lt_of_lt_of_le (Heap.lt_size e) z) (Nat.lt_irrefl _)
  have cellK : ∀ x c, X.env.cells.lookup x = some c → ∀ v, s.heap.IsCell c v → h'.IsCell c v := fun x c e v ⟨o, ho, hd⟩ => by
    have nch : c ∉ ch := fun z => (hch c z).2.2.1 x c e rfl
    by_cases hc : c ∈ X.fs
    · obtain ⟨sl, q⟩ := slot c o (I.cne x c e) hc nch ho (I.freeC x c e)
      exact ⟨_, q, hd⟩
    · exact ⟨o, keep c o (I.cne x c e) hc nch ho (I.freeC x c e), hd⟩
  refine ⟨I.ok, I.os, hg, ⟨fun b o e n hb hx => ?_, fun b o e n hb hx => ?_, fun b o e n hx => ?_, fun b o e hx => ?_, fun b xs e => tups b xs (I.base.tups b xs e), fun b o xs e => frzs b o xs (I.base.frzs b o xs e), fun b ps e => ?_⟩, ?_, fun x c e => ?_, ?_, fun x c e => ?_, fun p hp => ?_, hok, I.len⟩
  · exact keep b o (neL b o e) hb (neC b o e hx) (I.base.keep b o e n hb hx) (I.base.free b o e n hx)
  · obtain ⟨sl, e1⟩ := I.base.slot b o e n hb hx
    obtain ⟨sl', e2⟩ := slot b _ (neL b o e) hb (neC b o e hx) e1 (I.base.free b o e n hx)
    exact ⟨sl', e2⟩
  · obtain ⟨o', e1⟩ := I.base.there b o e hx
    exact free b o' (neC b o e hx) e1 (I.base.free b o e n hx)
  · obtain ⟨o', e1⟩ := I.base.there b o e hx
    exact there b o' (neC b o e hx) e1
  · obtain ⟨m1, e1⟩ := I.base.tbls b ps e
    obtain ⟨m2, e2⟩ := tbls b _ e1
    exact ⟨m1 ++ m2, by rw [e2, Array.append_assoc]⟩
  · obtain ⟨m, hn, hl⟩ := I.loc
    refine ⟨m, ns m hn, fun i x v e1 e2 e3 => ?_⟩
    obtain ⟨u, r, l⟩ := hl i x v e1 e2 e3
    refine ⟨u, r, ?_⟩
    rcases l with l | ⟨k, c, e, z⟩
    · exact .inl l
    · exact .inr ⟨k, c, e, cellK x c e _ z⟩
  · obtain ⟨v, z⟩ := I.cell x c e
    exact ⟨v, cellK x c e v z⟩
  · obtain ⟨m, ⟨o, _, _, ho, _⟩, _⟩ := I.loc
    exact free _ o (fun z => (hch _ z).2.1 rfl) ho I.free
  · obtain ⟨v, o, ho, hd⟩ := I.cell x c e
    exact free c o (fun z => (hch c z).2.2.1 x c e rfl) ho (I.freeC x c e)
  · obtain ⟨e, n, ne, nf, d⟩ := I.pin p hp
    have nch : p.1 ∉ ch := fun z => (hch p.1 z).2.2.2 p hp rfl
    exact ⟨keep p.1 p.2 ne nf nch e n, free p.1 p.2 nch e n, ne, nf, d⟩
theorem Inv.un {t' : Nat} (I : Inv X pins σ H s) (u : Un X.fs [] H H' s.heap h') (hok : HOk X.prog X.w H' h') : Inv X pins σ H' { s with heap := h', toks := t' } := by
  obtain ⟨m, ⟨o, es, ep, ho, r⟩, _⟩ := id I.loc
  obtain ⟨sl, hL⟩ := u.any ho I.free (by simp)
  exact I.step (g' := s.gens) (d' := s.drawn) (ch := []) (fun _ z => nomatch z) (fun b o _ hb _ e n => u.keep b o e n hb (by simp)) (fun b o _ hb _ e n => u.slot b o e n hb (by simp)) (fun b o _ e n => u.free b o e n (by simp)) (fun b o _ e => u.there b o e (by simp)) u.tups u.frzs u.tbls (fun m' hm => by
    obtain ⟨o', es', ep', ho', r'⟩ := hm
    rw [ho] at ho'; cases ho'
    exact ⟨_, es', ep', hL, r'⟩) hok I.bare
theorem Inv.call {g' : Array GenState} {t' : Nat} {d' : Drawn} {ch : List Addr} (I : Inv X pins σ H s) (u : Un (frs X.stack) ch H H' s.heap h') (hok : HOk X.prog X.w H' h') (hg : AllBare g')
    (hch : ∀ b ∈ ch, (b ∈ X.ex ∨ X.s₀.heap.objs.size ≤ b) ∧ b ≠ X.env.locals ∧ (∀ x c, X.env.cells.lookup x = some c → c ≠ b) ∧ ∀ p ∈ X.pn ++ pins, p.1 ≠ b) :
    Inv X pins σ H' { s with heap := h', gens := g', drawn := d', toks := t' } := by
  obtain ⟨m, ⟨o, es, ep, ho, r⟩, _⟩ := id I.loc
  obtain ⟨sl, hL⟩ := u.any ho I.free fun z => (hch _ z).2.1 rfl
  exact I.step (ch := ch) hch (fun b o hL hb hc e n => u.keep b o e n (fun z => (List.mem_cons.mp (I.stkSub b z)).elim hL hb) hc) (fun b o _ _ hc e n => u.any e n hc) (fun b o hc e n => u.free b o e n hc) (fun b o hc e => u.there b o e hc) u.tups u.frzs u.tbls (fun m' hm => by
    obtain ⟨o', es', ep', ho', r'⟩ := hm
    rw [ho] at ho'; cases ho'
    exact ⟨_, es', ep', hL, r'⟩) hok hg
theorem Inv.turned {t' : Nat} {it : Addr} (I : Inv X pins σ H s) (k : ∀ b o, b ≠ it → s.heap.get? b = some o → h'.get? b = some o) (hn : H it = none) (hL : it ≠ X.env.locals)
    (h1 : it ∈ X.ex ∨ X.s₀.heap.objs.size ≤ it) (h2 : ∀ x c, X.env.cells.lookup x = some c → c ≠ it) (h3 : ∀ p ∈ X.pn ++ pins, p.1 ≠ it) : Inv X pins σ H { s with heap := h', toks := t' } := by
  have nit : ∀ b u, H b = some u → b ≠ it := fun b u e z => by rw [z, hn] at e; cases e
  refine I.step (g' := s.gens) (d' := s.drawn) (ch := [it]) (fun b hb => ?_) (fun b o _ _ hc e _ => k b o (fun z => hc (by simp [z])) e) (fun b o _ _ hc e _ => ⟨o.slots, k b o (fun z => hc (by simp [z])) e⟩) (fun _ _ _ _ n => n)
    (fun b o hc e => ⟨o, k b o (fun z => hc (by simp [z])) e⟩) (fun _ _ e => e) (fun _ _ _ e => e) (fun b ps e => ⟨#[], by rw [e]; simp⟩) (fun m hm => ?_) (fun b u e => ?_) I.bare
  · have e : b = it := by simpa using hb
    subst e
    exact ⟨h1, hL, h2, h3⟩
  · obtain ⟨o, es, ep, ho, r⟩ := hm
    exact ⟨o, es, ep, k _ o (Ne.symm hL) ho, r⟩
  · refine (I.hok b u e).stay (fun c v hc q => k c v ?_ q) (fun _ q => q) fun _ _ q => q
    rcases hc with z | z
    · rw [z]; exact nit b u e
    · exact nit c _ z
theorem Inv.tok (I : Inv X pins σ H s) (t : Nat) : Inv X pins σ H { s with toks := t } := I.un (h' := s.heap) (t' := t) Un.refl I.hok
theorem Inv.kept {t' : Nat} (I : Inv X pins σ H s) (k : ∀ b u, s.heap.get? b = some u → h'.get? b = some u) : Inv X pins σ H { s with heap := h', toks := t' } := I.un (Un.kept k) (I.hok.kept k)
theorem Inv.laid {a : Addr} {o : HO} {t' : Nat} (I : Inv X pins σ H s) (k : ∀ b u, s.heap.get? b = some u → h'.get? b = some u) (hp : s.heap.objs.size ≤ a) (new : ObjOk X.prog X.w (upd H a o) h' a o) :
    Inv X pins σ (upd H a o) { s with heap := h', toks := t' } := I.un (Un.laid k hp (I.hok.fresh hp)) (I.hok.laid k hp new)
theorem Inv.write {x e : Addr} {o : HO} {t' : Nat} (I : Inv X pins σ H s) (mu : Mut (H x)) (he : e = x ∨ H e = some (.own x)) (k : ∀ b u, b ≠ e → s.heap.get? b = some u → h'.get? b = some u) (heo : ∃ u, h'.get? e = some u)
    (new : ObjOk X.prog X.w (upd H x o) h' x o) : Inv X pins σ (upd H x o) { s with heap := h', toks := t' } := I.un (Un.write mu he k heo) (I.hok.write mu he k heo new)
theorem Inv.weak {σ' : List (Option V)} (I : Inv X pins σ H s) (hl : σ'.length = σ.length) (w : ∀ (i : Nat) v, σ'[i]? = some (some v) → σ[i]? = some (some v)) : Inv X pins σ' H s :=
  ⟨I.ok, I.os, I.bare, I.base, let ⟨m, hn, hl'⟩ := I.loc; ⟨m, hn, fun i x v e1 e2 e3 => hl' i x v e1 (w i v e2) e3⟩, I.cell, I.free, I.freeC, I.pin, I.hok, hl.trans I.len⟩
theorem Inv.pins_of {pins' : List (Addr × Obj)} (I : Inv X pins σ H s) (h : ∀ p ∈ pins', s.heap.get? p.1 = some p.2 ∧ H p.1 = none ∧ p.1 ≠ X.env.locals ∧ p.1 ∉ X.fs ∧ ∀ v, p.2.data ≠ .cell v) : Inv X pins' σ H s :=
  ⟨I.ok, I.os, I.bare, I.base, I.loc, I.cell, I.free, I.freeC, fun p hp => (List.mem_append.mp hp).elim (fun z => I.pin p (List.mem_append_left _ z)) (h p), I.hok, I.len⟩
theorem nodup_ix {N : List Str} (hN : N.Nodup) {i j : Nat} {x : Str} (a : N[i]? = some x) (b : N[j]? = some x) : i = j := by
  obtain ⟨h1, e1⟩ := List.getElem?_eq_some_iff.mp a
  obtain ⟨h2, e2⟩ := List.getElem?_eq_some_iff.mp b
  exact (List.getElem_inj hN).mp (e1.trans e2.symm)
theorem store_ok2 {M : Model} {A : Around} {E : Value → Shared → Prop} {i : Nat} {x : Str} {v : V} {u : Value} {Q : Unit → Shared → Prop} (I : Inv X pins σ H s) (hN : X.N.Nodup) (hi : X.N[i]? = some x) (hx : Loc X.env.scope x) (r : RelV v u)
    (h : ∀ s', Inv X pins (σ.set i (some v)) H s' → (∃ a, Heap.SameBut a s.heap s'.heap ∧ (a = X.env.locals ∨ X.env.cells.lookup x = some a)) → Q () s') (hf : X.fn x = true ∨ X.env.scope.names.lookup x = some .local := by first | exact .inl rfl | exact .inr rfl | assumption) : wpAny M A (storeName X.env x u) Q E s := by
  obtain ⟨m, hn, hl⟩ := id I.loc
  have hcls : (X.env.scope.kind == .class || (X.env.scope.kind == .module && X.env.locals != X.env.globals)) = false := by rw [I.ok.kind]; rfl
  have hiσ : i < σ.length := by rw [I.len]; exact (List.getElem?_eq_some_iff.mp hi).1
  have cne := I.cne
  have tracked : ∀ {a : Addr} {h' : Heap}, (∃ o, s.heap.get? a = some o ∧ H a = none) → Heap.SameBut a s.heap h' → HOk X.prog X.w H h' := fun {a h'} ha hs b ob e => by
    obtain ⟨_, _, hfree⟩ := ha
    refine (I.hok b ob e).stay (fun c w' hc q => (hs.2 c ?_).trans q) (fun _ q => q) fun _ _ q => q
    rintro rfl
    rcases hc with rfl | hc
    · rw [hfree] at e; cases e
    · rw [hfree] at hc; cases hc
  rcases hx with hk | hk
  · refine wpAny_storeName_local hk hn (fun h' hn' hs => ?_) hcls
    obtain ⟨oL, _, _, hoL, _⟩ := id hn
    refine h _ ⟨I.ok, I.os, I.bare, ⟨fun b o e n hb hx => ?_, fun b o e n hb hx => ?_, I.base.free, fun b o e hx => ?_, I.base.tups, I.base.frzs, I.base.tbls⟩, ⟨_, hn', fun j y v' e1 e2 e3 => ?_⟩, fun y c e => ?_, I.free, I.freeC, fun p hp => ?_, tracked ⟨oL, hoL, I.free⟩ hs, by simpa using I.len⟩ ⟨_, hs, .inl rfl⟩
    · exact (hs.2 b (Nat.ne_of_lt (Nat.lt_of_lt_of_le (Heap.lt_size e) I.ok.above))).trans (I.base.keep b o e n hb hx)
    · obtain ⟨sl, e1⟩ := I.base.slot b o e n hb hx
      exact ⟨sl, (hs.2 b (Nat.ne_of_lt (Nat.lt_of_lt_of_le (Heap.lt_size e) I.ok.above))).trans e1⟩
    · obtain ⟨o', e1⟩ := I.base.there b o e hx
      exact ⟨o', (hs.2 b (Nat.ne_of_lt (Nat.lt_of_lt_of_le (Heap.lt_size e) I.ok.above))).trans e1⟩
    · by_cases hj : j = i
      · subst hj
        rw [hi] at e1; cases e1
        rw [List.getElem?_set_self hiσ] at e2
        cases e2
        exact ⟨u, r, .inl ⟨hk, by simp⟩⟩
      · rw [List.getElem?_set_ne (Ne.symm hj)] at e2
        obtain ⟨u', r', q⟩ := hl j y v' e1 e2 e3
        refine ⟨u', r', ?_⟩
        rcases q with ⟨k, e⟩ | ⟨k, c, e, z⟩
        · refine .inl ⟨k, ?_⟩
          have : y ≠ x := fun e => hj (nodup_ix hN e1 (e ▸ hi))
          simp [this, e]
        · exact .inr ⟨k, c, e, z.sameBut hs (cne y c e)⟩
    · obtain ⟨w', z⟩ := I.cell y c e
      exact ⟨w', z.sameBut hs (cne y c e)⟩
    · obtain ⟨e, n, ne, nf, d⟩ := I.pin p hp
      exact ⟨(hs.2 p.1 ne).trans e, n, ne, nf, d⟩
  · have hfn : X.fn x = true := by
      rcases hf with z | z
      · exact z
      · rw [z] at hk; cases hk
    obtain ⟨c, hc⟩ := I.ok.has x (.inl hk)
    obtain ⟨w', z⟩ := I.cell x c hc
    refine wpAny_storeName_cell I.ok.kind hk hc z (fun h' hc' hs => ?_)
    obtain ⟨oc, hoc, hocd⟩ := id z
    refine h { s with heap := h' } ⟨I.ok, I.os, I.bare, ⟨fun b o e n hb hx => ?_, fun b o e n hb hx => ?_, I.base.free, fun b o e hx => ?_, I.base.tups, I.base.frzs, I.base.tbls⟩, ⟨m, hn.sameBut hs (Ne.symm (cne x c hc)), fun j y v' e1 e2 e3 => ?_⟩, fun y c' e => ?_, I.free, I.freeC, fun p hp => ?_, tracked ⟨oc, hoc, I.freeC x c hc⟩ hs, by simpa using I.len⟩ ⟨c, hs, .inr hc⟩
    · exact (hs.2 b (Nat.ne_of_lt (Nat.lt_of_lt_of_le (Heap.lt_size e) (I.ok.cab x c hfn hc)))).trans (I.base.keep b o e n hb hx)
    · obtain ⟨sl, e1⟩ := I.base.slot b o e n hb hx
      exact ⟨sl, (hs.2 b (Nat.ne_of_lt (Nat.lt_of_lt_of_le (Heap.lt_size e) (I.ok.cab x c hfn hc)))).trans e1⟩
    · obtain ⟨o', e1⟩ := I.base.there b o e hx
      exact ⟨o', (hs.2 b (Nat.ne_of_lt (Nat.lt_of_lt_of_le (Heap.lt_size e) (I.ok.cab x c hfn hc)))).trans e1⟩
    · by_cases hj : j = i
      · subst hj
        rw [hi] at e1; cases e1
        rw [List.getElem?_set_self hiσ] at e2
        cases e2
        exact ⟨u, r, .inr ⟨.inl hk, c, hc, hc'⟩⟩
      · rw [List.getElem?_set_ne (Ne.symm hj)] at e2
        obtain ⟨u', r', q⟩ := hl j y v' e1 e2 e3
        refine ⟨u', r', ?_⟩
        rcases q with q | ⟨k, c', e, z'⟩
        · exact .inl q
        · refine .inr ⟨k, c', e, z'.sameBut hs ?_⟩
          rintro rfl
          exact hj (nodup_ix hN e1 (I.ok.inj _ _ _ e hc ▸ hi))
    · by_cases hcc : c' = c
      · subst hcc; exact ⟨_, hc'⟩
      · obtain ⟨w2, z2⟩ := I.cell y c' e
        exact ⟨w2, z2.sameBut hs hcc⟩
    · obtain ⟨e, n, ne, nf, d⟩ := I.pin p hp
      refine ⟨(hs.2 p.1 ?_).trans e, n, ne, nf, d⟩
      intro q
      rw [q, hoc] at e
      have q' : oc = p.2 := Option.some.inj e
      exact d w' (by rw [← q']; exact hocd)
theorem store_ok {M : Model} {A : Around} {E : Value → Shared → Prop} {i : Nat} {x : Str} {v : V} {u : Value} {Q : Unit → Shared → Prop} (I : Inv X pins σ H s) (hN : X.N.Nodup) (hi : X.N[i]? = some x) (hx : Loc X.env.scope x) (r : RelV v u)
    (h : ∀ s', Inv X pins (σ.set i (some v)) H s' → Q () s') (hf : X.fn x = true ∨ X.env.scope.names.lookup x = some .local := by first | exact .inl rfl | exact .inr rfl | assumption) : wpAny M A (storeName X.env x u) Q E s :=
  store_ok2 I hN hi hx r (fun s' I' _ => h s' I') hf
theorem Inv.call' {s' : Shared} {ch : List Addr} (I : Inv X pins σ H s) (ho : s'.os = s.os) (u : Un (frs X.stack) ch H H' s.heap s'.heap) (hok : HOk X.prog X.w H' s'.heap) (hg : AllBare s'.gens)
    (hch : ∀ b ∈ ch, (b ∈ X.ex ∨ X.s₀.heap.objs.size ≤ b) ∧ b ≠ X.env.locals ∧ (∀ x c, X.env.cells.lookup x = some c → c ≠ b) ∧ ∀ p ∈ X.pn ++ pins, p.1 ≠ b) : Inv X pins σ H' s' := by
  obtain ⟨h', g', d', t', o'⟩ := s'
  have e : o' = s.os := ho
  subst e
  exact I.call (g' := g') (t' := t') (d' := d') u hok hg hch
end
noncomputable abbrev XK := Value → Option Addr → Hp → Prop
noncomputable abbrev St := List (Option V)
noncomputable abbrev VK := V → Hp → Prop
noncomputable abbrev TE := St → Hp → VK → Prop
noncomputable abbrev TT := St → Hp → (Bool → Hp → Prop) → Prop
noncomputable abbrev TA := St → Hp → (List V → Hp → Prop) → Prop
structure Ends where
  nx : St → Hp → Prop
  rt : VK
  bk : St → Hp → Prop := fun _ _ => False
  ct : St → Hp → Prop := fun _ _ => False
noncomputable abbrev TS := Ends → St → Hp → Prop
noncomputable def EP (X : Cx) (pins : List (Addr × Obj)) (σ : St) (Q : VK) (u : Value) (s' : Shared) : Prop := ∃ v H', Inv X pins σ H' s' ∧ RelV v u ∧ Q v H'
noncomputable def TP (X : Cx) (pins : List (Addr × Obj)) (σ : St) (Q : Bool → Hp → Prop) (b : Bool) (s' : Shared) : Prop := ∃ H', Inv X pins σ H' s' ∧ Q b H'
noncomputable def AP (X : Cx) (pins : List (Addr × Obj)) (σ : St) (Q : List V → Hp → Prop) (us : List Value) (s' : Shared) : Prop := ∃ vs H', Inv X pins σ H' s' ∧ Vals vs us ∧ Q vs H'
noncomputable def SP (X : Cx) (pins : List (Addr × Obj)) (D : Ends) (f : Flow) (s' : Shared) : Prop :=
  match f with
  | .next => ∃ σ' H', Inv X pins σ' H' s' ∧ D.nx σ' H'
  | .brk => ∃ σ' H', Inv X pins σ' H' s' ∧ D.bk σ' H'
  | .cont => ∃ σ' H', Inv X pins σ' H' s' ∧ D.ct σ' H'
  | .ret u => ∃ v σ' H', Inv X pins σ' H' s' ∧ RelV v u ∧ D.rt v H'
noncomputable def PE (X : Cx) (e : Expr) (t : TE) : Prop :=
  ∀ (pins : List (Addr × Obj)) (s : Shared) (σ : St) (H : Hp) (Q : VK), Inv X pins σ H s → t σ H Q → wpAny (model X.prog X.w) X.A (eval e X.env) (EP X pins σ Q) X.xe s
noncomputable def PT (X : Cx) (e : Expr) (t : TT) : Prop :=
  ∀ (pins : List (Addr × Obj)) (s : Shared) (σ : St) (H : Hp) (Q : Bool → Hp → Prop), Inv X pins σ H s → t σ H Q → wpAny (model X.prog X.w) X.A (isTrue e X.env (eval e X.env)) (TP X pins σ Q) X.xe s
noncomputable def PW (X : Cx) (e : Expr) (t : TT) : Prop :=
  ∀ (whole : Sem Value) (pins : List (Addr × Obj)) (s : Shared) (σ : St) (H : Hp) (Q : Bool → Hp → Prop), Inv X pins σ H s → t σ H Q → wpAny (model X.prog X.w) X.A (isTrue e X.env whole) (TP X pins σ Q) X.xe s
theorem PW.pt {X : Cx} {e : Expr} {t : TT} (h : PW X e t) : PT X e t := h _
noncomputable def PA (X : Cx) (es : List Expr) (t : TA) : Prop :=
  ∀ (pos : Pos) (pins : List (Addr × Obj)) (s : Shared) (σ : St) (H : Hp) (Q : List V → Hp → Prop), Inv X pins σ H s → t σ H Q → wpAny (model X.prog X.w) X.A (spliced (backTo pos (starEach es X.env))) (AP X pins σ Q) X.xe s
noncomputable def PS (X : Cx) (st : Stmt) (t : TS) : Prop :=
  ∀ (pins : List (Addr × Obj)) (s : Shared) (σ : St) (H : Hp) (D : Ends), Inv X pins σ H s → t D σ H → wpAny (model X.prog X.w) X.A (exec st X.env) (SP X pins D) X.xe s
noncomputable def PSs (X : Cx) (st : List Stmt) (t : TS) : Prop :=
  ∀ (pins : List (Addr × Obj)) (s : Shared) (σ : St) (H : Hp) (D : Ends), Inv X pins σ H s → t D σ H → wpAny (model X.prog X.w) X.A (execs st X.env) (SP X pins D) X.xe s
theorem thn {α : Type} {t : Sem α} {Q Q' : α → Shared → Prop} {M : Model} {A : Around} {E : Value → Shared → Prop} {s : Shared} (h : wpAny M A t Q E s) (hQ : ∀ a s, Q a s → Q' a s) : wpAny M A t Q' E s := wpAny_mono h hQ fun _ _ x => x
end L2
namespace L2
open PySem PySem.Spec PyProof.Rows
section
variable {X : Cx}
noncomputable def tVar (i : Nat) : TE := fun σ H Q => ∃ v, σ[i]? = some (some v) ∧ Q v H
noncomputable def tC (v : V) : TE := fun _ H Q => Q v H
theorem pe_var {i : Nat} {x : Str} {pos : Pos} (hN : X.N[i]? = some x) (hv : Vis X.env.scope x) (hd : (x == ("__debug__" : Str)) = false := by decide) (hcd : (x == ("__classdict__" : Str)) = false := by decide) : PE X (.Name x pos) (tVar i) := by
  intro pins s σ H Q I h
  obtain ⟨v, e, h⟩ := h
  obtain ⟨m, hn, hl⟩ := I.loc
  obtain ⟨u, r, l⟩ := hl i x v hN e hv
  have fin : EP X pins σ Q u s := ⟨v, H, I, r, h⟩
  rcases l with ⟨hk, hm⟩ | ⟨hk, c, hc, hcell⟩
  · exact wpAny_Name (wpAny_loadName_local I.ok.kind hk hn hm fin) hd
  · rcases hk with hk | hk
    · exact wpAny_Name (wpAny_loadName_cell I.ok.kind hk hc hcell fin) hd
    · exact wpAny_Name (wpAny_loadName_free I.ok.kind hk hc hcell fin hcd) hd
theorem pe_int {i j pos} : PE X (.Constant (.int i) j pos) (tC (.int i)) := fun _ _ _ H _ I h => wpAny_Constant_int ⟨.int i, H, I.tok _, ⟨_, rfl⟩, h⟩
theorem pe_bl {b j pos} : PE X (.Constant (.bool b) j pos) (tC (.bl b)) := fun _ _ _ H _ I h => Constant_bool ⟨.bl b, H, I, rfl, h⟩
theorem pe_non {j pos} : PE X (.Constant .none j pos) (tC .non) := fun _ _ _ H _ I h => Constant_none ⟨.non, H, I, rfl, h⟩
theorem pe_str {x j pos} : PE X (.Constant (.str x) j pos) (tC (.str x)) := fun _ _ _ H _ I h => Calls.Constant_str ⟨.str x, H, I.tok _, ⟨_, rfl⟩, h⟩
noncomputable def Gl (X : Cx) (x : Str) : Prop := X.env.kindOf x = some .globalImplicit
theorem ld_glob {E : Value → Shared → Prop} {pins : List (Addr × Obj)} {s : Shared} {σ : St} {H : Hp} {x : Str} {u : Value} {pos : Pos} {Q : Value → Shared → Prop} (I : Inv X pins σ H s) (hg : Gl X x) (hm : X.mg x = some u) (h : Q u s)
    (hd : (x == ("__debug__" : Str)) = false := by decide) : wpAny (model X.prog X.w) X.A (eval (.Name x pos) X.env) Q E s :=
  Calls.Name_function_global I.ok.kind hg (Calls.loadGlobal_global (by rw [I.ok.glob]; exact I.mod.glob.keeps I.bk) hm h) hd
theorem ld_blt {E : Value → Shared → Prop} {pins : List (Addr × Obj)} {s : Shared} {σ : St} {H : Hp} {x : Str} {u : Value} {pos : Pos} {Q : Value → Shared → Prop} (I : Inv X pins σ H s) (hg : Gl X x) (hm : X.mg x = none) (hv : bootBuiltins x = some u) (h : Q u s)
    (hn : x ≠ "__name__" := by decide) (hd : (x == ("__debug__" : Str)) = false := by decide) : wpAny (model X.prog X.w) X.A (eval (.Name x pos) X.env) Q E s := by
  obtain ⟨mb, h1, h2⟩ := I.mod.blt
  exact Calls.Name_function_global I.ok.kind hg (Calls.loadGlobal_builtin (by rw [I.ok.glob]; exact I.mod.glob.keeps I.bk) hm (by rw [I.ok.blt]; exact h1.keeps I.bk) ((h2 x hn).trans hv) h) hd
variable {a b : Expr} {ta tb : TE} {pos : Pos}
noncomputable def PC (X : Cx) (op : CmpOp) (a b : Expr) (t : TE) : Prop :=
  ∀ (pins : List (Addr × Obj)) (s : Shared) (σ : St) (H : Hp) (Q : VK), Inv X pins σ H s → t σ H Q →
    wpAny (model X.prog X.w) X.A (eval a X.env) (fun v s₁ => wpAny (model X.prog X.w) X.A (eval b X.env) (fun u s₂ => wpAny (model X.prog X.w) X.A (compareOp op v u) (EP X pins σ Q) X.xe s₂) X.xe s₁) X.xe s
theorem nobehind (b : Expr) {op : CmpOp} (h : op ≠ .In) (h2 : op ≠ .NotIn) : behindInMarks op b = false := by
  have e1 : (op == CmpOp.In) = false := by cases op <;> first | rfl | exact absurd rfl h
  have e2 : (op == CmpOp.NotIn) = false := by cases op <;> first | rfl | exact absurd rfl h2
  cases b <;> simp [behindInMarks, e1, e2]
noncomputable def tIsN (ta : TE) : TE := fun σ H Q => ta σ H fun x H1 => Q (.bl (decide (x = .non))) H1
noncomputable def tNotN (ta : TE) : TE := fun σ H Q => ta σ H fun x H1 => Q (.bl (!decide (x = .non))) H1
theorem RelV.none_iff {x : V} {v : Value} (r : RelV x v) : (v == Value.none) = decide (x = .non) := by
  cases x with
  | non => cases r; rfl
  | bl _ => cases r; rfl
  | int _ => obtain ⟨t, rfl⟩ := r; rfl
  | str _ => obtain ⟨t, rfl⟩ := r; rfl
  | byt _ => obtain ⟨t, rfl⟩ := r; rfl
  | flt _ => obtain ⟨t, rfl⟩ := r; rfl
  | ref _ => cases r; rfl
  | ty _ => cases r; rfl
theorem pc_isN {j pos'} (ha : PE X a ta) : PC X .Is a (.Constant .none j pos') (tIsN ta) := by
  intro pins s σ H Q I h
  refine thn (ha pins s σ H _ I h) fun v s1 zr730 => ?_
  obtain ⟨x, H1, I1, r1, q1⟩ := zr730
  exact Constant_none (is_none_gen ⟨.bl _, H1, I1, by rw [r1.none_iff]; rfl, q1⟩)
theorem pc_notN {j pos'} (ha : PE X a ta) : PC X .IsNot a (.Constant .none j pos') (tNotN ta) := by
  intro pins s σ H Q I h
  refine thn (ha pins s σ H _ I h) fun v s1 zr734 => ?_
  obtain ⟨x, H1, I1, r1, q1⟩ := zr734
  exact Constant_none (isnot_none_gen ⟨.bl _, H1, I1, by rw [r1.none_iff]; rfl, q1⟩)
noncomputable def tB (t : TE) : TT := fun σ H Q => t σ H fun x H1 => ∃ c, x = .bl c ∧ Q c H1
theorem pt_cmp {op : CmpOp} {t : TE} (h : PC X op a b t) (h1 : behindInMarks op b = false := by first | exact nobehind _ (by decide) (by decide) | rfl) : PT X (.Compare a [op] [b] pos) (tB t) := by
  intro pins s σ H Q I hw
  refine wpAny_isTrue_Compare1 (thn (h pins s σ H _ I hw) fun v s1 h1 => thn h1 fun u s2 h2 => thn h2 fun c s3 zr739 => ?_) h1
  obtain ⟨x, H1, I1, r1, q1⟩ := zr739
  obtain ⟨d, rfl, q⟩ := q1
  cases r1
  exact wpAny_truthy_bool ⟨H1, I1, q⟩
theorem pt_val {e : Expr} {t : TE} (h : PE X e t) (he : ∀ whole, isTrue e X.env whole = (do let v ← whole; standAt e.pos; holding [v] (truthy v)) := by intro _; rfl) : PT X e (tB t) := by
  intro pins s σ H Q I hw
  refine isTrue_plain (thn (h pins s σ H _ I hw) fun v s1 zr745 => ?_) (he _)
  obtain ⟨x, H1, I1, r1, q1⟩ := zr745
  obtain ⟨d, rfl, q⟩ := q1
  cases r1
  exact wpAny_truthy_bool ⟨H1, I1, q⟩
variable {tA tB' : TT} {rest : List Expr}
noncomputable def tAnd (t u : TT) : TT := fun σ H Q => t σ H fun c H1 => if c = true then u σ H1 Q else Q false H1
noncomputable def tOr (t u : TT) : TT := fun σ H Q => t σ H fun c H1 => if c = true then Q true H1 else u σ H1 Q
noncomputable def tNot (t : TT) : TT := fun σ H Q => t σ H fun c H1 => Q (!c) H1
theorem pw_and1 (ha : PT X a tA) : PW X (.BoolOp .And [a] pos) tA := by
  intro wh pins s σ H Q I h
  refine isTrue_and (thn (ha pins s σ H Q I h) fun c s1 e => ?_)
  cases c with
  | true => exact isTrue_and_nil e
  | false => exact e
theorem pw_or1 (ha : PT X a tA) : PW X (.BoolOp .Or [a] pos) tA := by
  intro wh pins s σ H Q I h
  refine isTrue_or (thn (ha pins s σ H Q I h) fun c s1 e => ?_)
  cases c with
  | false => exact isTrue_or_nil e
  | true => exact e
theorem pw_and (ha : PT X a tA) (hb : PW X (.BoolOp .And (b :: rest) pos) tB') : PW X (.BoolOp .And (a :: b :: rest) pos) (tAnd tA tB') := by
  intro wh pins s σ H Q I h
  refine isTrue_and (thn (ha pins s σ H _ I h) fun c s1 zr767 => ?_)
  obtain ⟨H1, I1, q1⟩ := zr767
  cases c with
  | true => exact hb wh pins s1 σ H1 Q I1 q1
  | false => exact ⟨H1, I1, q1⟩
theorem pw_or (ha : PT X a tA) (hb : PW X (.BoolOp .Or (b :: rest) pos) tB') : PW X (.BoolOp .Or (a :: b :: rest) pos) (tOr tA tB') := by
  intro wh pins s σ H Q I h
  refine isTrue_or (thn (ha pins s σ H _ I h) fun c s1 zr773 => ?_)
  obtain ⟨H1, I1, q1⟩ := zr773
  cases c with
  | true => exact ⟨H1, I1, q1⟩
  | false => exact hb wh pins s1 σ H1 Q I1 q1
theorem pt_not (ha : PT X a tA) : PT X (.UnaryOp .Not a pos) (tNot tA) := by
  intro pins s σ H Q I h
  exact isTrue_not (ha pins s σ H (fun c H1 => Q (!c) H1) I h)
noncomputable def tAndV (ta tb : TE) : TE := fun σ H Q => ta σ H fun x H1 => ∃ c, x = .bl c ∧ if c = true then tb σ H1 Q else Q (.bl false) H1
noncomputable def tOrV (ta tb : TE) : TE := fun σ H Q => ta σ H fun x H1 => ∃ c, x = .bl c ∧ if c = true then Q (.bl true) H1 else tb σ H1 Q
noncomputable def tNotV (ta : TE) : TE := fun σ H Q => ta σ H fun x H1 => ∃ c, x = .bl c ∧ Q (.bl (!c)) H1
theorem pe_one {op} {t : TE} (h : PE X a t) : PE X (.BoolOp op [a] pos) t := fun pins s σ H Q I hw => BoolOp_one (h pins s σ H Q I hw)
theorem pe_and (ha : PE X a ta) (hb : PE X (.BoolOp .And (b :: rest) pos) tb) : PE X (.BoolOp .And (a :: b :: rest) pos) (tAndV ta tb) := by
  intro pins s σ H Q I h
  refine BoolOp_and (thn (ha pins s σ H _ I h) fun v s1 zr786 => ?_)
  obtain ⟨x, H1, I1, r1, q1⟩ := zr786
  obtain ⟨c, rfl, q1⟩ := q1
  cases r1
  refine wpAny_truthy_bool ?_
  cases c with
  | true => exact hb pins s1 σ H1 Q I1 q1
  | false => exact ⟨.bl false, H1, I1, rfl, q1⟩
theorem pe_or (ha : PE X a ta) (hb : PE X (.BoolOp .Or (b :: rest) pos) tb) : PE X (.BoolOp .Or (a :: b :: rest) pos) (tOrV ta tb) := by
  intro pins s σ H Q I h
  refine BoolOp_or (thn (ha pins s σ H _ I h) fun v s1 zr795 => ?_)
  obtain ⟨x, H1, I1, r1, q1⟩ := zr795
  obtain ⟨c, rfl, q1⟩ := q1
  cases r1
  refine wpAny_truthy_bool ?_
  cases c with
  | false => exact hb pins s1 σ H1 Q I1 q1
  | true => exact ⟨.bl true, H1, I1, rfl, q1⟩
theorem pe_not (ha : PE X a ta) : PE X (.UnaryOp .Not a pos) (tNotV ta) := by
  intro pins s σ H Q I h
  refine UnaryOp_ (thn (ha pins s σ H _ I h) fun v s1 zr804 => ?_)
  obtain ⟨x, H1, I1, r1, q1⟩ := zr804
  obtain ⟨c, rfl, q1⟩ := q1
  cases r1
  exact not_of (wpAny_truthy_bool ⟨.bl (!c), H1, I1, rfl, q1⟩)
noncomputable def tIf (t : TT) (ta tb : TE) : TE := fun σ H Q => t σ H fun c H1 => if c = true then ta σ H1 Q else tb σ H1 Q
theorem pe_ifExp {c : Expr} (hc : PT X c tA) (ha : PE X a ta) (hb : PE X b tb) : PE X (.IfExp c a b pos) (tIf tA ta tb) := by
  intro pins s σ H Q I h
  refine wpAny_IfExp (thn (hc pins s σ H _ I h) fun d s1 zr811 => ?_)
  obtain ⟨H1, I1, q1⟩ := zr811
  cases d with
  | true => exact ha pins s1 σ H1 Q I1 q1
  | false => exact hb pins s1 σ H1 Q I1 q1
end
end L2
namespace L2
open PySem PySem.Spec PyProof.Rows
noncomputable def SqL (K : PySem.W.Frag) (H : Hp) (a : Addr) (xs : List V) : Prop :=
  Rd H a (.lst xs) ∨
    ∃ (o : Obj) (its : Array Value) (n : Nat), K.lookup a = some o ∧ o.cls = .type "list" ∧ o.dict = none ∧ o.data = .seq its n ∧ its.size ≤ sizeLine ∧ Vals xs its.toList
noncomputable def SqT (K : PySem.W.Frag) (H : Hp) (a : Addr) (xs : List V) : Prop :=
  Rd H a (.tup xs) ∨
    ∃ (o : Obj) (its : Array Value) (n : Nat), K.lookup a = some o ∧ o.cls = .type "tuple" ∧ o.data = .seq its n ∧ its.size ≤ sizeLine ∧ Vals xs its.toList
noncomputable def absV : Value → Option V
  | .none => some .non
  | .bool b => some (.bl b)
  | .int i _ => some (.int i)
  | .str x _ => some (.str x)
  | .bytes b _ => some (.byt b)
  | .float b _ => some (.flt b)
  | .ref a => some (.ref a)
  | .type n => some (.ty n)
  | _ => none
theorem RelV.abs {x : V} {u : Value} (r : RelV x u) : absV u = some x := by
  cases x with
  | non => cases r; rfl
  | bl _ => cases r; rfl
  | int _ => obtain ⟨t, rfl⟩ := r; rfl
  | str _ => obtain ⟨t, rfl⟩ := r; rfl
  | byt _ => obtain ⟨t, rfl⟩ := r; rfl
  | flt _ => obtain ⟨t, rfl⟩ := r; rfl
  | ref _ => cases r; rfl
  | ty _ => cases r; rfl
theorem RelV.inj {x y : V} {u : Value} (r : RelV x u) (q : RelV y u) : x = y := Option.some.inj (r.abs.symm.trans q.abs)
theorem Vals.inj : ∀ {xs ys : List V} {us : List Value}, Vals xs us → Vals ys us → xs = ys
  | _, _, _, .nil, .nil => rfl
  | _, _, _, .cons r t, .cons r' t' => by rw [r.inj r', Vals.inj t t']
section
variable {X : Cx} {pins : List (Addr × Obj)} {σ : St} {H : Hp} {s : Shared} {a : Addr} {xs ys : List V}
theorem SqL.of {K : PySem.W.Frag} (h : H a = some (.lst xs)) : SqL K H a xs := .inl (.inl h)
theorem SqT.of {K : PySem.W.Frag} (h : H a = some (.tup xs)) : SqT K H a xs := .inl (.inl h)
theorem Inv.list (I : Inv X pins σ H s) (h : SqL X.K H a xs) : ∃ its : List Value, Vals xs its ∧ PlainL s.heap a its.toArray ∧ xs.length ≤ sizeLine := by
  rcases h with h | ⟨o, its, n, hk, hc, hd, hs, hz, r⟩
  · obtain ⟨z, its, n, r, e⟩ := h.ok I.hok
    exact ⟨its, r, ⟨_, n, e, rfl, rfl, rfl⟩, z⟩
  · refine ⟨its.toList, r, ⟨o, n, I.kIn a o hk, hc, hd, by simpa using hs⟩, ?_⟩
    have e := r.length
    simp only [Array.length_toList] at e
    omega
theorem Inv.tuple (I : Inv X pins σ H s) (h : SqT X.K H a xs) : ∃ its : List Value, Vals xs its ∧ IsTup s.heap a its.toArray ∧ xs.length ≤ sizeLine := by
  rcases h with h | ⟨o, its, n, hk, hc, hs, hz, r⟩
  · obtain ⟨z, its, r, p⟩ := h.ok I.hok
    exact ⟨its, r, p, z⟩
  · refine ⟨its.toList, r, ⟨o, I.kIn a o hk, hc, n, by simpa using hs⟩, ?_⟩
    have e := r.length
    simp only [Array.length_toList] at e
    omega
theorem Inv.list_inj (I : Inv X pins σ H s) (h : SqL X.K H a xs) (h' : SqL X.K H a ys) : xs = ys := by
  obtain ⟨its, r, ⟨o, n, e, _, _, d⟩, _⟩ := I.list h
  obtain ⟨its', r', ⟨o', n', e', _, _, d'⟩, _⟩ := I.list h'
  rw [e] at e'; cases e'
  rw [d] at d'
  injection d' with d1 _
  have : its = its' := by simpa using congrArg Array.toList d1
  subst this
  exact r.inj r'
theorem Inv.tuple_inj (I : Inv X pins σ H s) (h : SqT X.K H a xs) (h' : SqT X.K H a ys) : xs = ys := by
  obtain ⟨its, r, ⟨o, e, _, n, d⟩, _⟩ := I.tuple h
  obtain ⟨its', r', ⟨o', e', _, n', d'⟩, _⟩ := I.tuple h'
  rw [e] at e'; cases e'
  rw [d] at d'
  injection d' with d1 _
  have : its = its' := by simpa using congrArg Array.toList d1
  subst this
  exact r.inj r'
end
noncomputable abbrev Cx.wish (X : Cx) (E : Value → Shared → Prop) : Cx := { X with xe := E }
noncomputable abbrev Cx.nox (X : Cx) : Cx := X.wish fun _ _ => False
theorem Cx.Ok.wish {X : Cx} (ok : X.Ok) (E : Value → Shared → Prop) : (X.wish E).Ok :=
  ⟨ok.mod, ok.kind, ok.glob, ok.blt, ok.above, ok.inj, ok.has, ok.cab, ok.hd, ok.frames, ok.stk, ok.exf, ok.bs, ok.bsz, ok.noex, ok.exfs, ok.funs, ok.frf⟩
theorem Cx.Ok.unwish {X : Cx} {E : Value → Shared → Prop} (ok : (X.wish E).Ok) : X.Ok :=
  ⟨ok.mod, ok.kind, ok.glob, ok.blt, ok.above, ok.inj, ok.has, ok.cab, ok.hd, ok.frames, ok.stk, ok.exf, ok.bs, ok.bsz, ok.noex, ok.exfs, ok.funs, ok.frf⟩
section
variable {X : Cx} {pins : List (Addr × Obj)} {σ : St} {H : Hp} {s : Shared} {E : Value → Shared → Prop}
theorem Inv.wish (I : Inv X pins σ H s) (E : Value → Shared → Prop) : Inv (X.wish E) pins σ H s := ⟨I.ok.wish E, I.os, I.bare, I.base, I.loc, I.cell, I.free, I.freeC, I.pin, I.hok, I.len⟩
theorem Inv.unwish (I : Inv (X.wish E) pins σ H s) : Inv X pins σ H s := ⟨I.ok.unwish, I.os, I.bare, I.base, I.loc, I.cell, I.free, I.freeC, I.pin, I.hok, I.len⟩
theorem SP.unwish {D : Ends} {f : Flow} {s' : Shared} (h : SP (X.wish E) pins D f s') : SP X pins D f s' := by
  cases f with
  | next => obtain ⟨σ', H', I, q⟩ := h; exact ⟨σ', H', I.unwish, q⟩
  | brk => obtain ⟨σ', H', I, q⟩ := h; exact ⟨σ', H', I.unwish, q⟩
  | cont => obtain ⟨σ', H', I, q⟩ := h; exact ⟨σ', H', I.unwish, q⟩
  | ret u => obtain ⟨v, σ', H', I, r, q⟩ := h; exact ⟨v, σ', H', I.unwish, r, q⟩
theorem PSs.nox {st : List Stmt} {t : TS} (h : PSs X.nox st t) : PSs X st t := fun pins s σ H D I hw =>
  wpAny_mono (h pins s σ H D (I.wish _) hw) (fun _ _ q => q.unwish) fun _ _ z => False.elim z
end
section
variable {X : Cx} {st : Stmt} {rest : List Stmt} {t u : TS} {e : Expr} {te : TE} {pos : Pos}
noncomputable def tNext : TS := fun D σ H => D.nx σ H
noncomputable def tSeq (t u : TS) : TS := fun D σ H => t { D with nx := u D } σ H
theorem pss_nil : PSs X [] tNext := fun _ _ σ H _ I h => wpAny_execs_nil ⟨σ, H, I, h⟩
theorem pss_cons (h1 : PS X st t) (h2 : PSs X rest u) : PSs X (st :: rest) (tSeq t u) := by
  intro pins s σ H D I h
  refine wpAny_execs_cons (thn (h1 pins s σ H { D with nx := u D } I h) fun f s1 q => ?_)
  cases f with
  | next =>
    obtain ⟨σ', H', I', q⟩ := q
    exact h2 pins s1 σ' H' D I' q
  | ret v => exact q
  | brk => exact q
  | cont => exact q
theorem pss_one (h1 : PS X st t) : PSs X [st] t := by
  intro pins s σ H D I h
  refine wpAny_execs_cons (thn (h1 pins s σ H D I h) fun f s1 q => ?_)
  cases f with
  | next => exact wpAny_execs_nil q
  | ret v => exact q
  | brk => exact q
  | cont => exact q
theorem Inv.quiet {pins : List (Addr × Obj)} {σ : St} {H : Hp} {s : Shared} (I : Inv X pins σ H s) : interactive X.env = false := by simp [interactive, I.ok.kind]
noncomputable def tDrop (te : TE) : TS := fun D σ H => te σ H fun _ H1 => D.nx σ H1
theorem ps_expr (he : PE X e te) (hs : swapsWith e none pos.line X.env = pure false := by rfl) : PS X (.Expr e pos) (tDrop te) := by
  intro pins s σ H D I h
  exact wpAny_Expr_any (thn (he pins s σ H _ I h) fun v s1 zq0 => by obtain ⟨x, H1, I1, r1, q1⟩ := zq0; exact (⟨σ, H1, I1, q1⟩)) I.quiet hs
noncomputable def tRet (te : TE) : TS := fun D σ H => te σ H D.rt
theorem ps_ret (he : PE X e te) : PS X (.Return (some e) pos) (tRet te) := by
  intro pins s σ H D I h
  exact wpAny_Return_some (thn (he pins s σ H _ I h) fun v s1 zq1 => by obtain ⟨x, H1, I1, r1, q1⟩ := zq1; exact (⟨x, σ, H1, I1, r1, q1⟩))
noncomputable def tRetN : TS := fun D _ H => D.rt .non H
theorem ps_retN : PS X (.Return none pos) tRetN := fun _ _ σ H _ I h => wpAny_Return_none ⟨.non, σ, H, I, rfl, h⟩
noncomputable def tIfS (c : TT) (t u : TS) : TS := fun D σ H => c σ H fun b H1 => if b = true then t D σ H1 else u D σ H1
theorem ps_if {c : Expr} {a b : List Stmt} {tc : TT} (hc : PT X c tc) (ha : PSs X a t) (hb : PSs X b u) : PS X (.If c a b pos) (tIfS tc t u) := by
  intro pins s σ H D I h
  refine wpAny_If (thn (hc pins s σ H _ I h) fun d s1 zr944 => ?_)
  obtain ⟨H1, I1, q1⟩ := zr944
  cases d with
  | true => exact ha pins s1 σ H1 D I1 q1
  | false => exact hb pins s1 σ H1 D I1 q1
end
noncomputable abbrev TG := V → St → Hp → (St → Hp → Prop) → Prop
noncomputable abbrev TGs := List V → St → Hp → (St → Hp → Prop) → Prop
noncomputable def PG (X : Cx) (target : Expr) (t : TG) : Prop :=
  ∀ (pins : List (Addr × Obj)) (s : Shared) (σ : St) (H : Hp) (v : V) (u : Value) (Q : St → Hp → Prop), Inv X pins σ H s → RelV v u → t v σ H Q →
    wpAny (model X.prog X.w) X.A (assign target X.env u) (fun _ s' => ∃ σ' H', Inv X pins σ' H' s' ∧ Q σ' H') X.xe s
noncomputable def PGs (X : Cx) (ts : List Expr) (t : TGs) : Prop :=
  ∀ (pins : List (Addr × Obj)) (s : Shared) (σ : St) (H : Hp) (vs : List V) (us : List Value) (Q : St → Hp → Prop), Inv X pins σ H s → Vals vs us → t vs σ H Q →
    wpAny (model X.prog X.w) X.A (assignInOrder ((assignEach ts X.env).map (·.2)) us) (fun _ s' => ∃ σ' H', Inv X pins σ' H' s' ∧ Q σ' H') X.xe s
section
variable {X : Cx} {pos : Pos}
noncomputable def gName (i : Nat) : TG := fun v σ H Q => Q (σ.set i (some v)) H
theorem pg_name {i : Nat} {x : Str} (hN : X.N.Nodup) (hi : X.N[i]? = some x) (hx : Loc X.env.scope x) (hf : X.fn x = true ∨ X.env.scope.names.lookup x = some .local := by first | exact .inl rfl | exact .inr rfl | assumption) : PG X (.Name x pos) (gName i) := by
  intro pins s σ H v u Q I r h
  exact wpAny_assign_Name (store_ok I hN hi hx r (fun s' I' => ⟨_, H, I', h⟩) hf)
noncomputable def gNil : TGs := fun vs σ H Q => vs = [] ∧ Q σ H
noncomputable def gCons (t : TG) (u : TGs) : TGs := fun vs σ H Q => ∃ v r, vs = v :: r ∧ t v σ H fun σ' H' => u r σ' H' Q
theorem pgs_nil : PGs X [] gNil := by
  intro pins s σ H vs us Q I r h
  obtain ⟨e, h⟩ := h
  subst e
  cases r
  exact assignInOrder_nil ⟨σ, H, I, h⟩
theorem pgs_cons {e : Expr} {es : List Expr} {t : TG} {u : TGs} (h1 : PG X e t) (h2 : PGs X es u)
    (hs : (assignEach (e :: es) X.env).map (·.2) = assign e X.env :: (assignEach es X.env).map (·.2) := by rfl) : PGs X (e :: es) (gCons t u) := by
  intro pins s σ H vs us Q I r h
  obtain ⟨v, vr, e1, h⟩ := h
  subst e1
  cases r with
  | cons r rr =>
    rw [hs]
    refine assignInOrder_cons (thn (h1 pins s σ H _ _ _ I r h) fun _ s1 zr979 => ?_)
    obtain ⟨σ1, H1, I1, q1⟩ := zr979
    exact h2 pins s1 σ1 H1 _ _ Q I1 rr q1
noncomputable def gTup (K : PySem.W.Frag) (n : Nat) (t : TGs) : TG := fun v σ H Q => ∃ a xs, v = .ref a ∧ SqT K H a xs ∧ xs.length = n ∧ t xs σ H Q
theorem pg_tup {es : List Expr} {k : Nat} {t : TGs} {n : Nat} (hc : X.calm = true) (h : PGs X es t)
    (hn : (assignEach es X.env).length = n := by rfl) (hst : (assignEach es X.env).findIdx? (·.1) = none := by rfl) : PG X (.Tuple es k pos) (gTup X.K n t) := by
  intro pins s σ H v u Q I r hw
  obtain ⟨a, xs, e1, hq, hl, hw⟩ := hw
  subst e1
  cases r
  obtain ⟨its, rv, ht, hz⟩ := I.tuple hq
  refine assign_Tuple_tuple (I.ok.hd hc) ht (by simp [hn, ← hl, rv.length]) hst fun h' hx => ?_
  have I1 : Inv X pins σ H { s with heap := h' } := I.kept (t' := s.toks) fun b o e => hx b o (Nat.ne_of_lt (Heap.lt_size e)) e
  exact h pins _ σ H xs _ Q I1 (by simpa using rv) hw
noncomputable def tAsg (te : TE) (g : TG) : TS := fun D σ H => te σ H fun x H1 => g x σ H1 D.nx
theorem ps_asg {tg e : Expr} {te : TE} {g : TG} (he : PE X e te) (hg : PG X tg g) (hs : swapsWithSole [tg] e pos.line X.env = pure false := by rfl) (hw : swappedStores [tg] e X.env = pure none := by rfl)
    (h1 : (assignEach [tg] X.env).map (·.2) = [assign tg X.env] := by rfl) : PS X (.Assign [tg] e pos) (tAsg te g) := by
  intro pins s σ H D I h
  refine wpAny_Assign_stores (thn (he pins s σ H _ I h) fun v s1 zr996 => ?_) hs hw
  obtain ⟨x, H1, I1, r1, q1⟩ := zr996
  rw [h1]
  exact thn (hg pins s1 σ H1 x v _ I1 r1 q1) fun _ s2 q => q
theorem ps_set {i : Nat} {x : Str} {e : Expr} {te : TE} {pos' : Pos} (hN : X.N.Nodup) (hi : X.N[i]? = some x) (hx : Loc X.env.scope x) (he : PE X e te) (hs : swapsWith e (some (.Name x pos')) pos.line X.env = pure false := by rfl) (hf : X.fn x = true ∨ X.env.scope.names.lookup x = some .local := by first | exact .inl rfl | exact .inr rfl | assumption) :
    PS X (.Assign [.Name x pos'] e pos) (tAsg te (gName i)) := by
  intro pins s σ H D I h
  refine wpAny_Assign_Name (thn (he pins s σ H _ I h) fun v s1 zr1002 => ?_) hs
  obtain ⟨y, H1, I1, r1, q1⟩ := zr1002
  exact store_ok I1 hN hi hx r1 (fun s2 I2 => ⟨_, H1, I2, q1⟩) hf
end
section
variable {X : Cx} {pos : Pos}
noncomputable def tWhile (c : TT) (tb : TS) : TS := fun D σ H => ∃ W : Nat → St → Hp → Prop, (∃ m, W m σ H) ∧ ∀ m σ H, W m σ H →
  c σ H fun b H1 => if b = true then ∃ N : St → Hp → Prop, (∀ σ' H', N σ' H' → ∃ m', m' < m ∧ W m' σ' H') ∧ tb { D with nx := N, ct := N, bk := D.nx } σ H1 else D.nx σ H1
theorem ps_while {c : Expr} {body : List Stmt} {tc : TT} {tb : TS} (hp : PassesOwn (model X.prog X.w) X.A X.env X.xe) (hc : PT X c tc) (hb : PSs X body tb) : PS X (.While c body [] pos) (tWhile tc tb) := by
  intro pins s σ H D I h
  obtain ⟨W, ⟨m0, w0⟩, turn⟩ := h
  refine wpAny_While (codeAny_whileLoop (fun n s' => ∃ σ' H', Inv X pins σ' H' s' ∧ W n σ' H') ?_ m0 ⟨σ, H, I, w0⟩)
  rintro n s1 ⟨σ1, H1, I1, w1⟩
  refine wpAny_passesOwn hp (thn (hc pins s1 σ1 H1 _ I1 (turn n σ1 H1 w1)) fun b s2 zr1014 => ?_)
  obtain ⟨H2, I2, q2⟩ := zr1014
  cases b with
  | true =>
    obtain ⟨N, hN, q2⟩ := q2
    rw [if_pos rfl]
    refine wpAny_passesOwn hp (thn (hb pins s2 σ1 H2 _ I2 q2) fun f s3 q3 => ?_)
    cases f with
    | next =>
      obtain ⟨σ3, H3, I3, n3⟩ := q3
      obtain ⟨m', hm, w3⟩ := hN σ3 H3 n3
      exact ⟨m', hm, σ3, H3, I3, w3⟩
    | cont =>
      obtain ⟨σ3, H3, I3, n3⟩ := q3
      obtain ⟨m', hm, w3⟩ := hN σ3 H3 n3
      exact ⟨m', hm, σ3, H3, I3, w3⟩
    | brk => exact q3
    | ret v => exact q3
  | false =>
    rw [if_neg Bool.false_ne_true]
    exact wpAny_execs_nil ⟨σ1, H2, I2, q2⟩
end
structure It where
  go : Nat → Hp → Prop
  yld : Nat → Hp → V → Hp → Prop
  stop : Nat → Hp → Prop
noncomputable def FpOk (X : Cx) (pins : List (Addr × Obj)) (H : Hp) (b : Addr) : Prop :=
  H b = none ∧ b ≠ X.env.locals ∧ b ∉ X.fs ∧ (b ∈ X.ex ∨ X.s₀.heap.objs.size ≤ b) ∧ (∀ x c, X.env.cells.lookup x = some c → c ≠ b) ∧ ∀ p ∈ X.pn ++ pins, p.1 ≠ b
theorem Inv.fpOk {X : Cx} {pins : List (Addr × Obj)} {σ : St} {H H' : Hp} {s : Shared} {b : Addr} (I : Inv X pins σ H s) (hb : s.heap.objs.size ≤ b) (hn : H' b = none) : FpOk X pins H' b := by
  refine ⟨hn, Nat.ne_of_gt (Nat.lt_of_lt_of_le I.lt hb), I.nofs hb, .inr (Nat.le_trans I.sz hb), fun x c e z => ?_, fun p hp z => ?_⟩
  · obtain ⟨v, q⟩ := I.cell x c e
    exact absurd (Nat.lt_of_lt_of_le q.lt (by rw [z]; exact hb)) (Nat.lt_irrefl _)
  · exact absurd (Nat.lt_of_lt_of_le (Heap.lt_size (I.pin p hp).1) (by rw [z]; exact hb)) (Nat.lt_irrefl _)
structure Turn (P : Program) (w : World) (K : PySem.W.Frag) (tg : Expr) (J : It) (fp : List Addr) (it : Addr) (tn : Nat → Heap → Prop) : Prop where
  mem : it ∈ fp
  obj : ∀ i h, tn i h → ∀ b ∈ fp, ∃ o, h.get? b = some o ∧ ∀ v, o.data ≠ .cell v
  keep : ∀ i h h', tn i h → (∀ b ∈ fp, ∀ o, h.get? b = some o → h'.get? b = some o) → tn i h'
  item : ∀ (X : Cx), X.prog = P → X.w = w → X.K = K → X.calm = true → ∀ (i : Nat) (pins : List (Addr × Obj)) (s : Shared) (σ : St) (H : Hp) (E : Value → Shared → Prop), Inv X pins σ H s → (∀ b ∈ fp, FpOk X pins H b) → tn i s.heap → J.go i H →
    wpAny (model P w) X.A (pyNext (.ref it)) (fun r s1 => ∃ u, r = some u ∧
      wpAny (model P w) X.A (letOwnedTupleGo tg (.ref it) u) (fun _ s2 => ∃ x H', Inv X pins σ H' s2 ∧ RelV x u ∧ J.yld i H x H' ∧ tn (i + 1) s2.heap ∧ ∀ b ∈ fp, H' b = none) E s1) E s
  done : ∀ (X : Cx), X.prog = P → X.w = w → X.K = K → X.calm = true → ∀ (i : Nat) (pins : List (Addr × Obj)) (s : Shared) (σ : St) (H : Hp) (E : Value → Shared → Prop), Inv X pins σ H s → (∀ b ∈ fp, FpOk X pins H b) → tn i s.heap → J.stop i H →
    wpAny (model P w) X.A (pyNext (.ref it)) (fun r s1 => r = none ∧ Inv X pins σ H s1) E s
  self : ∀ (A : Around) (i : Nat) (s : Shared) (Q : Value → Shared → Prop) (E : Value → Shared → Prop), tn i s.heap → Q (.ref it) s → wpAny (model P w) A (pyIter (.ref it)) Q E s
noncomputable abbrev TI := St → Hp → (It → Hp → Prop) → Prop
noncomputable def PIE (X : Cx) (pins : List (Addr × Obj)) (σ : St) (tg : Expr) (R : It → Hp → Prop) (itv : Value) (s2 : Shared) : Prop :=
  ∃ (it : Addr) (fp : List Addr) (tn : Nat → Heap → Prop) (J : It) (H' : Hp), itv = .ref it ∧ Inv X pins σ H' s2 ∧ Turn X.prog X.w X.K tg J fp it tn ∧ tn 0 s2.heap ∧ (∀ b ∈ fp, FpOk X pins H' b) ∧ R J H'
noncomputable def PI (X : Cx) (tg iter : Expr) (wi : TI) : Prop :=
  ∀ (pins : List (Addr × Obj)) (s : Shared) (σ : St) (H : Hp) (R : It → Hp → Prop), Inv X pins σ H s → wi σ H R →
    wpAny (model X.prog X.w) X.A (eval iter X.env) (fun v s1 => wpAny (model X.prog X.w) X.A (pyIter v) (PIE X pins σ tg R) X.xe s1) X.xe s
theorem go_of {M : Model} {A : Around} {E : Value → Shared → Prop} {s : Shared} {tg : Expr} {it : Addr} {u : Value} {o : Obj} {n : String} {vs : Array Value} {Q : Unit → Shared → Prop} (ho : s.heap.get? it = some o) (hc : o.cls = .type n) (hd : o.data = .fields vs)
    (hn : ["enumerate", "zip", "dict_itemiterator", "dict_reverseitemiterator", "odict_iterator", "itertools.zip_longest", "itertools.pairwise"].contains n = false) (hQ : Q () s) : wpAny M A (letOwnedTupleGo tg (.ref it) u) Q E s := by
  unfold letOwnedTupleGo
  cases tg <;> first
    | exact wpAny_pure hQ
    | (cases u <;> first
        | exact wpAny_pure hQ
        | (refine wpAny_bind (wpAny_load ho ?_)
           rw [hc, hd]
           show wpAny M A (if (["enumerate", "zip", "dict_itemiterator", "dict_reverseitemiterator", "odict_iterator", "itertools.zip_longest", "itertools.pairwise"].contains n && vs[0]? == some (rawInt _)) = true then _ else _) Q E s
           rw [if_neg (by intro h; rw [hn, Bool.false_and] at h; cases h)]
           exact wpAny_pure hQ))
noncomputable def Itl (K : PySem.W.Frag) (a : Addr) : It :=
  ⟨fun i H => ∃ xs x, SqL K H a xs ∧ xs[i]? = some x, fun i H x H' => H' = H ∧ ∀ xs, SqL K H a xs → xs[i]? = some x, fun i H => ∃ xs, SqL K H a xs ∧ xs.length ≤ i⟩
noncomputable def Itt (K : PySem.W.Frag) (a : Addr) : It :=
  ⟨fun i H => ∃ xs x, SqT K H a xs ∧ xs[i]? = some x, fun i H x H' => H' = H ∧ ∀ xs, SqT K H a xs → xs[i]? = some x, fun i H => ∃ xs, SqT K H a xs ∧ xs.length ≤ i⟩
noncomputable def Itr (lo : Int) (n : Nat) : It := ⟨fun i _ => i < n, fun i H x H' => H' = H ∧ x = .int (lo + i), fun i _ => n ≤ i⟩
theorem turn_list {P : Program} {w : World} {K : PySem.W.Frag} {tg : Expr} (a it : Addr) : Turn P w K tg (Itl K a) [it] it (fun i h => h.IsListIter it a i) where
  mem := by simp
  obj := fun i h st b hb => by
    have e : b = it := by simpa using hb
    subst e
    obtain ⟨o, e, c, d⟩ := st
    exact ⟨o, e, fun v z => by rw [d] at z; cases z⟩
  keep := fun i h h' st k => st.at fun o e => k it (by simp) o e
  item := by
    intro X hP hw hK hc i pins s σ H E I hf st hg
    subst hP hw hK
    obtain ⟨xs, x, hq, hx⟩ := hg
    obtain ⟨its, rv, p, hz⟩ := I.list hq
    obtain ⟨u, hu, ru⟩ := rv.get hx
    obtain ⟨f0, f1, f2, f3, f4, f5⟩ := hf it (by simp)
    refine wpAny_pyNext_list_item st p.isList (x := u) (by simpa using hu) fun h' st' sb => ?_
    have I1 : Inv X pins σ H { s with heap := h' } := I.turned (t' := s.toks) (fun b o hb e => (sb.2 b hb).trans e) f0 f1 f3 f4 f5
    obtain ⟨o, e, c, d⟩ := id st'
    exact ⟨u, rfl, go_of (s := { s with heap := h' }) e c d (by decide) ⟨x, H, I1, ru, ⟨rfl, fun ys hy => by rw [I.list_inj hy hq]; exact hx⟩, st', fun b hb => (hf b hb).1⟩⟩
  done := by
    intro X hP hw hK hc i pins s σ H E I hf st hg
    subst hP hw hK
    obtain ⟨xs, hq, hx⟩ := hg
    obtain ⟨its, rv, p, hz⟩ := I.list hq
    obtain ⟨f0, f1, f2, f3, f4, f5⟩ := hf it (by simp)
    have hl := rv.length
    exact wpAny_pyNext_list_end (I.ok.hd hc) st p.isList (by simp; omega) fun h' eb => ⟨rfl, I.turned (t' := s.toks) (fun b o hb e => eb b o hb e) f0 f1 f3 f4 f5⟩
  self := fun _ _ _ _ _ st h => wpAny_pyIter_listiter st h
theorem turn_tuple {P : Program} {w : World} {K : PySem.W.Frag} {tg : Expr} (a it : Addr) : Turn P w K tg (Itt K a) [it] it (fun i h => h.IsTupleIter it a i) where
  mem := by simp
  obj := fun i h st b hb => by
    have e : b = it := by simpa using hb
    subst e
    obtain ⟨o, e, c, d⟩ := st
    exact ⟨o, e, fun v z => by rw [d] at z; cases z⟩
  keep := fun i h h' st k => st.at fun o e => k it (by simp) o e
  item := by
    intro X hP hw hK hc i pins s σ H E I hf st hg
    subst hP hw hK
    obtain ⟨xs, x, hq, hx⟩ := hg
    obtain ⟨its, rv, p, hz⟩ := I.tuple hq
    obtain ⟨u, hu, ru⟩ := rv.get hx
    obtain ⟨f0, f1, f2, f3, f4, f5⟩ := hf it (by simp)
    refine wpAny_pyNext_tuple_item st (show s.heap.IsTuple a its.toArray from p) (x := u) (by simpa using hu) fun h' st' sb => ?_
    have I1 : Inv X pins σ H { s with heap := h' } := I.turned (t' := s.toks) (fun b o hb e => (sb.2 b hb).trans e) f0 f1 f3 f4 f5
    obtain ⟨o, e, c, d⟩ := id st'
    exact ⟨u, rfl, go_of (s := { s with heap := h' }) e c d (by decide) ⟨x, H, I1, ru, ⟨rfl, fun ys hy => by rw [I.tuple_inj hy hq]; exact hx⟩, st', fun b hb => (hf b hb).1⟩⟩
  done := by
    intro X hP hw hK hc i pins s σ H E I hf st hg
    subst hP hw hK
    obtain ⟨xs, hq, hx⟩ := hg
    obtain ⟨its, rv, p, hz⟩ := I.tuple hq
    obtain ⟨f0, f1, f2, f3, f4, f5⟩ := hf it (by simp)
    have hl := rv.length
    exact wpAny_pyNext_tuple_end (I.ok.hd hc) st (show s.heap.IsTuple a its.toArray from p) (by simp; omega) fun h' eb => ⟨rfl, I.turned (t' := s.toks) (fun b o hb e => eb b o hb e) f0 f1 f3 f4 f5⟩
  self := fun _ _ _ _ _ st h => wpAny_pyIter_tupleiter st h
theorem turn_range {P : Program} {w : World} {K : PySem.W.Frag} {tg : Expr} (it : Addr) (lo : Int) (n : Nat) : Turn P w K tg (Itr lo n) [it] it (fun i h => IsRangeIter h it (lo + (i : Nat) * 1) ((n : Int) - (i : Nat)) 1) where
  mem := by simp
  obj := fun i h st b hb => by
    have e : b = it := by simpa using hb
    subst e
    exact ⟨_, st, fun v z => by
      have z' : Data.fields _ = Data.cell v := z
      cases z'⟩
  keep := fun i h h' st k => k it (by simp) _ st
  item := by
    intro X hP hw hK hc i pins s σ H E I hf st hg
    subst hP hw hK
    obtain ⟨f0, f1, f2, f3, f4, f5⟩ := hf it (by simp)
    have W := Walks.range (prog := X.prog) (w := X.w) (I.ok.hd hc) it lo 1 n
    refine W.item i s _ _ hg st fun v h' tk hv st' kk => ?_
    obtain ⟨t, rfl⟩ := hv
    have I1 : Inv X pins σ H { s with heap := h', toks := tk } := I.turned (fun b o hb e => kk b o (by simpa using hb) e) f0 f1 f3 f4 f5
    refine ⟨_, rfl, go_of (s := { s with heap := h', toks := tk }) (n := "range_iterator") st' rfl rfl (by decide) ⟨.int (lo + i), H, I1, ⟨t, ?_⟩, ⟨rfl, rfl⟩, st', fun b hb => (hf b hb).1⟩⟩
    rw [Int.mul_one]
  done := by
    intro X hP hw hK hc i pins s σ H E I hf st hg
    subst hP hw hK
    obtain ⟨f0, f1, f2, f3, f4, f5⟩ := hf it (by simp)
    exact wpAny_pyNext_range_end (I.ok.hd hc) st (by have : n ≤ i := hg; omega) fun h' eb => ⟨rfl, I.turned (t' := s.toks) (fun b o hb e => eb b o hb e) f0 f1 f3 f4 f5⟩
  self := fun _ _ _ _ _ st h => wpAny_pyIter_rangeiter st h
end L2
namespace L2
open PySem PySem.Spec PyProof.Rows
section
variable {X : Cx} {tg : Expr}
theorem range_it {pins : List (Addr × Obj)} {σ : St} {H : Hp} {s : Shared} {R : It → Hp → Prop} {E : Value → Shared → Prop} {lo hi : Int} {t u v : Tok} {tk : Nat} (I : Inv X pins σ H s) (h1 : -(2 ^ 62) ≤ lo) (h2 : lo < 2 ^ 62) (h3 : -(2 ^ 62) ≤ hi) (h4 : hi < 2 ^ 62)
    (q : R (Itr lo (hi - lo).toNat) H) : wpAny (model X.prog X.w) X.A (pyIter (.ref s.heap.objs.size)) (PIE X pins σ tg R) E { s with heap := s.heap.push { cls := .type "range", data := .fields #[.int lo t, .int hi u, .int 1 v] }, toks := tk } := by
  refine wpAny_pyIter_range (IsRange.new ..) (small_one h1 h2 h3 h4) ?_
  have I1 : Inv X pins σ H { s with heap := s.heap.push { cls := .type "range", data := .fields #[.int lo t, .int hi u, .int 1 v] }, toks := tk } := I.kept fun b o e => Heap.get?_push_of_some _ e
  refine ⟨(s.heap.push { cls := .type "range", data := .fields #[.int lo t, .int hi u, .int 1 v] }).objs.size, [(s.heap.push { cls := .type "range", data := .fields #[.int lo t, .int hi u, .int 1 v] }).objs.size], _, _, H, rfl,
    I1.kept (t' := tk) fun b o e => Heap.get?_push_of_some _ e, turn_range _ lo (hi - lo).toNat, ?_, fun b hb => ?_, q⟩
  · have e1 : lo + ((0 : Nat) : Int) * 1 = lo := by simp
    have e2 : (((hi - lo).toNat : Nat) : Int) - ((0 : Nat) : Int) = Builtin.Range.rangeSize lo hi 1 := by rw [rangeSize_one]; split <;> omega
    show IsRangeIter _ _ (lo + ((0 : Nat) : Int) * 1) ((((hi - lo).toNat : Nat) : Int) - ((0 : Nat) : Int)) 1
    rw [e1, e2]
    exact Heap.get?_push_size _ rfl
  · have e : b = (s.heap.push { cls := .type "range", data := .fields #[.int lo t, .int hi u, .int 1 v] }).objs.size := by simpa using hb
    subst e
    exact I1.fpOk (Nat.le_refl _) (I1.hok.fresh (Nat.le_refl _))
noncomputable def iRng1 (ta : TA) : TI := fun σ H R => ta σ H fun vs H1 => ∃ j : Int, vs = [.int j] ∧ -(2 ^ 62) ≤ j ∧ j < 2 ^ 62 ∧ R (Itr 0 j.toNat) H1
theorem pi_range1 {a : Expr} {ta : TA} {p pos : Pos} (hg : Gl X "range") (hm : X.mg "range" = none) (ha : PA X [a] ta) (hs : starEach [a] X.env = [(false, eval a X.env)] := by rfl) : PI X tg (.Call (.Name "range" p) [a] [] pos) (iRng1 ta) := by
  intro pins s σ H R I h
  refine Call_ (ld_blt I hg hm boot_range (PyProof.Rows.callWith_type1 (thn (ha pos pins s σ H _ I h) fun us s1 zr1182 => ?_) hs rfl))
  obtain ⟨vs, H1, I1, r1, q1⟩ := zr1182
  obtain ⟨j, e, q1, q2, q⟩ := q1
  subst e
  cases r1 with
  | cons r rr =>
    cases rr
    obtain ⟨t, rfl⟩ := r
    exact call_range_1 (range_it I1 (by omega) (by omega) q1 q2 (by simpa using q))
noncomputable def tFor (wi : TI) (g : TG) (tb : TS) : TS := fun D σ H => wi σ H fun J H1 => ∃ W : Nat → Nat → St → Hp → Prop, (∃ m, W 0 m σ H1) ∧ ∀ i m σ H, W i m σ H →
  (J.stop i H ∧ D.nx σ H) ∨ (J.go i H ∧ ∃ N : St → Hp → Prop, (∀ σ' H', N σ' H' → ∃ m', m' < m ∧ W (i + 1) m' σ' H') ∧ ∀ x H', J.yld i H x H' → g x σ H' fun σ2 H2 => tb { D with nx := N, ct := N, bk := D.nx } σ2 H2)
noncomputable def pinsAt (fp : List Addr) (h : Heap) : List (Addr × Obj) := fp.filterMap fun b => (h.get? b).map fun o => (b, o)
theorem mem_pinsAt {fp : List Addr} {h : Heap} {b : Addr} {o : Obj} (hb : b ∈ fp) (e : h.get? b = some o) : (b, o) ∈ pinsAt fp h := List.mem_filterMap.mpr ⟨b, hb, by rw [e]; rfl⟩
theorem of_pinsAt {fp : List Addr} {h : Heap} {p : Addr × Obj} (hp : p ∈ pinsAt fp h) : p.1 ∈ fp ∧ h.get? p.1 = some p.2 := by
  obtain ⟨b, hb, e⟩ := List.mem_filterMap.mp hp
  cases q : h.get? b with
  | none => rw [q] at e; cases e
  | some o =>
    rw [q] at e
    have e' : (b, o) = p := Option.some.inj e
    subst e'
    exact ⟨hb, q⟩
theorem Inv.pinned {pins : List (Addr × Obj)} {σ : St} {H : Hp} {s : Shared} {fp : List Addr} (I : Inv X pins σ H s) (hf : ∀ b ∈ fp, FpOk X pins H b) (ho : ∀ b ∈ fp, ∃ o, s.heap.get? b = some o ∧ ∀ v, o.data ≠ .cell v) : Inv X (pins ++ pinsAt fp s.heap) σ H s :=
  I.pins_of fun p hp => (List.mem_append.mp hp).elim (fun z => I.pin p (List.mem_append_right _ z)) fun z => by
    obtain ⟨hb, e⟩ := of_pinsAt z
    obtain ⟨f0, f1, f2, _⟩ := hf p.1 hb
    obtain ⟨o, e', d⟩ := ho p.1 hb
    rw [e] at e'; cases e'
    exact ⟨e, f0, f1, f2, d⟩
theorem Inv.unpinned {pins pl : List (Addr × Obj)} {σ : St} {H : Hp} {s : Shared} (I : Inv X (pins ++ pl) σ H s) : Inv X pins σ H s := I.pins_of fun p hp => I.pin p (List.mem_append_right _ (List.mem_append_left _ hp))
theorem ps_for {iter : Expr} {body : List Stmt} {wi : TI} {g : TG} {tb : TS} {pos : Pos} (hp : PassesOwn (model X.prog X.w) X.A X.env X.xe) (hc : X.calm = true) (hi : PI X tg iter wi) (hg : PG X tg g) (hb : PSs X body tb)
    (hs : ∀ x, foldedSetIterable iter X.env x = pure x := by intro _; rfl) : PS X (.For tg iter body [] pos) (tFor wi g tb) := by
  intro pins s σ H D I h
  refine wpAny_For (thn (hi pins s σ H _ I h) fun v s1 h1 => thn h1 fun itv s2 h2 => ?_) hs
  obtain ⟨it, fp, tn, J, H2, e, I2, T, st2, f2, W, ⟨m0, w0⟩, turn⟩ := h2
  subst e
  -- what stays true of the iterator's objects through the loop
  have stat : ∀ {H' : Hp}, (∀ b ∈ fp, H' b = none) → ∀ b ∈ fp, FpOk X pins H' b := fun hn b hb => ⟨hn b hb, (f2 b hb).2⟩
  refine codeAny_forLoop_any (fun n s' => ∃ i σ' H', Inv X pins σ' H' s' ∧ tn i s'.heap ∧ (∀ b ∈ fp, H' b = none) ∧ W i n σ' H') ?_ m0 ⟨0, σ, H2, I2, st2, fun b hb => (f2 b hb).1, w0⟩
  rintro n s3 ⟨i, σ3, H3, I3, st3, fr3, w3⟩
  rcases turn i n σ3 H3 w3 with ⟨stop, qn⟩ | ⟨go, N, hN, step⟩
  · refine wpAny_passesOwn hp (thn (T.done X rfl rfl rfl hc i pins s3 σ3 H3 X.xe I3 (stat fr3) st3 stop) fun r s4 zr1222 => ?_)
    obtain ⟨hr, I4⟩ := zr1222
    subst hr
    exact wpAny_execs_nil ⟨σ3, H3, I4, qn⟩
  · refine wpAny_passesOwn hp (thn (T.item X rfl rfl rfl hc i pins s3 σ3 H3 X.xe I3 (stat fr3) st3 go) fun r s4 zr1225 => ?_)
    obtain ⟨u, hr, h4⟩ := zr1225
    subst hr
    refine wpAny_passesOwn hp (thn h4 fun _ s5 zr1227 => ?_)
    obtain ⟨x, H5, I5, r5, y5, st5, fr5⟩ := zr1227
    have I5' := I5.pinned (stat fr5) (T.obj _ _ st5)
    refine wpAny_passesOwn hp (thn (hg _ s5 σ3 H5 x u _ I5' r5 (step x H5 y5)) fun _ s6 zr1229 => ?_)
    obtain ⟨σ6, H6, I6, q6⟩ := zr1229
    refine wpAny_passesOwn hp (thn (hb _ s6 σ6 H6 _ I6 q6) fun f s7 q7 => ?_)
    have again : ∀ {σ7 : St} {H7 : Hp}, Inv X (pins ++ pinsAt fp s5.heap) σ7 H7 s7 → N σ7 H7 → ∃ m, m < n ∧ ∃ i σ' H', Inv X pins σ' H' s7 ∧ tn i s7.heap ∧ (∀ b ∈ fp, H' b = none) ∧ W i m σ' H' := fun {σ7 H7} I7 n7 => by
      obtain ⟨m', hm, w7⟩ := hN σ7 H7 n7
      refine ⟨m', hm, i + 1, σ7, H7, I7.unpinned, T.keep _ _ _ st5 fun b hb o e => (I7.pin (b, o) (List.mem_append_right _ (List.mem_append_right _ (mem_pinsAt hb e)))).1, fun b hb => ?_, w7⟩
      obtain ⟨o, e, d⟩ := T.obj _ _ st5 b hb
      exact (I7.pin (b, o) (List.mem_append_right _ (List.mem_append_right _ (mem_pinsAt hb e)))).2.1
    cases f with
    | next => obtain ⟨σ7, H7, I7, n7⟩ := q7; exact again I7 n7
    | cont => obtain ⟨σ7, H7, I7, n7⟩ := q7; exact again I7 n7
    | brk => obtain ⟨σ7, H7, I7, q7⟩ := q7; exact ⟨σ7, H7, I7.unpinned, q7⟩
    | ret v => obtain ⟨x7, σ7, H7, I7, r7, q7⟩ := q7; exact ⟨x7, σ7, H7, I7.unpinned, r7, q7⟩
end
end L2
namespace L2
open PySem PySem.Spec PyProof.Rows
noncomputable abbrev R2 := V → V → Hp → VK → Prop
noncomputable def OpR (X : Cx) (f : Value → Value → Sem Value) (r : R2) : Prop :=
  ∀ (pins : List (Addr × Obj)) (s : Shared) (σ : St) (H : Hp) (x y : V) (v u : Value) (Q : VK), Inv X pins σ H s → RelV x v → RelV y u → r x y H Q →
    wpAny (model X.prog X.w) X.A (f v u) (EP X pins σ Q) X.xe s
noncomputable def UnR (X : Cx) (f : Value → Sem Value) (r : V → Hp → VK → Prop) : Prop :=
  ∀ (pins : List (Addr × Obj)) (s : Shared) (σ : St) (H : Hp) (x : V) (v : Value) (Q : VK), Inv X pins σ H s → RelV x v → r x H Q →
    wpAny (model X.prog X.w) X.A (f v) (EP X pins σ Q) X.xe s
noncomputable def CallR (X : Cx) (f : Value) (r : List V → Hp → VK → Prop) : Prop :=
  ∀ (pins : List (Addr × Obj)) (s : Shared) (σ : St) (H : Hp) (xs : List V) (us : List Value) (Q : VK), Inv X pins σ H s → Vals xs us → r xs H Q →
    wpAny (model X.prog X.w) X.A (call f us) (EP X pins σ Q) X.xe s
noncomputable def tOp (r : R2) (ta tb : TE) : TE := fun σ H Q => ta σ H fun x H1 => tb σ H1 fun y H2 => r x y H2 Q
noncomputable def tUn (r : V → Hp → VK → Prop) (ta : TE) : TE := fun σ H Q => ta σ H fun x H1 => r x H1 Q
noncomputable def rI (C : Int → Int → Prop) (g : Int → Int → V) : R2 := fun x y H Q => ∃ i j, x = .int i ∧ y = .int j ∧ C i j ∧ Q (g i j) H
noncomputable def rI0 (g : Int → Int → V) : R2 := fun x y H Q => ∃ i j, x = .int i ∧ y = .int j ∧ Q (g i j) H
noncomputable def rU (g : Int → V) : V → Hp → VK → Prop := fun x H Q => ∃ i, x = .int i ∧ Q (g i) H
section
variable {X : Cx} {a b c : Expr} {ta tb tc : TE} {pos : Pos}
theorem binT (ha : PE X a ta) (hb : PE X b tb) {pins : List (Addr × Obj)} {s : Shared} {σ : St} {H : Hp} {R : V → V → Hp → Prop} (I : Inv X pins σ H s)
    (h : ta σ H fun x H1 => tb σ H1 fun y H2 => R x y H2) {Q : Value → Shared → Prop} {f : Value → Value → Sem Value}
    (hf : ∀ v u s2 x y H2, Inv X pins σ H2 s2 → RelV x v → RelV y u → R x y H2 → wpAny (model X.prog X.w) X.A (f v u) Q X.xe s2) :
    wpAny (model X.prog X.w) X.A (eval a X.env) (fun v s₁ => wpAny (model X.prog X.w) X.A (eval b X.env) (fun u s₂ => wpAny (model X.prog X.w) X.A (f v u) Q X.xe s₂) X.xe s₁) X.xe s := by
  refine thn (ha pins s σ H _ I h) fun v s1 zr1266 => ?_
  obtain ⟨x, H1, I1, r1, q1⟩ := zr1266
  refine thn (hb pins s1 σ H1 _ I1 q1) fun u s2 zr1267 => ?_
  obtain ⟨y, H2, I2, r2, q2⟩ := zr1267
  exact hf v u s2 x y H2 I2 r1 r2 q2
theorem pe_op {op : Operator} {r : R2} (ho : OpR X (binaryOp op) r) (ha : PE X a ta) (hb : PE X b tb) : PE X (.BinOp a op b pos) (tOp r ta tb) := by
  intro pins s σ H Q I h
  exact wpAny_BinOp (binT ha hb I h fun v u s2 x y H2 I2 rx ry q => ho pins s2 σ H2 x y v u Q I2 rx ry q)
theorem pe_un {op : UnaryOp} {r : V → Hp → VK → Prop} (ho : UnR X (unaryOp op) r) (ha : PE X a ta) : PE X (.UnaryOp op a pos) (tUn r ta) := by
  intro pins s σ H Q I h
  exact UnaryOp_ (thn (ha pins s σ H _ I h) fun v s1 zq2 => by obtain ⟨x, H1, I1, r1, q1⟩ := zq2; exact (ho pins s1 σ H1 x v Q I1 r1 q1))
theorem opI {f : Value → Value → Sem Value} {C : Int → Int → Prop} {g : Int → Int → Int}
    (rule : ∀ (i j : Int) (t u : Tok) (s : Shared) (Q : Value → Shared → Prop) (E : Value → Shared → Prop), C i j → Q (.int (g i j) s.toks) { s with toks := s.toks + 1 } → wpAny (model X.prog X.w) X.A (f (.int i t) (.int j u)) Q E s) :
    OpR X f (rI C fun i j => .int (g i j)) := by
  intro pins s σ H x y v u Q I rx ry h
  obtain ⟨i, j, rfl, rfl, hc, q⟩ := h
  obtain ⟨t, rfl⟩ := rx
  obtain ⟨t', rfl⟩ := ry
  exact rule i j t t' s _ _ hc ⟨.int (g i j), H, I.tok _, ⟨_, rfl⟩, q⟩
theorem opI0 {f : Value → Value → Sem Value} {g : Int → Int → Int}
    (rule : ∀ (i j : Int) (t u : Tok) (s : Shared) (Q : Value → Shared → Prop) (E : Value → Shared → Prop), Q (.int (g i j) s.toks) { s with toks := s.toks + 1 } → wpAny (model X.prog X.w) X.A (f (.int i t) (.int j u)) Q E s) :
    OpR X f (rI0 fun i j => .int (g i j)) := by
  intro pins s σ H x y v u Q I rx ry h
  obtain ⟨i, j, rfl, rfl, q⟩ := h
  obtain ⟨t, rfl⟩ := rx
  obtain ⟨t', rfl⟩ := ry
  exact rule i j t t' s _ _ ⟨.int (g i j), H, I.tok _, ⟨_, rfl⟩, q⟩
theorem opB0 {f : Value → Value → Sem Value} {g : Int → Int → Bool}
    (rule : ∀ (i j : Int) (t u : Tok) (s : Shared) (Q : Value → Shared → Prop) (E : Value → Shared → Prop), Q (.bool (g i j)) s → wpAny (model X.prog X.w) X.A (f (.int i t) (.int j u)) Q E s) :
    OpR X f (rI0 fun i j => .bl (g i j)) := by
  intro pins s σ H x y v u Q I rx ry h
  obtain ⟨i, j, rfl, rfl, q⟩ := h
  obtain ⟨t, rfl⟩ := rx
  obtain ⟨t', rfl⟩ := ry
  exact rule i j t t' s _ _ ⟨.bl (g i j), H, I, rfl, q⟩
noncomputable def CMul (i j : Int) : Prop := (-(2 ^ 64) < i ∧ i < 2 ^ 64) ∨ (-(2 ^ 64) < j ∧ j < 2 ^ 64)
theorem CMul.ok {i j : Int} (h : CMul i j) : IntMulOk i j := by
  rcases h with ⟨h1, h2⟩ | ⟨h1, h2⟩
  · exact .of_left (intBits_le_64 h1 h2)
  · exact .of_right (intBits_le_64 h1 h2)
theorem op_add : OpR X (binaryOp .Add) (rI0 fun i j => .int (i + j)) := opI0 fun _ _ _ _ _ _ _ q => add_int q
theorem op_sub : OpR X (binaryOp .Sub) (rI0 fun i j => .int (i - j)) := opI0 fun _ _ _ _ _ _ _ q => sub_int q
theorem op_mul : OpR X (binaryOp .Mult) (rI CMul fun i j => .int (i * j)) := opI fun _ _ _ _ _ _ _ hc q => mul_int q hc.ok
theorem op_mod : OpR X (binaryOp .Mod) (rI (fun _ j => 0 < j) fun i j => .int (i % j)) := opI fun i j _ _ _ _ _ hc q => by
  have h1 : (0 : Int) < j := hc
  exact mod_int' (by omega) (by rw [Int.fmod_eq_emod_of_nonneg i (by omega)]; exact q)
theorem unI {f : Value → Sem Value} {g : Int → Int}
    (rule : ∀ (i : Int) (t : Tok) (s : Shared) (Q : Value → Shared → Prop) (E : Value → Shared → Prop), Q (.int (g i) s.toks) { s with toks := s.toks + 1 } → wpAny (model X.prog X.w) X.A (f (.int i t)) Q E s) :
    UnR X f (rU fun i => .int (g i)) := by
  intro pins s σ H x v Q I rx h
  obtain ⟨i, rfl, q⟩ := h
  obtain ⟨t, rfl⟩ := rx
  exact rule i t s _ _ ⟨.int (g i), H, I.tok _, ⟨_, rfl⟩, q⟩
theorem un_neg : UnR X (unaryOp .USub) (rU fun i => .int (-i)) := unI fun _ _ _ _ _ q => neg_int q
end
noncomputable def scal : V → V → Bool
  | .non, .non => true | .non, .int _ => true | .int _, .non => true | .non, .bl _ => true | .bl _, .non => true | .non, .str _ => true | .str _, .non => true
  | .int _, .int _ => true | .bl _, .bl _ => true | .str _, .str _ => true | .byt _, .byt _ => true
  | .int _, .str _ => true | .str _, .int _ => true | .bl _, .str _ => true | .str _, .bl _ => true
  | _, _ => false
noncomputable def rEq : R2 := fun x y H Q => scal x y = true ∧ Q (.bl (decide (x = y))) H
noncomputable def rNe : R2 := fun x y H Q => scal x y = true ∧ Q (.bl (!decide (x = y))) H
theorem dec_int {i j : Int} : decide (V.int i = V.int j) = (i == j) := by
  rw [Bool.eq_iff_iff]
  simp
theorem dec_bl {i j : Bool} : decide (V.bl i = V.bl j) = (i == j) := by
  rw [Bool.eq_iff_iff]
  simp
theorem dec_str {i j : Str} : decide (V.str i = V.str j) = (i == j) := by
  rw [Bool.eq_iff_iff]
  simp
theorem dec_byt {i j : Array UInt8} : decide (V.byt i = V.byt j) = (i.toList == j.toList) := by
  rw [Bool.eq_iff_iff]
  cases i
  cases j
  simp
section
variable {X : Cx} {a b c : Expr} {ta tb tc : TE} {pos : Pos}
theorem fin_bl {pins : List (Addr × Obj)} {σ : St} {H : Hp} {s : Shared} {Q : VK} {k k' : Bool} (I : Inv X pins σ H s) (q : Q (.bl k) H) (e : k = k') : EP X pins σ Q (.bool k') s := by
  subst e
  exact ⟨.bl k, H, I, rfl, q⟩
theorem op_eq : OpR X (compareOp .Eq) rEq := by
  intro pins s σ H x y v u Q I rx ry h
  obtain ⟨hs, q⟩ := h
  cases x with
  | non =>
    cases rx
    cases y with
    | non => cases ry; exact PySem.EqNone.eq_none_none (fin_bl I q (by simp))
    | bl j => cases ry; exact PySem.EqNone.eq_none_bool (fin_bl I q (by simp))
    | int j => obtain ⟨t', rfl⟩ := ry; exact PySem.EqNone.eq_none_int (fin_bl I q (by simp))
    | str j => obtain ⟨t', rfl⟩ := ry; exact PySem.EqNone.eq_none_str (fin_bl I q (by simp))
    | _ => exact absurd (show false = true from hs) Bool.false_ne_true
  | bl i =>
    cases rx
    cases y with
    | non => cases ry; exact PySem.EqNone.eq_bool_none (fin_bl I q (by simp))
    | bl j => cases ry; exact eq_bool (fin_bl I q dec_bl)
    | str j => obtain ⟨t', rfl⟩ := ry; exact PySem.EqMixed.eq_bool_str (fin_bl I q (by simp))
    | _ => exact absurd (show false = true from hs) Bool.false_ne_true
  | int i =>
    obtain ⟨t, rfl⟩ := rx
    cases y with
    | non => cases ry; exact PySem.EqNone.eq_int_none (fin_bl I q (by simp))
    | int j => obtain ⟨t', rfl⟩ := ry; exact eq_int (fin_bl I q dec_int)
    | str j => obtain ⟨t', rfl⟩ := ry; exact PySem.EqMixed.eq_int_str (fin_bl I q (by simp))
    | _ => exact absurd (show false = true from hs) Bool.false_ne_true
  | str i =>
    obtain ⟨t, rfl⟩ := rx
    cases y with
    | non => cases ry; exact PySem.EqNone.eq_str_none (fin_bl I q (by simp))
    | bl j => cases ry; exact PySem.EqMixed.eq_str_bool (fin_bl I q (by simp))
    | int j => obtain ⟨t', rfl⟩ := ry; exact PySem.EqMixed.eq_str_int (fin_bl I q (by simp))
    | str j => obtain ⟨t', rfl⟩ := ry; exact eq_str (fin_bl I q dec_str)
    | _ => exact absurd (show false = true from hs) Bool.false_ne_true
  | byt i =>
    obtain ⟨t, rfl⟩ := rx
    cases y with
    | byt j => obtain ⟨t', rfl⟩ := ry; exact PySem.W.eq_bytes (fin_bl I q dec_byt)
    | _ => exact absurd (show false = true from hs) Bool.false_ne_true
  | _ => cases y <;> exact absurd (show false = true from hs) Bool.false_ne_true
theorem op_ne : OpR X (compareOp .NotEq) rNe := by
  intro pins s σ H x y v u Q I rx ry h
  obtain ⟨hs, q⟩ := h
  cases x with
  | non =>
    cases rx
    cases y with
    | non => cases ry; exact PySem.EqNone.ne_none_none (fin_bl I q (by simp))
    | bl j => cases ry; exact PySem.EqNone.ne_none_bool (fin_bl I q (by simp))
    | int j => obtain ⟨t', rfl⟩ := ry; exact PySem.EqNone.ne_none_int (fin_bl I q (by simp))
    | str j => obtain ⟨t', rfl⟩ := ry; exact PySem.EqNone.ne_none_str (fin_bl I q (by simp))
    | _ => exact absurd (show false = true from hs) Bool.false_ne_true
  | bl i =>
    cases rx
    cases y with
    | non => cases ry; exact PySem.EqNone.ne_bool_none (fin_bl I q (by simp))
    | bl j => cases ry; exact ne_bool (fin_bl I q (congrArg not dec_bl))
    | str j => obtain ⟨t', rfl⟩ := ry; exact PySem.EqMixed.ne_bool_str (fin_bl I q (by simp))
    | _ => exact absurd (show false = true from hs) Bool.false_ne_true
  | int i =>
    obtain ⟨t, rfl⟩ := rx
    cases y with
    | non => cases ry; exact PySem.EqNone.ne_int_none (fin_bl I q (by simp))
    | int j => obtain ⟨t', rfl⟩ := ry; exact ne_int (fin_bl I q (congrArg not dec_int))
    | str j => obtain ⟨t', rfl⟩ := ry; exact PySem.EqMixed.ne_int_str (fin_bl I q (by simp))
    | _ => exact absurd (show false = true from hs) Bool.false_ne_true
  | str i =>
    obtain ⟨t, rfl⟩ := rx
    cases y with
    | non => cases ry; exact PySem.EqNone.ne_str_none (fin_bl I q (by simp))
    | bl j => cases ry; exact PySem.EqMixed.ne_str_bool (fin_bl I q (by simp))
    | int j => obtain ⟨t', rfl⟩ := ry; exact PySem.EqMixed.ne_str_int (fin_bl I q (by simp))
    | str j => obtain ⟨t', rfl⟩ := ry; exact ne_str (fin_bl I q (congrArg not dec_str))
    | _ => exact absurd (show false = true from hs) Bool.false_ne_true
  | byt i =>
    obtain ⟨t, rfl⟩ := rx
    cases y with
    | byt j => obtain ⟨t', rfl⟩ := ry; exact PySem.W.ne_bytes (fin_bl I q (congrArg not dec_byt))
    | _ => exact absurd (show false = true from hs) Bool.false_ne_true
  | _ => cases y <;> exact absurd (show false = true from hs) Bool.false_ne_true
theorem op_gt : OpR X (compareOp .Gt) (rI0 fun i j => .bl (decide (j < i))) := opB0 fun _ _ _ _ _ _ _ q => gt_int q
theorem nomark (b : Expr) {op : CmpOp} (h : op ≠ .In := by decide) (h2 : op ≠ .NotIn := by decide) : behindInMarks op b = false := by
  have e1 : (op == CmpOp.In) = false := by cases op <;> first | rfl | exact absurd rfl h
  have e2 : (op == CmpOp.NotIn) = false := by cases op <;> first | rfl | exact absurd rfl h2
  cases b <;> simp [behindInMarks, e1, e2]
theorem pe_cmpR {op : CmpOp} {r : R2} (ho : OpR X (compareOp op) r) (ha : PE X a ta) (hb : PE X b tb) (hm : behindInMarks op b = false) : PE X (.Compare a [op] [b] pos) (tOp r ta tb) := by
  intro pins s σ H Q I h
  exact wpAny_Compare1 (binT ha hb I h fun v u s2 x y H2 I2 rx ry q => ho pins s2 σ H2 x y v u Q I2 rx ry q) hm
noncomputable def tTest (t : TE) : TT := fun σ H Q => t σ H fun x H' => ∃ k, x = .bl k ∧ Q k H'
theorem pt_cmpR {op : CmpOp} {r : R2} (ho : OpR X (compareOp op) r) (ha : PE X a ta) (hb : PE X b tb) (hm : behindInMarks op b = false) : PT X (.Compare a [op] [b] pos) (tTest (tOp r ta tb)) := by
  intro pins s σ H Q I h
  refine wpAny_isTrue_Compare1 (thn (ha pins s σ H _ I h) fun v s1 ⟨x, H1, I1, r1, q1⟩ => thn (hb pins s1 σ H1 _ I1 q1) fun u s2 ⟨y, H2, I2, r2, q2⟩ =>
    thn (ho pins s2 σ H2 x y v u _ I2 r1 r2 q2) fun c s3 ⟨z, H3, I3, r3, k, e, q3⟩ => ?_) hm
  subst e
  cases r3
  exact wpAny_truthy_bool ⟨H3, I3, q3⟩
theorem line63 : (sizeLine : Nat) < 2 ^ 63 := by rw [sizeLine_eq]; decide
theorem op_add_str : OpR X (binaryOp .Add) (fun x y H Q => ∃ i j, x = .str i ∧ y = .str j ∧ i.length + j.length ≤ sizeLine ∧ Q (.str (i ++ j)) H) := by
  intro pins s σ H x y v u Q I rx ry h
  obtain ⟨i, j, rfl, rfl, hz, q⟩ := h
  obtain ⟨t, rfl⟩ := rx
  obtain ⟨t', rfl⟩ := ry
  exact add_str (fun t' tk => ⟨.str (i ++ j), H, I.tok _, ⟨_, rfl⟩, q⟩) hz
theorem vals1 {x : V} {us : List Value} (r : Vals [x] us) : ∃ u, us = [u] ∧ RelV x u := by
  cases r with
  | cons r1 r2 => cases r2; exact ⟨_, rfl, r1⟩
theorem vals2 {x y : V} {us : List Value} (r : Vals [x, y] us) : ∃ u w', us = [u, w'] ∧ RelV x u ∧ RelV y w' := by
  cases r with
  | cons r1 r2 =>
    cases r2 with
    | cons r3 r4 => cases r4; exact ⟨_, _, rfl, r1, r3⟩
theorem call_max2 (hc : X.calm = true) : CallR X (.builtin "max") (fun xs H Q => ∃ i j, xs = [.int i, .int j] ∧ Q (.int (if j > i then j else i)) H) := by
  intro pins s σ H xs us Q I r h
  obtain ⟨i, j, rfl, q⟩ := h
  obtain ⟨u, w', rfl, ⟨t, rfl⟩, ⟨t', rfl⟩⟩ := vals2 r
  refine max_two_ints (I.ok.hd hc) fun h' tk k => ⟨_, H, I.kept k, ?_, q⟩
  by_cases hj : j > i
  · rw [if_pos hj, if_pos hj]; exact ⟨_, rfl⟩
  · rw [if_neg hj, if_neg hj]; exact ⟨_, rfl⟩
end
end L2
namespace L2
open PySem PySem.Spec PyProof.Rows
structure ObjM (h : Heap) (x dx C : Addr) (mA : Str → Option Value) : Prop where
  obj : h.get? x = some (PySem.W.instObj C dx)
  ns : h.Ns1 dx mA
  ne : dx ≠ x
theorem lookIn_ns {h : Heap} {dx : Addr} {mA : Str → Option Value} (n : h.Ns1 dx mA) : ∃ od, h.get? dx = some od ∧ ∀ name, PySem.W.lookIn name od = some (mA name) := by
  obtain ⟨o, es, ep, ho, hd, hk, _, hm⟩ := n
  refine ⟨o, ho, fun name => ?_⟩
  have e := hm name
  unfold nsFind findBy at e
  rw [← Array.find?_toList] at e
  unfold PySem.W.lookIn
  rw [hd]
  dsimp only
  split
  · rename_i y q
    rw [q] at e
    exact congrArg some e
  · rename_i q
    rw [q] at e
    have a : es.toList.any (·.refKey) = false := by
      rw [List.any_eq_false]
      intro y hy
      obtain ⟨z, t, hkey⟩ := hk y (Array.mem_toList_iff.mp hy)
      simp [DictEntry.refKey, hkey]
    have a' : ¬ es.toList.any (·.refKey) = true := by rw [a]; exact Bool.false_ne_true
    rw [if_neg a']
    exact congrArg some e
theorem ObjM.look {h : Heap} {x dx C : Addr} {mA : Str → Option Value} (I : ObjM h x dx C mA) : ∃ od, PySem.W.InstAt h x (PySem.W.instObj C dx) C (some od) ∧ ∀ name, PySem.W.lookIn name od = some (mA name) :=
  let ⟨od, ho, hl⟩ := lookIn_ns I.ns
  ⟨od, ⟨I.obj, rfl, rfl, ho⟩, hl⟩
section
variable {prog : Program} {w : World} {A : Around} {E : Value → Shared → Prop} {s : Shared} {K : PySem.W.Frag} {x dx C f : Addr} {mA : Str → Option Value} {name : Str} {v : Value}
theorem get_map {expr : Bool} {Q : Value → Shared → Prop} (X : K.In s.heap) (I : ObjM s.heap x dx C mA) (hg : PySem.W.plainGet K C name = true) (hh : PySem.W.hasDictIn K C = true)
    (ha : PySem.W.findIn K (.ref C) name = some none) (hv : mA name = some v) (hv' : PySem.W.handedIn v = true) (h : Q v { s with toks := s.toks + 1 }) :
    wpAny (model prog w) A (getAttr (.ref x) name expr) Q E s := by
  obtain ⟨od, J, hl⟩ := I.look
  exact PySem.W.get_value X J (PySem.W.plainGet_of hg).1 (PySem.W.findObj_own hh ha rfl (by rw [hl, hv])) hv' h
theorem get_meth {pl : Sem Bool} {Q : Value × List Value → Shared → Prop} (X : K.In s.heap) (I : ObjM s.heap x dx C mA) (hg : PySem.W.plainGet K C name = true)
    (hf : PySem.W.findIn K (.ref C) name = some (some (.ref f))) (ht : PySem.W.isFn K (.ref f) = true) (hv : mA name = none) (h : Q (.ref f, [.ref x]) s) :
    wpAny (model prog w) A (getMethod (.ref x) name pl) Q E s := by
  obtain ⟨od, J, hl⟩ := I.look
  exact PySem.W.method_fn X J (PySem.W.plainGet_of hg).1 (PySem.W.plainGet_of hg).2 hf (beq_iff_eq.mp ht) (by show (PySem.W.lookIn name od).map (·.isSome) = some false; rw [hl, hv]; rfl) h
theorem set_map {ns : List Str} {Q : Unit → Shared → Prop} (X : K.In s.heap) (I : ObjM s.heap x dx C mA)
    (hs : PySem.W.findIn K (.ref C) "__setattr__" = some (some (.builtin "object.__setattr__"))) (hp : PySem.W.plainOver K C = true) (ht : PySem.W.takerIn K C name = some none) (hh : PySem.W.hasDictIn K C = true)
    (hw : PySem.Within mA ns) (hsz : ns.length ≤ sizeLine)
    (h : ∀ h', ObjM h' x dx C (fun y => if y = name then some v else mA y) → Heap.SameBut dx s.heap h' → Q () { s with heap := h', toks := s.toks + 2 }) :
    wpAny (model prog w) A (setAttr (.ref x) name v) Q E s := by
  obtain ⟨od, J, hl⟩ := I.look
  refine PySem.W.set_plain X J hs (PySem.W.osa_open (s := { s with toks := s.toks + 1 }) (r := none) X J hp ht fun b => ?_)
  obtain ⟨cd, hc, hd'⟩ := PySem.W.any_some hh
  have hx : s.heap.get? x = some ⟨.ref C, some dx, .plain, #[]⟩ := I.obj
  refine wpAny_bind (wpAny_pure (wpAny_bind (wpAny_bind (wpAny_loadPart hx (wpAny_bind (PySem.W.Looks.here (s := { s with toks := s.toks + 1 }) (PySem.W.looks_clsIn X hc) ?_))))))
  rw [hd']
  refine wpAny_pure (a := some dx) (wpAny_bind (wpAny_pure (wpAny_bind ?_)))
  refine wpAny_nsSet1 (s := { s with toks := s.toks + 1 }) I.ns fun h' hn2 hs2 => ?_
  obtain ⟨oD, esD, epD, hoD, hdD, hcD⟩ := hn2.count (PySem.Within.cons name v hw)
  refine wpAny_bind (wpAny_lookBehind hoD (by rw [hdD]; exact pastItsLine_dict (Nat.le_trans hcD (by rw [List.length_cons]; omega))) ?_)
  exact wpAny_pure (h _ ⟨(hs2.2 _ (Ne.symm I.ne)).trans I.obj, hn2, I.ne⟩ hs2)
theorem make_map {R : Result → Shared → Prop} {vs : List Value} {kw : List (Str × Value)} (X : K.In s.heap) (hm : PySem.W.makesIn K C = true)
    (hi : PySem.W.findIn K (.ref C) "__init__" = some (some (.ref f))) (hf : PySem.W.typeIn K (.ref f) = some (.type "function"))
    (h : codeAny (model prog w) (A.under (.builtin "type.__call__" ⟨.ref C :: vs, kw⟩)) (.call (.ref f) ⟨.ref (s.heap.objs.size + 1) :: vs, kw⟩) (PySem.W.InitBack (s.heap.objs.size + 1) R)
      { s with heap := (s.heap.push PySem.W.emptyDict).push (PySem.W.instObj C s.heap.objs.size) }) :
    codeAny (model prog w) A (.call (.ref C) ⟨vs, kw⟩) R s := by
  obtain ⟨hh, g, d, t, os⟩ := s
  exact PySem.W.make_core (PySem.W.makes_of X hm) (PySem.W.looks_findIn X hi) (fun self => PySem.W.bind_fn X self hf) (.inl rfl) h
end
noncomputable def putF (f : Str) (v : V) : List (Str × V) → List (Str × V)
  | [] => [(f, v)]
  | (g, x) :: r => if g = f then (g, v) :: r else (g, x) :: putF f v r
theorem lookup_putF (f g : Str) (v : V) : ∀ fs : List (Str × V), (putF f v fs).lookup g = if g = f then some v else fs.lookup g
  | [] => by
    show List.lookup g [(f, v)] = _
    by_cases h : g = f
    · have hb : (g == f) = true := beq_iff_eq.mpr h
      simp only [List.lookup, hb, if_pos h]
    · have hb : (g == f) = false := beq_eq_false_iff_ne.mpr h
      simp only [List.lookup, hb, if_neg h]
  | (k, x) :: r => by
    have ih := lookup_putF f g v r
    rw [show putF f v ((k, x) :: r) = (if k = f then (k, v) :: r else (k, x) :: putF f v r) from rfl]
    by_cases hk : k = f
    · rw [if_pos hk]
      by_cases h : g = k
      · have hb : (g == k) = true := beq_iff_eq.mpr h
        simp only [List.lookup, hb, if_pos (h.trans hk)]
      · have hb : (g == k) = false := beq_eq_false_iff_ne.mpr h
        simp only [List.lookup, hb, if_neg (fun e : g = f => h (e.trans hk.symm))]
    · rw [if_neg hk]
      by_cases h : g = k
      · have hb : (g == k) = true := beq_iff_eq.mpr h
        simp only [List.lookup, hb, if_neg (fun e : g = f => hk (h.symm.trans e))]
      · have hb : (g == k) = false := beq_eq_false_iff_ne.mpr h
        simp only [List.lookup, hb]
        exact ih
theorem keys_putF (f : Str) (v : V) : ∀ fs : List (Str × V), f ∈ (putF f v fs).map (·.1) ∧ ∀ g, g ∈ fs.map (·.1) → g ∈ (putF f v fs).map (·.1)
  | [] => ⟨by simp [putF], fun g h => by simp at h⟩
  | (k, x) :: r => by
    obtain ⟨i1, i2⟩ := keys_putF f v r
    rw [show putF f v ((k, x) :: r) = (if k = f then (k, v) :: r else (k, x) :: putF f v r) from rfl]
    by_cases hk : k = f
    · rw [if_pos hk]
      subst hk
      exact ⟨by simp, fun g h => by simpa using h⟩
    · rw [if_neg hk]
      refine ⟨?_, fun g h => ?_⟩
      · rw [List.map_cons]
        exact List.mem_cons_of_mem _ i1
      · rw [List.map_cons] at h ⊢
        rcases List.mem_cons.mp h with e | e
        · exact List.mem_cons.mpr (.inl e)
        · exact List.mem_cons_of_mem _ (i2 g e)
theorem length_putF (f : Str) (v : V) : ∀ fs : List (Str × V), (putF f v fs).length ≤ fs.length + 1
  | [] => by simp [putF]
  | (k, x) :: r => by
    have ih := length_putF f v r
    rw [show putF f v ((k, x) :: r) = (if k = f then (k, v) :: r else (k, x) :: putF f v r) from rfl]
    by_cases hk : k = f
    · rw [if_pos hk, List.length_cons, List.length_cons]; omega
    · rw [if_neg hk, List.length_cons, List.length_cons]; omega
theorem RelO.some_of {v : V} {o : Option Value} (r : RelO (some v) o) : ∃ u, o = some u ∧ RelV v u := by
  cases o with
  | none => exact (show False from r).elim
  | some u => exact ⟨u, rfl, r⟩
theorem RelO.none_of {o : Option Value} (r : RelO none o) : o = none := by
  cases o with
  | none => rfl
  | some u => exact (show False from r).elim
theorem handed_of {v : V} {u : Value} (r : RelV v u) : PySem.W.handedIn u = true := by
  cases v with
  | non => cases (show u = Value.none from r); rfl
  | bl b => cases (show u = Value.bool b from r); rfl
  | int i => obtain ⟨t, e⟩ := (show ∃ t, u = Value.int i t from r); cases e; rfl
  | str x => obtain ⟨t, e⟩ := (show ∃ t, u = Value.str x t from r); cases e; rfl
  | byt b => obtain ⟨t, e⟩ := (show ∃ t, u = Value.bytes b t from r); cases e; rfl
  | flt b => obtain ⟨t, e⟩ := (show ∃ t, u = Value.float b t from r); cases e; rfl
  | ref a => cases (show u = Value.ref a from r); rfl
  | ty n => cases (show u = Value.type n from r); rfl
section
variable {P : Program} {w : World} {H H' : Hp} {h h' : Heap} {a C dx : Addr} {fs fs' : List (Str × V)}
theorem ins_get (hok : HOk P w H h) (e : H a = some (.ins C dx fs)) : ∃ mA, ObjM h a dx C mA ∧ (∀ f, RelO (fs.lookup f) (mA f)) ∧ PySem.Within mA (fs.map (·.1)) ∧ fs.length ≤ 1000 ∧ H dx = some (.own a) := by
  obtain ⟨d, z, ne, ob, mA, n, r, q⟩ := (show ObjOk P w H h a (.ins C dx fs) from hok a _ e)
  exact ⟨mA, ⟨ob, n, ne⟩, r, q, z, d⟩
end
structure Cls (K : PySem.W.Frag) (C : Addr) : Prop where
  pg : PySem.W.plainGet K C Str.empty = true
  hd : PySem.W.hasDictIn K C = true
  po : PySem.W.plainOver K C = true
  sa : PySem.W.findIn K (.ref C) "__setattr__" = some (some (.builtin "object.__setattr__"))
theorem Cls.get {K : PySem.W.Frag} {C : Addr} (c : Cls K C) (f : Str) : PySem.W.plainGet K C f = true := c.pg
noncomputable def NoAttr (K : PySem.W.Frag) (C : Addr) (f : Str) : Prop := PySem.W.findIn K (.ref C) f = some none
theorem NoAttr.taker {K : PySem.W.Frag} {C : Addr} {f : Str} (n : NoAttr K C f) : PySem.W.takerIn K C f = some none := by
  unfold PySem.W.takerIn
  rw [show PySem.W.findIn K (.ref C) f = some none from n]
  rfl
structure Meth (K : PySem.W.Frag) (C : Addr) (m : Str) (f : Addr) : Prop where
  at_ : PySem.W.findIn K (.ref C) m = some (some (.ref f))
  fn : PySem.W.isFn K (.ref f) = true
  kp : PySem.W.keepIn K (.ref f) = true
section
variable {X : Cx} {pins : List (Addr × Obj)} {σ : St} {H : Hp} {s : Shared} {a C dx : Addr} {fs : List (Str × V)} {f : Str} {v : V} {A : Around} {E : Value → Shared → Prop}
theorem getattr_ok {b : Bool} {Q : Value → Shared → Prop} (I : Inv X pins σ H s) (e : H a = some (.ins C dx fs)) (c : Cls X.K C) (n : NoAttr X.K C f) (l : fs.lookup f = some v)
    (h : ∀ u s', Inv X pins σ H s' → RelV v u → Q u s') : wpAny (model X.prog X.w) A (getAttr (.ref a) f b) Q E s := by
  obtain ⟨mA, O, r, _, _, _⟩ := ins_get I.hok e
  obtain ⟨u, hu, ru⟩ := RelO.some_of (v := v) (o := mA f) (by rw [← l]; exact r f)
  exact get_map I.kIn O (c.get f) c.hd n hu (handed_of ru) (h u _ (I.tok _) ru)
theorem getmeth_ok {m : Str} {g : Addr} {pl : Sem Bool} {Q : Value × List Value → Shared → Prop} (I : Inv X pins σ H s) (e : H a = some (.ins C dx fs)) (c : Cls X.K C) (k : Meth X.K C m g) (l : fs.lookup m = none)
    (h : Q (.ref g, [.ref a]) s) : wpAny (model X.prog X.w) A (getMethod (.ref a) m pl) Q E s := by
  obtain ⟨mA, O, r, _, _, _⟩ := ins_get I.hok e
  have hn : mA m = none := RelO.none_of (by rw [← l]; exact r m)
  exact get_meth I.kIn O (c.get m) k.at_ k.fn hn h
theorem setattr_ok {y : V} {u : Value} {Q : Unit → Shared → Prop} (I : Inv X pins σ H s) (e : H a = some (.ins C dx fs)) (c : Cls X.K C) (n : NoAttr X.K C f) (hl : fs.length < 1000) (ry : RelV y u)
    (h : ∀ s', Inv X pins σ (upd H a (.ins C dx (putF f y fs))) s' → Q () s') : wpAny (model X.prog X.w) A (setAttr (.ref a) f u) Q E s := by
  obtain ⟨mA, O, r, wi, _, ho⟩ := ins_get I.hok e
  have hz : (fs.map (·.1)).length ≤ sizeLine := by rw [List.length_map, sizeLine_eq]; omega
  refine set_map I.kIn O c.sa c.po n.taker c.hd wi hz fun h' O' sb => h _ ?_
  have hd : ∃ o, h'.get? dx = some o := let ⟨o, _, _, e', _⟩ := O'.ns; ⟨o, e'⟩
  refine I.write (x := a) (e := dx) (by rw [e]; exact True.intro) (.inr ho) (fun b q hb z => (sb.2 b hb).trans z) hd ?_
  refine ⟨by rw [upd_ne O.ne]; exact ho, ?_, O.ne, O'.obj, _, O'.ns, fun g => ?_, fun g hg => ?_⟩
  · have := length_putF f y fs; omega
  · show RelO ((putF f y fs).lookup g) (if g = f then some u else mA g)
    rw [lookup_putF]
    by_cases q : g = f
    · rw [if_pos q, if_pos q]; exact ry
    · rw [if_neg q, if_neg q]; exact r g
  · by_cases q : g = f
    · rw [q]; exact (keys_putF f y fs).1
    · refine (keys_putF f y fs).2 g (wi g fun z => hg ?_)
      show (if g = f then some u else mA g) = none
      rw [if_neg q]; exact z
theorem Inv.made (I : Inv X pins σ H s) : Inv X pins σ (upd (upd H s.heap.objs.size (.own (s.heap.objs.size + 1))) (s.heap.objs.size + 1) (.ins C s.heap.objs.size []))
    { s with heap := (s.heap.push PySem.W.emptyDict).push (PySem.W.instObj C s.heap.objs.size) } := by
  have e1 : (s.heap.push PySem.W.emptyDict).get? s.heap.objs.size = some PySem.W.emptyDict := Heap.get?_push_size s.heap rfl
  have e2 : ((s.heap.push PySem.W.emptyDict).push (PySem.W.instObj C s.heap.objs.size)).get? (s.heap.objs.size + 1) = some (PySem.W.instObj C s.heap.objs.size) := by
    have := Heap.get?_push_size (s.heap.push PySem.W.emptyDict) (o := PySem.W.instObj C s.heap.objs.size) rfl
    rwa [Heap.size_push] at this
  have e3 : (s.heap.push PySem.W.emptyDict).Ns s.heap.objs.size (fun _ => none) := ⟨PySem.W.emptyDict, #[], _, e1, rfl, (fun e he => absurd he (by simp)), fun _ => rfl⟩
  have I1 := I.laid (a := s.heap.objs.size) (o := .own (s.heap.objs.size + 1)) (h' := s.heap.push PySem.W.emptyDict) (t' := s.toks) (fun b u q => Heap.get?_push_of_some _ q) (Nat.le_refl _) ⟨_, e1⟩
  refine I1.laid (a := s.heap.objs.size + 1) (o := .ins C s.heap.objs.size []) (t' := s.toks) (fun b u q => Heap.get?_push_of_some _ q) (Nat.le_of_eq (Heap.size_push _ _)) ?_
  have ne : s.heap.objs.size ≠ s.heap.objs.size + 1 := Nat.ne_of_lt (Nat.lt_succ_self _)
  refine ⟨by rw [upd_ne ne, upd_same], Nat.zero_le _, ne, e2, fun _ => none, (Heap.Ns1.of_empty e3).at fun o q => Heap.get?_push_of_some _ q, fun _ => True.intro, fun y hy => absurd rfl hy⟩
theorem attr_of {prog : Program} {w : World} {env : Env} {e : Expr} {f : Str} {pos : Pos} {s : Shared} {Q : Value → Shared → Prop} (hb : attributeBase e f env (eval e env) = eval e env)
    (h : wpAny (model prog w) A (eval e env) (fun o s₁ => wpAny (model prog w) A (getAttr o f true) Q E s₁) E s) : wpAny (model prog w) A (eval (.Attribute e f pos) env) Q E s :=
  Attribute_any_ h (by rw [arm_eval_Attribute, hb])
end
section
variable {X : Cx} {o e value : Expr} {f : Str} {pos pos' tpos : Pos} {ta tv : TE}
end
section
variable {X : Cx} {pins : List (Addr × Obj)} {σ : St} {H : Hp} {s : Shared} {A : Around} {E : Value → Shared → Prop} {Q : Value → Shared → Prop} {c : Value} {b : Bool}
end
end L2
namespace L2
open PySem PySem.Spec PyProof.Rows
structure Room (k : Nat) (A : Around) : Prop where
  hd : A.handled = none
  dp : A.depth + 3 * k + 5 < recursionLimit
  un : A.units + 16 * k + 200 < cLine
theorem Room.mono {j k : Nat} {A : Around} (r : Room k A) (h : j ≤ k) : Room j A := ⟨r.hd, by have := r.dp; omega, by have := r.un; omega⟩
theorem Room.deeper {k : Nat} {A : Around} (r : Room (k + 1) A) (env : Env) : Room k (A.deeper env) :=
  ⟨r.hd, by have := r.dp; show A.depth + 1 + 3 * k + 5 < _; omega, by have := r.un; show A.units + 3 + 16 * k + 200 < _; omega⟩
theorem make_depth {A : Around} {C : Addr} {us : List Value} {kw : List (Str × Value)} : (A.under (.builtin "type.__call__" ⟨.ref C :: us, kw⟩)).depth = A.depth + 1 := by
  first | rfl | simp [Around.under, Code.weight, Code.isCreation, Code.isGuard, Code.isCaller, Code.frames, Code.isFrame, guardIds]
theorem make_units {A : Around} {C : Addr} {us : List Value} {kw : List (Str × Value)} : (A.under (.builtin "type.__call__" ⟨.ref C :: us, kw⟩)).units = A.units + 1 := by
  first | rfl | simp [Around.under, Code.cUnits, Code.frames, Code.isFrame]
theorem Room.make {k : Nat} {A : Around} (r : Room (k + 1) A) (C : Addr) (us : List Value) (kw : List (Str × Value)) : Room k (A.under (.builtin "type.__call__" ⟨.ref C :: us, kw⟩)) :=
  ⟨r.hd, by have := r.dp; rw [make_depth]; omega, by have := r.un; rw [make_units]; omega⟩
theorem Room.depth {k : Nat} {A : Around} (r : Room k A) : A.depth < recursionLimit := by have := r.dp; omega
theorem Room.units {k : Nat} {A : Around} (r : Room k A) : A.units + 64 < cLine := by have := r.un; omega
noncomputable def tNil : TA := fun _ H Q => Q [] H
noncomputable def tCons (ta : TE) (tr : TA) : TA := fun σ H Q => ta σ H fun x H1 => tr σ H1 fun xs H2 => Q (x :: xs) H2
section
variable {X : Cx} {e : Expr} {es : List Expr} {te : TE} {t : TA} {pos : Pos}
theorem pa_nil : PA X [] tNil := fun _ _ _ _ H Q I h => Calls.spliced_nil ⟨[], H, I, .nil, h⟩
theorem pa_cons (ha : PE X e te) (hr : PA X es t) (hs : starEach (e :: es) X.env = (false, eval e X.env) :: starEach es X.env := by rfl) : PA X (e :: es) (tCons te t) := by
  intro pos pins s σ H Q I h
  rw [hs]
  show wpAny _ _ (spliced ((false, eval e X.env) :: backTo pos (starEach es X.env))) _ _ s
  refine Calls.spliced_cons (thn (ha pins s σ H _ I h) fun u s1 zr1705 => ?_)
  obtain ⟨x, H1, I1, r1, q1⟩ := zr1705
  exact thn (hr pos pins s1 σ H1 _ I1 q1) fun us s2 zq3 => by obtain ⟨xs, H2, I2, r2, q2⟩ := zq3; exact (⟨x :: xs, H2, I2, .cons r1 r2, q2⟩)
noncomputable def tTup (t : TA) : TE := fun σ H Q => t σ H fun xs H1 => xs.length ≤ sizeLine ∧ ∀ p, H1 p = none → Q (.ref p) (upd H1 p (.tup xs))
noncomputable def tLst (t : TA) : TE := fun σ H Q => t σ H fun xs H1 => xs.length ≤ sizeLine ∧ ∀ p, H1 p = none → Q (.ref p) (upd H1 p (.lst xs))
theorem pe_tup {x1} (h : PA X es t) : PE X (.Tuple es x1 pos) (tTup t) := by
  intro pins s σ H Q I hq
  refine wpAny_Tuple_spliced (thn (h pos pins s σ H _ I hq) fun us s1 ⟨xs, H1, I1, r, z, q⟩ => ⟨by rw [← r.length]; exact z, ?_⟩)
  have hf : H1 s1.heap.objs.size = none := I1.hok.fresh (Nat.le_refl _)
  refine ⟨.ref s1.heap.objs.size, upd H1 s1.heap.objs.size (.tup xs), I1.laid (t' := s1.toks) (fun b u e => Heap.get?_push_of_some _ e) (Nat.le_refl _) ?_, rfl, q _ hf⟩
  exact ⟨z, us, r, ⟨_, Heap.get?_push_size _ rfl, rfl, _, rfl⟩⟩
theorem pe_lst (h : PA X es t) : PE X (.List es pos) (tLst t) := by
  intro pins s σ H Q I hq
  refine wpAny_List_spliced (thn (h pos pins s σ H _ I hq) fun us s1 ⟨xs, H1, I1, r, z, q⟩ => ⟨by rw [← r.length]; exact z, ?_⟩)
  have hf : H1 s1.heap.objs.size = none := I1.hok.fresh (Nat.le_refl _)
  refine ⟨.ref s1.heap.objs.size, upd H1 s1.heap.objs.size (.lst xs), I1.laid (t' := s1.toks) (fun b u e => Heap.get?_push_of_some _ e) (Nat.le_refl _) ?_, rfl, q _ hf⟩
  exact ⟨z, us, 0, r, Heap.get?_push_size _ rfl⟩
end
noncomputable abbrev Sp := List V → Hp → VK → XK → Prop
noncomputable abbrev CXT := List Env → Hp → Shared → XK → Value → Shared → Prop
structure Env0 (P : Program) (w : World) (K : PySem.W.Frag) (mg : Str → Option Value) (base : Heap) (A : Around) (outer : List Env) (s : Shared) (H : Hp) : Prop where
  frames : A.frames = some outer
  mod : Mod K mg base
  bs : ∀ b o, base.get? b = some o → s.heap.get? b = some o ∧ H b = none
  bsz : base.objs.size ≤ s.heap.objs.size
  funs : s.heap.FunFrames base outer
  frf : ∀ b ∈ frs outer, H b = none
  hok : HOk P w H s.heap
  bare : AllBare s.gens
noncomputable def CE (outer : List Env) (P : Program) (w : World) (H : Hp) (s : Shared) (Q : VK) (u : Value) (s' : Shared) : Prop :=
  ∃ v H', s'.os = s.os ∧ AllBare s'.gens ∧ Un (frs outer) [] H H' s.heap s'.heap ∧ HOk P w H' s'.heap ∧ RelV v u ∧ Q v H'
noncomputable def CR (CX : CXT) (outer : List Env) (P : Program) (w : World) (H : Hp) (s : Shared) (Q : VK) (E : XK) (r : Result) (s' : Shared) : Prop :=
  match r with
  | .ok (.ret u) => CE outer P w H s Q u s'
  | .ok _ => False
  | .error e => CX outer H s E e s'
structure FnOk (P : Program) (w : World) (K : PySem.W.Frag) (mg : Str → Option Value) (base : Heap) (CX : CXT) (k : Nat) (f : Addr) (fd : FuncData) (ps : List Str) (sp : Sp) : Prop where
  len : ∀ vs H Q E, sp vs H Q E → vs.length = ps.length
  run : ∀ (A : Around) (outer : List Env) (s : Shared) (H : Hp) (args : Args) (us : List Value) (vs : List V) (Q : VK) (E : XK), Room k A → Env0 P w K mg base A outer s H → BindsTo s fd args (ps.zip us) → Vals vs us → sp vs H Q E →
    codeAny (model P w) A (.call (.ref f) args) (CR CX outer P w H s Q E) s
theorem Env0.make {P : Program} {w : World} {K : PySem.W.Frag} {mg : Str → Option Value} {base : Heap} {A : Around} {outer : List Env} {s : Shared} {H : Hp} (e : Env0 P w K mg base A outer s H) (C : Addr) (us : List Value) (kw : List (Str × Value)) :
    Env0 P w K mg base (A.under (.builtin "type.__call__" ⟨.ref C :: us, kw⟩)) outer s H := ⟨by first | exact e.frames | (simpa [Around.under, Code.envs, Code.isFrame, pushEnvs] using e.frames), e.mod, e.bs, e.bsz, e.funs, e.frf, e.hok, e.bare⟩
section
variable {X : Cx} {pins : List (Addr × Obj)} {σ : St} {H : Hp} {s s' : Shared}
theorem Inv.env0 (I : Inv X pins σ H s) : Env0 X.prog X.w X.K X.mg X.base X.A X.stack s H :=
  ⟨I.ok.frames, I.ok.mod, I.bs, Nat.le_trans I.ok.bsz I.sz, I.stack, I.stkFree, I.hok, I.bare⟩
theorem Inv.after {Q : VK} {u : Value} (I : Inv X pins σ H s) (h : CE X.stack X.prog X.w H s Q u s') : EP X pins σ Q u s' := by
  obtain ⟨v, H', os, bare, un, hok, r, q⟩ := h
  obtain ⟨hh, g, d, t, os'⟩ := s'
  obtain rfl : os' = s.os := os
  exact ⟨v, H', I.call (h' := hh) (g' := g) (d' := d) (t' := t) (ch := []) un hok bare (fun b z => absurd z (by simp)), r, q⟩
end
noncomputable def tCall (sp : Sp) (dvs : List V) (E : XK) (t : TA) : TE := fun σ H Q => t σ H fun vs H1 => sp (vs ++ dvs) H1 Q E
noncomputable def Binds (K : PySem.W.Frag) (fd : FuncData) (ps : List Str) (ds : List Value) : Prop :=
  ∀ (s : Shared) (us : List Value), K.In s.heap → (us ++ ds).length = ps.length → BindsTo s fd ⟨us, []⟩ (ps.zip (us ++ ds))
theorem Binds.all {K : PySem.W.Frag} {fd : FuncData} {ps : List Str} (h : ∀ us : List Value, us.length = ps.length → bindArgs fd ⟨us, []⟩ = pure (ps.zip us)) : Binds K fd ps [] := fun s us _ hl => by
  rw [List.append_nil] at hl ⊢
  exact .of_eq (h us hl)
noncomputable def Passes (CX : CXT) (X : Cx) (E : XK) : Prop := ∀ (pins : List (Addr × Obj)) (σ : St) (H : Hp) (s : Shared) (e : Value) (s' : Shared), Inv X pins σ H s → CX X.stack H s E e s' → X.xe e s'
section
variable {X : Cx} {CX : CXT} {k : Nat} {f C : Addr} {fd : FuncData} {ps : List Str} {sp : Sp} {dvs : List V} {ds : List Value} {E : XK} {x m : Str} {p pos apos : Pos} {e o : Expr} {es : List Expr} {ta : TE} {t : TA}
theorem run_fn {pins : List (Addr × Obj)} {σ : St} {H : Hp} {s : Shared} {Q : VK} {us : List Value} {vs : List V} (F : FnOk X.prog X.w X.K X.mg X.base CX k f fd ps sp) (hr : Room k X.A) (hb : Binds X.K fd ps ds) (hd : Vals dvs ds) (hx : Passes CX X E)
    (I : Inv X pins σ H s) (r : Vals vs us) (h : sp (vs ++ dvs) H Q E) : wpAny (model X.prog X.w) X.A (call (.ref f) us) (EP X pins σ Q) X.xe s := by
  have r2 : Vals (vs ++ dvs) (us ++ ds) := r.append hd
  have hl : (us ++ ds).length = ps.length := by rw [← r2.length]; exact F.len _ _ _ _ h
  refine wpAny_call (codeAny_mono (F.run X.A X.stack s H ⟨us, []⟩ (us ++ ds) (vs ++ dvs) Q E hr I.env0 (hb s us I.kIn hl) r2 h) fun r s' hq => ?_)
  cases r with
  | error e => exact hx pins σ H s e s' I hq
  | ok fl =>
    cases fl with
    | ret u => exact I.after hq
    | next => exact False.elim hq
    | brk => exact False.elim hq
    | cont => exact False.elim hq
theorem pe_call (F : FnOk X.prog X.w X.K X.mg X.base CX k f fd ps sp) (hr : Room k X.A) (hg : Gl X x) (hm : X.mg x = some (.ref f)) (hk : PySem.W.keepIn X.K (.ref f) = true) (hb : Binds X.K fd ps ds) (hd : Vals dvs ds) (hx : Passes CX X E)
    (ha : PA X (e :: es) t) (hdb : (x == ("__debug__" : Str)) = false := by decide) (he : starEach (e :: es) X.env = (false, eval e X.env) :: starEach es X.env := by rfl) (hpl : (backTo pos (starEach es X.env)).any (·.1) = false := by rfl) :
    PE X (.Call (.Name x p) (e :: es) [] pos) (tCall sp dvs E t) := by
  intro pins s σ H Q I h
  refine wpAny_Call_Name_kw (ld_glob I hg hm ?_ hdb)
  refine PySem.W.callWith_K (h₀ := X.base) I.ok.mod.kin hk (thn (ha pos pins s σ H _ I h) fun us s1 ⟨vs, H1, I1, r, q⟩ => ⟨I1.kIn, ?_⟩) he hpl
  exact run_fn F hr hb hd hx I1 r q
structure Mk (K : PySem.W.Frag) (C f : Addr) : Prop where
  makes : PySem.W.makesIn K C = true
  init : PySem.W.findIn K (.ref C) "__init__" = some (some (.ref f))
  fn : PySem.W.isFn K (.ref f) = true
  kp : PySem.W.keepIn K (.ref C) = true
theorem run_make {pins : List (Addr × Obj)} {σ : St} {H : Hp} {s : Shared} {Q : VK} {us : List Value} {vs : List V} (M : Mk X.K C f) (F : FnOk X.prog X.w X.K X.mg X.base CX k f fd ps sp) (hr : Room (k + 1) X.A) (hb : Binds X.K fd ps ds) (hd : Vals dvs ds)
    (hx : Passes CX X E) (I : Inv X pins σ H s) (r : Vals vs us)
    (h : ∀ x dx, H x = none → H dx = none → dx ≠ x → sp (.ref x :: (vs ++ dvs)) (upd (upd H dx (.own x)) x (.ins C dx [])) (fun v H2 => v = .non ∧ Q (.ref x) H2) E) :
    wpAny (model X.prog X.w) X.A (call (.ref C) us) (EP X pins σ Q) X.xe s := by
  have hq := h (s.heap.objs.size + 1) s.heap.objs.size (I.hok.fresh (Nat.le_succ _)) (I.hok.fresh (Nat.le_refl _)) (Nat.ne_of_lt (Nat.lt_succ_self _))
  have I2 := Inv.made (C := C) I
  have r2 : Vals (V.ref (s.heap.objs.size + 1) :: (vs ++ dvs)) (Value.ref (s.heap.objs.size + 1) :: (us ++ ds)) := .cons rfl (r.append hd)
  have hl : (Value.ref (s.heap.objs.size + 1) :: us ++ ds).length = ps.length := by
    have e := r2.length
    rw [F.len _ _ _ _ hq] at e
    exact e.symm
  refine wpAny_call (make_map (f := f) I.kIn M.makes M.init (beq_iff_eq.mp M.fn) (codeAny_mono (F.run _ X.stack _ _ ⟨Value.ref (s.heap.objs.size + 1) :: us, []⟩ (Value.ref (s.heap.objs.size + 1) :: (us ++ ds)) _ _ E (hr.make C us [])
    (I2.env0.make C us []) (hb _ (Value.ref (s.heap.objs.size + 1) :: us) I2.kIn hl) r2 hq) fun r s' hq' => ?_))
  cases r with
  | error e => exact hx pins σ _ _ e s' I2 hq'
  | ok fl =>
    cases fl with
    | ret u =>
      obtain ⟨v, H', I3, rv, ev, q3⟩ := I2.after hq'
      subst ev
      exact ⟨rv, ⟨V.ref (s.heap.objs.size + 1), H', I3, rfl, q3⟩⟩
    | next => exact False.elim hq'
    | brk => exact False.elim hq'
    | cont => exact False.elim hq'
end
section
variable {X : Cx} {CX : CXT} {k : Nat} {f C : Addr} {fd : FuncData} {ps ks : List Str} {sp : Sp} {E : XK} {x m : Str} {p pos apos kpos : Pos} {e o : Expr} {es : List Expr} {kws : List Keyword} {te ta : TE} {t tk : TA} {nm : Option Str}
variable {g : List Value → List Value → List Value} {gV : List V → List V → List V}
end
structure FnScope (N P : List Str) (sc : Scope) : Prop where
  kind : sc.kind = .function
  co : sc.isCoroutine = false
  gen : sc.isGenerator = false
  nd : N.Nodup
  pre : N.take P.length = P
  par : ∀ x ∈ P, sc.names.lookup x = some .local ∨ sc.names.lookup x = some .cell
  nofree : ∀ y ∈ sc.names, y.2 ≠ .free
theorem bindL_out {kindOf : Str → Option NameKind} {x : Str} : ∀ {binds : List (Str × Value)} {m : Str → Option Value}, (∀ v, (x, v) ∉ binds) → bindL kindOf binds m x = m x
  | [], _, _ => rfl
  | (n, v) :: r, m, h => by
    unfold bindL
    rw [bindL_out fun w hw => h w (List.mem_cons_of_mem _ hw)]
    split
    · have : x ≠ n := by rintro rfl; exact h v List.mem_cons_self
      simp [this]
    · rfl
theorem bindC_out {kindOf : Str → Option NameKind} {x : Str} : ∀ {binds : List (Str × Value)} {m : Str → Option Value}, (∀ v, (x, v) ∉ binds) → bindC kindOf binds m x = m x
  | [], _, _ => rfl
  | (n, v) :: r, m, h => by
    unfold bindC
    rw [bindC_out fun w hw => h w (List.mem_cons_of_mem _ hw)]
    split
    · rfl
    · have : x ≠ n := by rintro rfl; exact h v List.mem_cons_self
      simp [this]
theorem bindL_get {kindOf : Str → Option NameKind} {x : Str} {v : Value} : ∀ {P : List Str} {vs : List Value} {i : Nat} {m : Str → Option Value}, P.Nodup → P[i]? = some x → vs[i]? = some v → kindOf x = some .local →
    bindL kindOf (P.zip vs) m x = some v
  | [], _, _, _, _, h, _, _ => by simp at h
  | _ :: _, [], _, _, _, _, h, _ => by simp at h
  | p :: P, w :: vs, 0, m, nd, h1, h2, hk => by
    simp at h1 h2; subst h1; subst h2
    show bindL kindOf ((p, w) :: P.zip vs) m p = _
    unfold bindL
    rw [bindL_out fun v hv => (List.nodup_cons.mp nd).1 (List.of_mem_zip hv).1, if_pos hk]
    simp
  | p :: P, w :: vs, i + 1, m, nd, h1, h2, hk => by
    show bindL kindOf ((p, w) :: P.zip vs) m x = _
    unfold bindL
    exact bindL_get (i := i) (List.nodup_cons.mp nd).2 (by simpa using h1) (by simpa using h2) hk
theorem bindC_get {kindOf : Str → Option NameKind} {x : Str} {v : Value} : ∀ {P : List Str} {vs : List Value} {i : Nat} {m : Str → Option Value}, P.Nodup → P[i]? = some x → vs[i]? = some v → kindOf x ≠ some .local →
    bindC kindOf (P.zip vs) m x = some v
  | [], _, _, _, _, h, _, _ => by simp at h
  | _ :: _, [], _, _, _, _, h, _ => by simp at h
  | p :: P, w :: vs, 0, m, nd, h1, h2, hk => by
    simp at h1 h2; subst h1; subst h2
    show bindC kindOf ((p, w) :: P.zip vs) m p = _
    unfold bindC
    rw [bindC_out fun v hv => (List.nodup_cons.mp nd).1 (List.of_mem_zip hv).1, if_neg hk]
    simp
  | p :: P, w :: vs, i + 1, m, nd, h1, h2, hk => by
    show bindC kindOf ((p, w) :: P.zip vs) m x = _
    unfold bindC
    exact bindC_get (i := i) (List.nodup_cons.mp nd).2 (by simpa using h1) (by simpa using h2) hk
noncomputable def start (N : List Str) (vs : List V) : St := vs.map some ++ List.replicate (N.length - vs.length) none
noncomputable def cxOf (CX : CXT) (P : Program) (w : World) (K : PySem.W.Frag) (mg : Str → Option Value) (base : Heap) (N : List Str) (qual : Str) (scope : Scope) (f : Addr) (cd : Value) (A : Around) (outer : List Env) (s : Shared) (H : Hp) (E : XK) : Cx where
  prog := P
  w := w
  K := K
  mg := mg
  base := base
  A := A.deeper (envOfC qual scope s.heap.objs.size f cd)
  N := N
  s₀ := s
  H₀ := H
  env := envOfC qual scope s.heap.objs.size f cd
  outer := outer
  stack := envOfC qual scope s.heap.objs.size f cd :: outer
  ex := []
  calm := true
  fn := fun _ => true
  pn := []
  xe := fun e s' => wpAny (model P w) (A.deeper (envOfC qual scope s.heap.objs.size f cd)) (leaving (envOfC qual scope s.heap.objs.size f cd) e) (fun _ s'' => CX outer H s E e s'') (fun e' s'' => CX outer H s E e' s'') s'
theorem cell_has {sc : Scope} {n : Nat} {x : Str} (h : sc.names.lookup x = some .cell) : ∃ c, (cellsFrom n sc.names []).lookup x = some c := by
  have q := PySem.W.cellsFrom_some sc.names n [] (.inl h)
  exact Option.isSome_iff_exists.mp q
theorem inv_start {CX : CXT} {P : Program} {w : World} {K : PySem.W.Frag} {mg : Str → Option Value} {base : Heap} {N ps : List Str} {qual : Str} {scope : Scope} {f : Addr} {cd : Value} {A : Around} {outer : List Env} {s s1 : Shared} {H : Hp} {E : XK} {us : List Value} {vs : List V}
    (S : FnScope N ps scope) (hd : A.handled = none) (e0 : Env0 P w K mg base A outer s H) (hl : vs.length = ps.length) (r : Vals vs us)
    (x : InCallC s s.heap.objs.size (bindL (envOfC qual scope s.heap.objs.size f cd).kindOf (ps.zip us) fun _ => none) (cellsFrom (s.heap.objs.size + 1) scope.names []) (bindC (envOfC qual scope s.heap.objs.size f cd).kindOf (ps.zip us) fun _ => none) s1) :
    Inv (cxOf CX P w K mg base N qual scope f cd A outer s H E) [] (start N vs) H s1 := by
  have hpl : ps.length ≤ N.length := by have := congrArg List.length S.pre; rw [List.length_take] at this; omega
  obtain ⟨h1, tk, rfl, hk⟩ := x.done
  have noA : ∀ b : Addr, b ∉ (cxOf CX P w K mg base N qual scope f cd A outer s H E).ex := fun b z => absurd (show b ∈ ([] : List Addr) from z) (by simp)
  refine ⟨⟨e0.mod, S.kind, rfl, rfl, Nat.le_refl _, fun y z c h1 h2 => ?_, fun y hy => ?_, fun y c _ h => ?_, fun _ => hd, Around.frames_deeper e0.frames, .inr ⟨rfl, rfl⟩, fun b z => absurd z (noA b), e0.bs, e0.bsz, fun b _ _ => noA b, fun b z => absurd z (noA b), e0.funs, e0.frf⟩,
    rfl, e0.bare, Un.kept hk, ⟨_, x.toInCall.ns, fun i y v h1 h2 h3 => ?_⟩, fun y c h => ⟨_, x.cell y c h⟩, e0.hok.fresh (Nat.le_refl _), fun y c h => ?_, fun p hp => absurd (show p ∈ ([] : List (Addr × Obj)) from hp) (by simp), e0.hok.kept hk, ?_⟩
  · exact name_of_addr x.apart (PySem.mem_of_lookup h1) (PySem.mem_of_lookup h2)
  · have hy : scope.names.lookup y = some .cell ∨ scope.names.lookup y = some .free := hy
    rcases hy with hy | hy
    · exact cell_has hy
    · exact absurd rfl (S.nofree _ (PySem.mem_of_lookup hy))
  · exact Nat.le_of_lt (x.above y c (PySem.mem_of_lookup h))
  · have hi : i < vs.length := by
      unfold start at h2
      by_cases hi : i < vs.length
      · exact hi
      · rw [List.getElem?_append_right (by simpa using hi)] at h2
        rw [List.getElem?_replicate] at h2
        split at h2 <;> cases h2
    have ha : vs[i]? = some v := by
      unfold start at h2
      rw [List.getElem?_append_left (by simpa using hi), List.getElem?_map] at h2
      cases e : vs[i]? with
      | none => rw [e] at h2; cases h2
      | some a => rw [e] at h2; cases h2; rfl
    obtain ⟨u, hu, rv⟩ := r.get ha
    have hp : ps[i]? = some y := by
      rw [← S.pre, List.getElem?_take_of_lt (by omega)]; exact h1
    have ndP : ps.Nodup := by rw [← S.pre]; exact S.nd.sublist (List.take_sublist _ _)
    refine ⟨u, rv, ?_⟩
    rcases S.par y (List.mem_of_getElem? hp) with k | k
    · exact .inl ⟨k, bindL_get ndP hp hu k⟩
    · obtain ⟨c, e⟩ := cell_has (n := s.heap.objs.size + 1) k
      refine .inr ⟨.inl k, c, e, ?_⟩
      have q := x.cell y c e
      rw [bindC_get ndP hp hu (by show scope.names.lookup y ≠ _; rw [k]; decide)] at q
      exact q
  · exact e0.hok.fresh (Nat.le_of_lt (x.above y c (PySem.mem_of_lookup h)))
  · unfold start
    show _ = N.length
    rw [List.length_append, List.length_map, List.length_replicate]
    omega
theorem fn_of {CX : CXT} {P : Program} {w : World} {K : PySem.W.Frag} {mg : Str → Option Value} {base : Heap} {k : Nat} {f : Addr} {name qual : Str} {params : Arguments} {body : List Stmt} {scope : Scope} {dV kV doc pm cdv ct oc : Value} {an od : Option Addr}
    {osl : Array (Option Value)} {N ps : List Str} {sp : Sp} (lk : K.lookup f = some ⟨oc, od, .func (PySem.W.fnOf name qual params body scope dV kV doc pm an cdv ct), osl⟩) (hcd : PySem.W.codeIn K cdv qual = true) (S : FnScope N ps scope)
    (len : ∀ vs H Q E, sp vs H Q E → vs.length = ps.length)
    (hbody : ∀ (A : Around) (outer : List Env) (s : Shared) (H : Hp) (vs : List V) (Q : VK) (E : XK), Room k (A.deeper (envOfC qual scope s.heap.objs.size f cdv)) → sp vs H Q E →
      ∃ t, PSs (cxOf CX P w K mg base N qual scope f cdv A outer s H E) body t ∧ t { nx := fun _ H' => Q .non H', rt := Q } (start N vs) H) :
    FnOk P w K mg base CX (k + 1) f (PySem.W.fnOf name qual params body scope dV kV doc pm an cdv ct) ps sp := by
  refine ⟨len, fun A outer s H args us vs Q E hr e0 hb r hsp => ?_⟩
  have hl := len _ _ _ _ hsp
  have KX : K.In s.heap := e0.mod.kin.keeps fun b o e => (e0.bs b o e).1
  have lim : s.heap.NoLimit := e0.mod.nolimit.keeps fun b o e => (e0.bs b o e).1
  have hkind : ∀ y ∈ ps.zip us, scope.names.lookup y.1 = some .local ∨ (scope.names.lookup y.1 = some .cell ∧ ((cellsFrom (s.heap.objs.size + 1) scope.names []).lookup y.1).isSome = true) := fun ⟨n, v⟩ hy => by
    rcases S.par n (List.of_mem_zip hy).1 with q | q
    · exact .inl q
    · exact .inr ⟨q, PySem.W.cellsFrom_some _ _ _ (.inl q)⟩
  refine codeAny_call_function hr.depth (KX _ _ lk) rfl S.co S.gen rfl (PySem.W.codeRec_of KX hcd) (hb _ _ _ _ ?_)
  refine wpAny_newFunctionEnv_cells S.kind hkind fun env he s1 x => ?_
  subst he
  refine ⟨lim.keeps x.toInCall.keep, codeAny_func ?_⟩
  obtain ⟨t, ht, hq⟩ := hbody A outer s H vs Q E (hr.deeper _) hsp
  have I : Inv (cxOf CX P w K mg base N qual scope f cdv A outer s H E) [] (start N vs) H s1 := inv_start S hr.hd e0 hl r x
  refine wpAny_mono (ht [] s1 (start N vs) H _ I hq) (fun fl s' hs => ?_) fun e s' hs => hs
  have fin : ∀ {σ' : St} {H' : Hp} {v : V} {u : Value}, Inv (cxOf CX P w K mg base N qual scope f cdv A outer s H E) [] σ' H' s' → RelV v u → Q v H' → CE outer P w H s Q u s' :=
    fun {σ' H' v u} J rv q => ⟨v, H', J.os, J.bare, J.base, J.hok, rv, q⟩
  cases fl with
  | ret u =>
    obtain ⟨v, σ', H', J, rv, q⟩ := hs
    exact fin J rv q
  | next =>
    obtain ⟨σ', H', J, q⟩ := hs
    exact fin (v := V.non) (u := Value.none) J rfl q
  | brk =>
    obtain ⟨_, _, _, q⟩ := hs
    exact False.elim q
  | cont =>
    obtain ⟨_, _, _, q⟩ := hs
    exact False.elim q
end L2
namespace L2
open PySem PySem.Spec PyProof.Rows
section
variable {X : Cx} {x : Str} {p pos : Pos} {e : Expr} {es : List Expr} {t : TA} {id T : String} {r : List V → Hp → VK → Prop}
noncomputable def tCB (r : List V → Hp → VK → Prop) (t : TA) : TE := fun σ H Q => t σ H fun vs H1 => r vs H1 Q
theorem pe_callB (hc : CallR X (.builtin id) r) (hg : Gl X x) (hm : X.mg x = none) (hv : bootBuiltins x = some (.builtin id)) (ha : PA X (e :: es) t) (hn : x ≠ "__name__" := by decide) (hdb : (x == ("__debug__" : Str)) = false := by decide)
    (he : starEach (e :: es) X.env = (false, eval e X.env) :: starEach es X.env := by rfl) (hpl : (backTo pos (starEach es X.env)).any (·.1) = false := by rfl) : PE X (.Call (.Name x p) (e :: es) [] pos) (tCB r t) := by
  intro pins s σ H Q I h
  refine wpAny_Call_Name_kw (ld_blt I hg hm hv ?_ hn hdb)
  exact PyProof.Rows.callWith_builtin1 (thn (ha pos pins s σ H _ I h) fun us s1 zq4 => by obtain ⟨vs, H1, I1, r1, q1⟩ := zq4; exact (hc pins s1 σ H1 vs us Q I1 r1 q1)) he hpl
theorem pe_callTy (hc : CallR X (.type T) r) (hg : Gl X x) (hm : X.mg x = none) (hv : bootBuiltins x = some (.type T)) (ha : PA X (e :: es) t) (hn : x ≠ "__name__" := by decide) (hdb : (x == ("__debug__" : Str)) = false := by decide)
    (he : starEach (e :: es) X.env = (false, eval e X.env) :: starEach es X.env := by rfl) (hpl : (backTo pos (starEach es X.env)).any (·.1) = false := by rfl) : PE X (.Call (.Name x p) (e :: es) [] pos) (tCB r t) := by
  intro pins s σ H Q I h
  refine wpAny_Call_Name_kw (ld_blt I hg hm hv ?_ hn hdb)
  exact PyProof.Rows.callWith_type1 (thn (ha pos pins s σ H _ I h) fun us s1 zq5 => by obtain ⟨vs, H1, I1, r1, q1⟩ := zq5; exact (hc pins s1 σ H1 vs us Q I1 r1 q1)) he hpl
end
end L2
namespace HT
open PySem PyProof.Rows
section
open PySem.SeqAt
open PySem.AutoSeq1 (wpAny_loadPart')
open PySem.MeetsSeq PySem.MeetsSeq2 PySem.MeetsSeq3
end
section
variable {prog : Program} {w : World} {A : Around} {E : Value → Shared → Prop} {s : Shared}
theorem cat_tup {t b : Addr} {vs ws : List Value} {Q : Value → Shared → Prop} (ht : IsTup s.heap t vs.toArray) (hb : IsTup s.heap b ws.toArray) (hv : vs ≠ [])
    (h1 : ws = [] → Q (.ref t) s) (h2 : ws ≠ [] → Q (.ref s.heap.objs.size) { s with heap := s.heap.push { cls := .type "tuple", data := .seq (vs ++ ws).toArray } })
    (hsz : vs.length + ws.length ≤ sizeLine) : wpAny (model prog w) A (binaryOp .Add (.ref t) (.ref b)) Q E s := by
  obtain ⟨⟨cls, dd, data, sl⟩, ho, hc, n, hd⟩ := id ht
  obtain ⟨⟨cls2, dd2, data2, sl2⟩, ho2, hc2, n2, hd2⟩ := id hb
  simp only at hc hd hc2 hd2
  subst hc hd hc2 hd2
  have e : vs.toArray ++ ws.toArray = (vs ++ ws).toArray := by simp
  by_cases hw : ws = []
  · exact concat_meets ⟨_, ho, rfl⟩ ⟨_, ho2, rfl⟩ noFill_tuple_add seq_tuple_add PySem.F.slot_tuple_add PySem.F.entry_tuple_add (PySem.F.args_tuple_add_2 _ _)
      (tuple_addW1 t b vs.toArray ws.toArray n n2 dd dd2 sl sl2 (by simpa using hv) (by simp [hw])) ⟨ho, ho2, h1 hw⟩
  · refine concat_meets ⟨_, ho, rfl⟩ ⟨_, ho2, rfl⟩ noFill_tuple_add seq_tuple_add PySem.F.slot_tuple_add PySem.F.entry_tuple_add (PySem.F.args_tuple_add_2 _ _)
      (tuple_addW2 t b vs.toArray ws.toArray n n2 dd dd2 sl sl2 (by simpa using hv) (by simpa using hw) (by rw [List.size_toArray, List.size_toArray]; exact hsz)) ⟨ho, ho2, ?_⟩
    rw [e]
    exact h2 hw
noncomputable def sIx (n d : Nat) : Option Int → Nat
  | none => d
  | some v => if v < 0 then (v + (n : Int)).toNat else min v.toNat n
theorem sIx_none (n d : Nat) : sIx n d none = d := rfl
theorem sIx_nat (n d k : Nat) : sIx n d (some (k : Int)) = min k n := by
  show (if (k : Int) < 0 then ((k : Int) + (n : Int)).toNat else min (k : Int).toNat n) = min k n
  rw [if_neg (by omega), Int.toNat_natCast]
theorem sIx_le (n d : Nat) (hd : d ≤ n) (o : Option Int) : sIx n d o ≤ n := by
  cases o with
  | none => exact hd
  | some v =>
    show (if v < 0 then (v + (n : Int)).toNat else min v.toNat n) ≤ n
    by_cases hv : v < 0
    · rw [if_pos hv]; omega
    · rw [if_neg hv]; exact Nat.min_le_right _ _
theorem clip_eq (v : Int) (n d : Nat) : (if v < 0 then max (v + (n : Int)) 0 else min v (n : Int)) = ((sIx n d (some v) : Nat) : Int) := by
  show (if v < 0 then max (v + (n : Int)) 0 else min v (n : Int)) = (((if v < 0 then (v + (n : Int)).toNat else min v.toNat n) : Nat) : Int)
  by_cases hv : v < 0
  · simp only [if_pos hv]; omega
  · simp only [if_neg hv]; omega
theorem adjust_gen (lo hi : Option Int) (n : Nat) : Builtin.Slice.sliceAdjust lo hi 1 (n : Int) = (((sIx n 0 lo : Nat) : Int), ((sIx n n hi : Nat) : Int)) := by
  have h1 : ¬ ((1 : Int) < 0) := by omega
  unfold Builtin.Slice.sliceAdjust
  simp only [h1, if_false]
  refine Prod.ext ?_ ?_
  · cases lo with
    | none => rfl
    | some v => exact clip_eq v n 0
  · cases hi with
    | none => rfl
    | some v => exact clip_eq v n n
theorem places_gen (i j : Nat) : Builtin.Slice.slicePlaces (i : Int) (j : Int) 1 = j - i := by
  unfold Builtin.Slice.slicePlaces
  have h1 : (1 : Int) > 0 := by omega
  simp only [h1, if_true, Int.ediv_one]
  split <;> omega
theorem slicePart_ {v : Value} {o : Option Int} {Q : Option Int → Shared → Prop} (p : IsPart v o) (h : Q o s) : wpAny (model prog w) A (Builtin.Slice.slicePartIndex v) Q E s := by
  cases p with
  | none => exact slicePart_none h
  | int i t => exact slicePart_int h
theorem sliceApplied_gen {sl : Addr} {vl vu : Value} {lo hi : Option Int} {n : Nat} {Q : Int × Int × Nat → Shared → Prop} (hs : s.heap.IsSliceOf sl vl vu .none) (pl : IsPart vl lo) (pu : IsPart vu hi)
    (h : Q (((sIx n 0 lo : Nat) : Int), 1, sIx n n hi - sIx n 0 lo) s) : wpAny (model prog w) A (Builtin.Slice.sliceApplied (.ref sl) (pure (n : Int))) Q E s := by
  obtain ⟨os, hos, hcs, hds⟩ := id hs
  unfold Builtin.Slice.sliceApplied Builtin.Slice.sliceFields
  refine wpAny_bind (wpAny_bind (wpAny_field hos hds (x := vl) rfl (wpAny_bind (wpAny_field hos hds (x := vu) rfl (wpAny_bind (wpAny_field hos hds (x := .none) rfl (wpAny_pure ?_)))))))
  refine wpAny_bind (slicePart_none ?_)
  show wpAny _ _ (if ((1 : Int) == 0) = true then _ else _) _ _ s
  rw [if_neg (by decide)]
  refine wpAny_bind (slicePart_ pl (wpAny_bind (slicePart_ pu (wpAny_bind (wpAny_pure ?_)))))
  show wpAny _ _ (match Builtin.Slice.sliceAdjust lo hi 1 (n : Int) with | (lo, hi) => pure (lo, (1 : Int), Builtin.Slice.slicePlaces lo hi 1)) _ _ s
  rw [adjust_gen lo hi n]
  show wpAny _ _ (pure (((sIx n 0 lo : Nat) : Int), (1 : Int), Builtin.Slice.slicePlaces ((sIx n 0 lo : Nat) : Int) ((sIx n n hi : Nat) : Int) 1)) _ _ s
  rw [places_gen]
  exact wpAny_pure h
theorem pick_gen (xs : Array Value) (i k : Nat) : ((List.range k).filterMap fun (m : Nat) => xs[((i : Int) + (m : Int) * 1).toNat]?).toArray = ((xs.toList.drop i).take k).toArray := by
  have e : (fun (m : Nat) => xs[((i : Int) + (m : Int) * 1).toNat]?) = fun m => xs[i + m]? := by
    funext m
    have : ((i : Int) + (m : Int) * 1).toNat = i + m := by omega
    rw [this]
  rw [e]
  have := pick_run xs i k
  rw [List.filterMap_map] at this
  have e2 : ((fun x => xs[x]?) ∘ fun x => i + x) = fun m => xs[i + m]? := rfl
  rw [e2] at this
  rw [this]
theorem getItem_tuple_cut {t sl : Addr} {items : Array Value} {vl vu : Value} {lo hi : Option Int} {Q : Value → Shared → Prop} (ht : IsTup s.heap t items) (hs : s.heap.IsSliceOf sl vl vu .none) (pl : IsPart vl lo) (pu : IsPart vu hi)
    (hw : ¬ (sIx items.size 0 lo = 0 ∧ sIx items.size items.size hi = items.size))
    (h : Q (.ref s.heap.objs.size) { s with heap := s.heap.push { cls := .type "tuple", data := .seq ((items.toList.drop (sIx items.size 0 lo)).take (sIx items.size items.size hi - sIx items.size 0 lo)).toArray } })
    (hsz : items.size ≤ sizeLine) : wpAny (model prog w) A (getItem (.ref t) (.ref sl)) Q E s := by
  have htake : sizeOk (.seq ((items.toList.drop (sIx items.size 0 lo)).take (sIx items.size items.size hi - sIx items.size 0 lo)).toArray) := by
    show ((items.toList.drop (sIx items.size 0 lo)).take (sIx items.size items.size hi - sIx items.size 0 lo)).toArray.size ≤ sizeLine
    rw [List.size_toArray, List.length_take, List.length_drop, Array.length_toList]
    omega
  have hj : sIx items.size items.size hi ≤ items.size := sIx_le _ _ (Nat.le_refl _) hi
  obtain ⟨os, hos, hcs, hds⟩ := id hs
  have hTs : s.TypeIs (.ref sl) "slice" := ⟨os, hos, hcs⟩
  unfold getItem
  try with_reducible refine wpAny_holding ?_
  first | refine wpAny_bind (wpAny_pure ?_) | skip
  refine wpAny_bind (wpAny_sequenceKey ht.typeIs (by decide) ?_)
  refine wpAny_bind (wpAny_callSpecial?_slot (name := Str.ofString "__getitem__") ht.typeIs PyProof.Rows.slot_tuple_getitem
    (wpAny_call_entry PyProof.Rows.slot_tuple_getitem ht.typeIs entry_tuple_getitem ?_ (args_tuple_getitem _ _)))
  show wpAny _ _ (Builtin.Tuple.tupleItemsOf (.ref t) >>= _) _ _ s
  refine wpAny_bind (tupleItemsOf_ ht ?_)
  refine wpAny_bind (wpAny_typeOf hTs ?_)
  rw [if_pos (by decide)]
  refine wpAny_bind (sliceApplied_gen hs pl pu ?_)
  have hno : ¬ ((((sIx items.size 0 lo : Nat) : Int) == 0 && (1 : Int) == 1 && (sIx items.size items.size hi - sIx items.size 0 lo) == items.size) = true) := by
    intro q
    rw [Bool.and_eq_true, Bool.and_eq_true] at q
    have q1 : ((sIx items.size 0 lo : Nat) : Int) = 0 := eq_of_beq q.1.1
    have q2 : sIx items.size items.size hi - sIx items.size 0 lo = items.size := eq_of_beq q.2
    exact hw ⟨by omega, by omega⟩
  show wpAny _ _ (if (((sIx items.size 0 lo : Nat) : Int) == 0 && (1 : Int) == 1 && (sIx items.size items.size hi - sIx items.size 0 lo) == items.size) = true then _ else _) _ _ s
  rw [if_neg hno, pick_gen]
  first
    | exact wpAny_bind (m := Builtin.Tuple.tupleExact _) (wpAny_newObj_type (wpAny_pure ⟨_, rfl, wpAny_pure h⟩) htake)
    | exact wpAny_bind (m := Builtin.Tuple.tupleExact _) (wpAny_newObj_type (wpAny_bind (wpAny_pure (wpAny_pure ⟨_, rfl, wpAny_pure h⟩))) htake)
    | exact wpAny_bind (wpAny_bind (m := Builtin.Tuple.tupleExact _) (wpAny_newObj_type (wpAny_pure (wpAny_pure ⟨_, rfl, wpAny_pure h⟩)) htake))
    | exact wpAny_bind (wpAny_bind (m := Builtin.Tuple.tupleExact _) (wpAny_newObj_type (wpAny_pure ⟨_, rfl, wpAny_pure h⟩) htake))
end
end HT
namespace L2
open PySem PySem.Spec PyProof.Rows
noncomputable abbrev TO := St → Hp → (Option Int → Hp → Prop) → Prop
noncomputable def PO (X : Cx) (e : Option Expr) (t : TO) : Prop :=
  ∀ (pins : List (Addr × Obj)) (s : Shared) (σ : St) (H : Hp) (Q : Option Int → Hp → Prop), Inv X pins σ H s → t σ H Q →
    wpAny (model X.prog X.w) X.A (evalPart e X.env) (fun u s' => ∃ o H', Inv X pins σ H' s' ∧ IsPart u o ∧ Q o H') X.xe s
noncomputable def tNoPart : TO := fun _ H Q => Q none H
noncomputable def tPart (t : TE) : TO := fun σ H Q => t σ H fun x H1 => ∃ i, x = .int i ∧ Q (some i) H1
section
variable {X : Cx} {e : Expr} {te : TE} {lo hi : Option Expr} {tl th : TO} {pos p2 : Pos}
theorem po_none : PO X none tNoPart := by
  intro pins s σ H Q I h
  rw [evalPart_none]
  exact wpAny_pure ⟨none, H, I, .none, h⟩
theorem po_some (h : PE X e te) : PO X (some e) (tPart te) := by
  intro pins s σ H Q I hw
  rw [evalPart_some]
  refine thn (h pins s σ H _ I hw) fun u s1 zr2137 => ?_
  obtain ⟨x, H1, I1, r1, q1⟩ := zr2137
  obtain ⟨i, rfl, q⟩ := q1
  obtain ⟨t, rfl⟩ := r1
  exact ⟨some i, H1, I1, .int i t, q⟩
noncomputable def SlR (X : Cx) (r : V → Option Int → Option Int → Hp → VK → Prop) : Prop :=
  ∀ (pins : List (Addr × Obj)) (s : Shared) (σ : St) (H : Hp) (x : V) (v vl vu : Value) (lo hi : Option Int) (sl : Addr) (Q : VK), Inv X pins σ H s → RelV x v → s.heap.IsSliceOf sl vl vu .none → IsPart vl lo → IsPart vu hi → r x lo hi H Q →
    ∃ T id, typeLookup (.type T) "__getitem__" = pure (some (.builtin id)) ∧ s.TypeIs v T ∧ wpAny (model X.prog X.w) X.A (getItem v (.ref sl)) (EP X pins σ Q) X.xe s
noncomputable def tSl (r : V → Option Int → Option Int → Hp → VK → Prop) (te : TE) (tl th : TO) : TE := fun σ H Q => te σ H fun x H1 => tl σ H1 fun l H2 => th σ H2 fun u H3 => r x l u H3 Q
theorem pe_slice {r : V → Option Int → Option Int → Hp → VK → Prop} (hr : SlR X r) (he : PE X e te) (hl : PO X lo tl) (hu : PO X hi th) : PE X (.Subscript e (.Slice lo hi none p2) pos) (tSl r te tl th) := by
  intro pins s σ H Q I h
  refine Subscript_ (thn (he pins s σ H _ I h) fun v s1 zr2147 => ?_)
  obtain ⟨x, H1, I1, r1, q1⟩ := zr2147
  refine wpAny_Slice (thn (hl pins s1 σ H1 _ I1 q1) fun vl s2 ⟨l, H2, I2, pl, q2⟩ => thn (hu pins s2 σ H2 _ I2 q2) fun vu s3 zr2148 => ?_)
  obtain ⟨u, H3, I3, pu, q3⟩ := zr2148
  rw [evalPart_none]
  refine wpAny_pure ?_
  have I4 : Inv X pins σ H3 { s3 with heap := s3.heap.push { cls := .type "slice", data := .fields #[vl, vu, .none] } } := I3.kept (t' := s3.toks) fun b ob q => Heap.get?_push_of_some _ q
  obtain ⟨T, id, hT, ht, hg⟩ := hr pins { s3 with heap := s3.heap.push { cls := .type "slice", data := .fields #[vl, vu, .none] } } σ H3 x v vl vu l u s3.heap.objs.size Q I4 r1 (Heap.IsSliceOf.new ..) pl pu q3
  show wpAny (model X.prog X.w) X.A (subscriptTail e (.Slice lo hi none p2) v (.ref s3.heap.objs.size)) (EP X pins σ Q) X.xe { s3 with heap := s3.heap.push { cls := .type "slice", data := .fields #[vl, vu, .none] } }
  exact tail_any (ops := [.ref s3.heap.objs.size, v]) ht hT hg (by with_unfolding_all rfl)
noncomputable def cutV (xs : List V) (lo hi : Option Int) : List V := (xs.drop (HT.sIx xs.length 0 lo)).take (HT.sIx xs.length xs.length hi - HT.sIx xs.length 0 lo)
theorem cutV_length (xs : List V) (lo hi : Option Int) : (cutV xs lo hi).length ≤ xs.length := by
  unfold cutV
  rw [List.length_take, List.length_drop]
  omega
noncomputable def rSlT (K : PySem.W.Frag) : V → Option Int → Option Int → Hp → VK → Prop := fun x lo hi H Q => ∃ a xs, x = .ref a ∧ SqT K H a xs ∧
  ¬ (HT.sIx xs.length 0 lo = 0 ∧ HT.sIx xs.length xs.length hi = xs.length) ∧ ∀ p, H p = none → Q (.ref p) (upd H p (.tup (cutV xs lo hi)))
theorem sl_tup : SlR X (rSlT X.K) := by
  intro pins s σ H x v vl vu lo hi sl Q I rx hs pl pu h
  obtain ⟨a, xs, rfl, hx, hw, q⟩ := h
  cases rx
  obtain ⟨its, r, ht, hz⟩ := I.tuple hx
  have hlen : its.toArray.size = xs.length := by rw [List.size_toArray]; exact r.length.symm
  refine ⟨"tuple", _, PyProof.Rows.slot_tuple_getitem.lookup, ht.typeIs, ?_⟩
  refine HT.getItem_tuple_cut ht hs pl pu (by rw [hlen]; exact hw) ?_ (by rw [hlen]; exact hz)
  rw [hlen]
  refine ⟨.ref s.heap.objs.size, _, I.laid (t' := s.toks) (o := .tup (cutV xs lo hi)) (fun b ob q => Heap.get?_push_of_some _ q) (Nat.le_refl _) ?_, rfl, q _ (I.hok.fresh (Nat.le_refl _))⟩
  exact ⟨Nat.le_trans (cutV_length xs lo hi) hz, _, (r.drop (HT.sIx xs.length 0 lo)).take (HT.sIx xs.length xs.length hi - HT.sIx xs.length 0 lo), IsTup.new _ _⟩
noncomputable def rCatT (K : PySem.W.Frag) : R2 := fun x y H Q => ∃ a b xs ys, x = .ref a ∧ y = .ref b ∧ SqT K H a xs ∧ SqT K H b ys ∧ xs ≠ [] ∧ xs.length + ys.length ≤ sizeLine ∧
  (ys = [] → Q (.ref a) H) ∧ (ys ≠ [] → ∀ p, H p = none → Q (.ref p) (upd H p (.tup (xs ++ ys))))
theorem Vals.nil_iff {xs : List V} {us : List Value} (r : Vals xs us) : us = [] ↔ xs = [] := by
  cases r with
  | nil => simp
  | cons _ _ => simp
theorem op_catT : OpR X (binaryOp .Add) (rCatT X.K) := by
  intro pins s σ H x y v u Q I rx ry h
  obtain ⟨a, b, xs, ys, rfl, rfl, ha, hb, hx, hz, q1, q2⟩ := h
  cases rx
  cases ry
  obtain ⟨its, r1, p1, _⟩ := I.tuple ha
  obtain ⟨its2, r2, p2, _⟩ := I.tuple hb
  refine HT.cat_tup p1 p2 (fun z => hx (r1.nil_iff.mp z)) (fun z => ⟨.ref a, H, I, rfl, q1 (r2.nil_iff.mp z)⟩) (fun z => ?_) (by rw [← r1.length, ← r2.length]; exact hz)
  refine ⟨.ref s.heap.objs.size, _, I.laid (t' := s.toks) (o := .tup (xs ++ ys)) (fun b ob q => Heap.get?_push_of_some _ q) (Nat.le_refl _) ?_, rfl, q2 (fun w => z (r2.nil_iff.mpr w)) _ (I.hok.fresh (Nat.le_refl _))⟩
  exact ⟨by rw [List.length_append]; exact hz, _, r1.append r2, IsTup.new _ _⟩
end
end L2
namespace L2
open PySem PySem.Spec PyProof.Rows
noncomputable def ixN (n : Nat) (i : Int) : Option Nat := if 0 ≤ i then (if i < n then some i.toNat else none) else if -(n : Int) ≤ i then some (i + n).toNat else none
noncomputable def atI {α : Type} (xs : List α) (i : Int) : Option α := (ixN xs.length i).bind fun j => xs[j]?
theorem ixN_seq {n : Nat} {i : Int} {j : Nat} (h : ixN n i = some j) : seqIndex? i n = some j ∧ j < n ∧ -(n : Int) ≤ i ∧ i < n := by
  unfold ixN at h
  by_cases h0 : 0 ≤ i
  · rw [if_pos h0] at h
    by_cases h1 : i < n
    · rw [if_pos h1] at h
      have e : i.toNat = j := Option.some.inj h
      exact ⟨by rw [seqIndex_of h0 h1, e], by omega, by omega, h1⟩
    · rw [if_neg h1] at h; cases h
  · rw [if_neg h0] at h
    by_cases h1 : -(n : Int) ≤ i
    · rw [if_pos h1] at h
      have e : (i + n).toNat = j := Option.some.inj h
      exact ⟨by rw [seqIndex_neg (by omega) h1, e], by omega, h1, by omega⟩
    · rw [if_neg h1] at h; cases h
theorem atI_get {α : Type} {xs : List α} {i : Int} {v : α} (h : atI xs i = some v) : ∃ j, seqIndex? i xs.length = some j ∧ xs[j]? = some v ∧ j < xs.length ∧ -(xs.length : Int) ≤ i ∧ i < xs.length := by
  unfold atI at h
  cases e : ixN xs.length i with
  | none => rw [e] at h; cases h
  | some j =>
    rw [e] at h
    obtain ⟨h1, h2, h3, h4⟩ := ixN_seq e
    exact ⟨j, h1, h, h2, h3, h4⟩
theorem atI_nat {α : Type} {xs : List α} {j : Nat} {v : α} (h : xs[j]? = some v) : atI xs (j : Int) = some v := by
  have hj : j < xs.length := (List.getElem?_eq_some_iff.mp h).1
  have e : ixN xs.length (j : Int) = some j := by
    unfold ixN
    rw [if_pos (by omega), if_pos (by omega)]; simp
  unfold atI; rw [e]; exact h
theorem atI_last {α : Type} (xs : List α) (v : α) : atI (xs ++ [v]) (-1) = some v := by
  have hl : (xs ++ [v]).length = xs.length + 1 := by simp
  have e : ixN (xs ++ [v]).length (-1) = some xs.length := by
    unfold ixN
    rw [hl, if_neg (by decide), if_pos (by omega)]
    congr 1
    omega
  unfold atI
  rw [e]
  show (xs ++ [v])[xs.length]? = some v
  simp
noncomputable def PlainIx (b : Expr) : Prop := ∀ o i, subscripted b false o i = operate [o, i] (getItem o i)
noncomputable def IxR (X : Cx) (r : R2) : Prop :=
  ∀ (value slice : Expr) (pins : List (Addr × Obj)) (s : Shared) (σ : St) (H : Hp) (x y : V) (v u : Value) (Q : VK), Inv X pins σ H s → RelV x v → RelV y u → r x y H Q →
    subscripted slice false v u = operate [v, u] (getItem v u) → wpAny (model X.prog X.w) X.A (subscriptTail value slice v u) (EP X pins σ Q) X.xe s
noncomputable def MtR (X : Cx) (id : String) (r : V → List V → Hp → VK → Prop) : Prop :=
  ∀ (pins : List (Addr × Obj)) (s : Shared) (σ : St) (H : Hp) (x : V) (xs : List V) (v : Value) (us : List Value) (Q : VK), Inv X pins σ H s → RelV x v → Vals xs us → r x xs H Q →
    wpAny (model X.prog X.w) X.A (call (.builtin id) (v :: us)) (EP X pins σ Q) X.xe s
section
variable {X : Cx} {a b : Expr} {ta tb : TE} {pos : Pos}
theorem pe_ix {r : R2} (hr : IxR X r) (ha : PE X a ta) (hb : PE X b tb) (hs : PlainIx b) : PE X (.Subscript a b pos) (tOp r ta tb) := by
  intro pins s σ H Q I h
  exact Subscript_ (binT ha hb I h fun v u s2 x y H2 I2 rx ry q => hr a b pins s2 σ H2 x y v u Q I2 rx ry q (hs _ _))
noncomputable def rIxL (K : PySem.W.Frag) : R2 := fun x y H Q => ∃ p xs i v, x = .ref p ∧ y = .int i ∧ SqL K H p xs ∧ atI xs i = some v ∧ Q v H
noncomputable def rIxT (K : PySem.W.Frag) : R2 := fun x y H Q => ∃ p xs i v, x = .ref p ∧ y = .int i ∧ SqT K H p xs ∧ atI xs i = some v ∧ Q v H
noncomputable def rIxS : R2 := fun x y H Q => ∃ z i c, x = .str z ∧ y = .int i ∧ z.length ≤ sizeLine ∧ atI z.cps.toList i = some c ∧ Q (.str ⟨#[c]⟩) H
theorem ix_list : IxR X (rIxL X.K) := by
  intro value slice pins s σ H x y v u Q I rx ry h hs
  obtain ⟨p, xs, i, z, rfl, rfl, hq, he, q⟩ := h
  cases rx
  obtain ⟨t, rfl⟩ := ry
  obtain ⟨its, r, pl, hz⟩ := I.list hq
  obtain ⟨j, h1, h2, h3, h4, h5⟩ := atI_get he
  obtain ⟨w, ew, rw'⟩ := r.get h2
  have hl := r.length
  have hn := line63
  have fin : EP X pins σ Q w s := ⟨z, H, I, rw', q⟩
  by_cases h0 : 0 ≤ i
  · have hj : i.toNat = j := by
      rw [seqIndex_of h0 h5] at h1
      exact Option.some.inj h1
    exact item_listR pl.isList h0 (by omega) (by rw [hj]; simpa using ew) fin hs
  · have hj : (i + (its.toArray.size : Int)).toNat = j := by
      rw [seqIndex_neg (by omega) h4] at h1
      rw [List.size_toArray, ← hl]
      exact Option.some.inj h1
    exact subscriptTail_builtinR (x := w) pl.isList.typeIs slot_list_getitem.lookup
      (wpAny_getItem_list_neg (Q := fun r s' => r = w ∧ EP X pins σ Q r s') pl.isList (by omega) (by rw [List.size_toArray] <;> omega) (by omega) (by rw [hj]; simpa using ew) ⟨rfl, fin⟩) hs
theorem ix_tup : IxR X (rIxT X.K) := by
  intro value slice pins s σ H x y v u Q I rx ry h hs
  obtain ⟨p, xs, i, z, rfl, rfl, hq, he, q⟩ := h
  cases rx
  obtain ⟨t, rfl⟩ := ry
  obtain ⟨its, r, pl, hz⟩ := I.tuple hq
  obtain ⟨j, h1, h2, h3, h4, h5⟩ := atI_get he
  obtain ⟨w, ew, rw'⟩ := r.get h2
  have hl := r.length
  have hn := line63
  have fin : EP X pins σ Q w s := ⟨z, H, I, rw', q⟩
  exact subscriptTail_builtinR (x := w) pl.typeIs slot_tuple_getitem.lookup
    (getItem_tuple (j := j) (Q := fun r s' => r = w ∧ EP X pins σ Q r s') pl (by omega) (by omega) (by rw [List.size_toArray, ← hl]; exact h1) (by simpa using ew) ⟨rfl, fin⟩) hs
theorem ix_str : IxR X rIxS := by
  intro value slice pins s σ H x y v u Q I rx ry h hs
  obtain ⟨z, i, c, rfl, rfl, hz, he, q⟩ := h
  obtain ⟨t, rfl⟩ := rx
  obtain ⟨t', rfl⟩ := ry
  obtain ⟨j, h1, h2, h3, h4, h5⟩ := atI_get he
  have hl : z.cps.toList.length = z.length := by simp [Str.length]
  rw [hl] at h1 h4 h5
  have hn := line63
  exact tail_any (typeIs_str s z t) slot_str_getitem.lookup (getItem_str (c := c) (by
    have e1 : decide (i < -(2 ^ 63 : Int)) = false := decide_eq_false (by omega)
    have e2 : decide (i ≥ 2 ^ 63) = false := decide_eq_false (by omega)
    rw [e1, e2, Bool.or_false]) (by rw [h1]; simpa using h2) ⟨.str ⟨#[c]⟩, H, I.tok _, ⟨_, rfl⟩, q⟩) hs
theorem slice_bounds (lo hi : Option Int) (n : Nat) : (sliceBounds lo hi none n).1 = ((HT.sIx n 0 lo : Nat) : Int) ∧ (sliceBounds lo hi none n).2.1 = ((HT.sIx n n hi : Nat) : Int) ∧ (sliceBounds lo hi none n).2.2 = 1 := by
  refine ⟨?_, ?_, rfl⟩
  · cases lo with
    | none => simp [sliceBounds, HT.sIx]
    | some i =>
      simp only [sliceBounds, HT.sIx, Option.getD_none, show (1 : Int) > 0 by decide, if_true]
      by_cases h : i < 0
      · simp only [h, if_true] <;> omega
      · simp only [h, if_false] <;> omega
  · cases hi with
    | none => simp [sliceBounds, HT.sIx]
    | some i =>
      simp only [sliceBounds, HT.sIx, Option.getD_none, show (1 : Int) > 0 by decide, if_true]
      by_cases h : i < 0
      · simp only [h, if_true] <;> omega
      · simp only [h, if_false] <;> omega
theorem slicePick_cut (its : List Value) (lo hi : Option Int) : slicePick its.toArray lo hi none = ((its.drop (HT.sIx its.length 0 lo)).take (HT.sIx its.length its.length hi - HT.sIx its.length 0 lo)).toArray := by
  obtain ⟨h1, h2, h3⟩ := slice_bounds lo hi its.toArray.size
  unfold slicePick
  rw [h1, h2, h3]
  simp only [sliceRange_one, pick_run, List.size_toArray] <;> rfl
noncomputable def rSlL (K : PySem.W.Frag) : V → Option Int → Option Int → Hp → VK → Prop := fun x lo hi H Q => ∃ a xs, x = .ref a ∧ SqL K H a xs ∧ ∀ p, H p = none → Q (.ref p) (upd H p (.lst (cutV xs lo hi)))
theorem sl_list : SlR X (rSlL X.K) := by
  intro pins s σ H x v vl vu lo hi sl Q I rx hs pl pu h
  obtain ⟨a, xs, rfl, hx, q⟩ := h
  cases rx
  obtain ⟨its, r, ht, hz⟩ := I.list hx
  have hlen := r.length
  refine ⟨"list", _, slot_list_getitem.lookup, ht.isList.typeIs, ?_⟩
  refine wpAny_getItem_list_slice ht.isList hs pl pu .none (by simp) ?_ (by rw [List.size_toArray] <;> omega)
  rw [slicePick_cut, ← hlen]
  refine ⟨.ref s.heap.objs.size, _, I.laid (t' := s.toks) (o := .lst (cutV xs lo hi)) (fun b ob q => Heap.get?_push_of_some _ q) (Nat.le_refl _) ?_, rfl, q _ (I.hok.fresh (Nat.le_refl _))⟩
  exact ⟨Nat.le_trans (cutV_length xs lo hi) hz, _, 0, (r.drop (HT.sIx xs.length 0 lo)).take (HT.sIx xs.length xs.length hi - HT.sIx xs.length 0 lo), Heap.get?_push_size _ rfl⟩
noncomputable def flatV : V → Bool
  | .non => true
  | .bl _ => true
  | .int _ => true
  | .str _ => true
  | _ => false
noncomputable def eqV : V → V → Bool
  | .non, .non => true
  | .bl a, .bl b => a == b
  | .bl a, .int b => (if a then 1 else 0) == b
  | .int a, .bl b => a == (if b then 1 else 0)
  | .int a, .int b => a == b
  | .str a, .str b => a == b
  | _, _ => false
theorem eqAt_V {A : Around} {s : Shared} {y x : V} {u v : Value} (ry : RelV y u) (rx : RelV x v) (fy : flatV y = true) (fx : flatV x = true) : SeqAt.EqAt A s u v (eqV y x) := by
  cases y with
  | non =>
    cases ry
    cases x with
    | non => cases rx; exact SeqAt.EqAt.same _
    | bl b => cases rx; exact SeqAt.EqAt.none_bool b
    | int b => obtain ⟨t, rfl⟩ := rx; exact SeqAt.EqAt.none_int b t
    | str b => obtain ⟨t, rfl⟩ := rx; exact SeqAt.EqAt.none_str b t
    | _ => exact absurd (show false = true from fx) Bool.false_ne_true
  | bl a =>
    cases ry
    cases x with
    | non => cases rx; exact SeqAt.EqAt.bool_none a
    | bl b => cases rx; exact SeqAt.EqAt.bool_bool a b
    | int b => obtain ⟨t, rfl⟩ := rx; exact SeqAt.EqAt.bool_int a b t
    | str b => obtain ⟨t, rfl⟩ := rx; exact SeqAt.EqAt.bool_str a b t
    | _ => exact absurd (show false = true from fx) Bool.false_ne_true
  | int a =>
    obtain ⟨t', rfl⟩ := ry
    cases x with
    | non => cases rx; exact SeqAt.EqAt.int_none a t'
    | bl b => cases rx; exact SeqAt.EqAt.int_bool a t' b
    | int b => obtain ⟨t, rfl⟩ := rx; exact SeqAt.EqAt.int_int a t' b t
    | str b => obtain ⟨t, rfl⟩ := rx; exact SeqAt.EqAt.int_str a t' b t
    | _ => exact absurd (show false = true from fx) Bool.false_ne_true
  | str a =>
    obtain ⟨t', rfl⟩ := ry
    cases x with
    | non => cases rx; exact SeqAt.EqAt.str_none a t'
    | bl b => cases rx; exact SeqAt.EqAt.str_bool a t' b
    | int b => obtain ⟨t, rfl⟩ := rx; exact SeqAt.EqAt.str_int a t' b t
    | str b => obtain ⟨t, rfl⟩ := rx; exact SeqAt.EqAt.str_str a t' b t
    | _ => exact absurd (show false = true from fx) Bool.false_ne_true
  | _ => exact absurd (show false = true from fy) Bool.false_ne_true
noncomputable def eqU (x : V) (u : Value) : Bool := match u with
  | .none => eqV .non x
  | .bool b => eqV (.bl b) x
  | .int i _ => eqV (.int i) x
  | .str z _ => eqV (.str z) x
  | _ => false
theorem eqU_of {x y : V} {u : Value} (r : RelV y u) (f : flatV y = true) : eqU x u = eqV y x := by
  cases y with
  | non => cases r; rfl
  | bl b => cases r; rfl
  | int i => obtain ⟨t, rfl⟩ := r; rfl
  | str z => obtain ⟨t, rfl⟩ := r; rfl
  | _ => exact absurd (show false = true from f) Bool.false_ne_true
theorem any_eqU {x : V} : ∀ {xs : List V} {us : List Value}, Vals xs us → xs.all flatV = true → us.any (eqU x) = xs.any fun y => eqV y x
  | _, _, .nil, _ => rfl
  | y :: xs, u :: us, .cons r t, f => by
    rw [List.all_cons, Bool.and_eq_true] at f
    rw [List.any_cons, List.any_cons, eqU_of r f.1, any_eqU t f.2]
theorem mem_eqAt {A : Around} {s : Shared} {x : V} {v : Value} (rx : RelV x v) (fx : flatV x = true) : ∀ {xs : List V} {us : List Value}, Vals xs us → xs.all flatV = true → ∀ u ∈ us, SeqAt.EqAt A s u v (eqU x u)
  | _, _, .nil, _ => fun u hu => by cases hu
  | y :: xs, u :: us, .cons r t, f => fun u' hu => by
    rw [List.all_cons, Bool.and_eq_true] at f
    rcases List.mem_cons.mp hu with rfl | hu
    · rw [eqU_of r f.1]; exact eqAt_V r rx f.1 fx
    · exact mem_eqAt rx fx t f.2 u' hu
noncomputable def inV (x : V) (xs : List V) : Bool := xs.any fun y => eqV y x
noncomputable def rIn (K : PySem.W.Frag) (neg : Bool) : R2 := fun x y H Q => ∃ p xs, y = .ref p ∧ (SqL K H p xs ∨ SqT K H p xs) ∧ flatV x = true ∧ xs.all flatV = true ∧ Q (.bl (if neg then !inV x xs else inV x xs)) H
theorem op_in_seq : OpR X (compareOp .In) (rIn X.K false) := by
  intro pins s σ H x y v u Q I rx ry h
  obtain ⟨p, xs, rfl, hq, fx, fs, q⟩ := h
  cases ry
  rcases hq with hq | hq
  · obtain ⟨its, r, pl, hz⟩ := I.list hq
    refine SeqAt.in_listAt (eqU x) pl.isList (fun w hw => mem_eqAt rx fx r fs w (by simpa using hw)) ⟨.bl _, H, I, rfl, ?_⟩
    rw [show its.toArray.any (eqU x) = its.any (eqU x) by simp, any_eqU r fs]
    exact q
  · obtain ⟨its, r, pl, hz⟩ := I.tuple hq
    refine SeqAt.in_tupleAt (eqU x) pl (fun w hw => mem_eqAt rx fx r fs w (by simpa using hw)) ⟨.bl _, H, I, rfl, ?_⟩
    rw [show its.toArray.any (eqU x) = its.any (eqU x) by simp, any_eqU r fs]
    exact q
theorem op_notIn_seq : OpR X (compareOp .NotIn) (rIn X.K true) := by
  intro pins s σ H x y v u Q I rx ry h
  obtain ⟨p, xs, rfl, hq, fx, fs, q⟩ := h
  cases ry
  rcases hq with hq | hq
  · obtain ⟨its, r, pl, hz⟩ := I.list hq
    refine SeqAt.notIn_listAt (eqU x) pl.isList (fun w hw => mem_eqAt rx fx r fs w (by simpa using hw)) ⟨.bl _, H, I, rfl, ?_⟩
    rw [show its.toArray.any (eqU x) = its.any (eqU x) by simp, any_eqU r fs]
    exact q
  · obtain ⟨its, r, pl, hz⟩ := I.tuple hq
    refine SeqAt.notIn_tupleAt (eqU x) pl (fun w hw => mem_eqAt rx fx r fs w (by simpa using hw)) ⟨.bl _, H, I, rfl, ?_⟩
    rw [show its.toArray.any (eqU x) = its.any (eqU x) by simp, any_eqU r fs]
    exact q
theorem call_len_seq : CallR X (.builtin "len") (fun xs H Q => ∃ p ys, xs = [.ref p] ∧ (SqL X.K H p ys ∨ SqT X.K H p ys) ∧ Q (.int ys.length) H) := by
  intro pins s σ H xs us Q I r h
  obtain ⟨p, ys, rfl, hq, q⟩ := h
  obtain ⟨u, rfl, rx⟩ := vals1 r
  cases rx
  have hn := line63
  rcases hq with hq | hq
  · obtain ⟨its, r', pl, hz⟩ := I.list hq
    have hlen := r'.length
    exact Calls.call_len_list pl.isList (by simp only [List.size_toArray] <;> omega) ⟨.int ys.length, H, I.tok _, ⟨s.toks + 1, by rw [List.size_toArray, hlen]⟩, q⟩
  · obtain ⟨its, r', pl, hz⟩ := I.tuple hq
    have hlen := r'.length
    exact len_tuple pl (by simp only [List.size_toArray] <;> omega) ⟨.int ys.length, H, I.tok _, ⟨s.toks + 1, by rw [List.size_toArray, hlen]⟩, q⟩
theorem call_len_str : CallR X (.builtin "len") (fun xs H Q => ∃ z, xs = [.str z] ∧ z.length ≤ sizeLine ∧ Q (.int z.length) H) := by
  intro pins s σ H xs us Q I r h
  obtain ⟨z, rfl, hz, q⟩ := h
  obtain ⟨u, rfl, t, rfl⟩ := vals1 r
  have hn := line63
  exact len_str (by omega) ⟨.int z.length, H, I.tok _, ⟨_, rfl⟩, q⟩
theorem call_list_of : CallR X (.type "list") (fun xs H Q => ∃ p ys, xs = [.ref p] ∧ (SqL X.K H p ys ∨ SqT X.K H p ys) ∧ ∀ l, H l = none → Q (.ref l) (upd H l (.lst ys))) := by
  intro pins s σ H xs us Q I r h
  obtain ⟨p, ys, rfl, hq, q⟩ := h
  obtain ⟨u, rfl, rx⟩ := vals1 r
  cases rx
  have fin : ∀ (its : List Value), Vals ys its → ys.length ≤ sizeLine → ∀ (h' : Heap) (c' : Nat), (∀ b o', s.heap.get? b = some o' → h'.get? b = some o') →
      h'.get? s.heap.objs.size = some { cls := .type "list", dict := none, data := .seq its.toArray c', slots := #[] } → EP X pins σ Q (.ref s.heap.objs.size) { s with heap := h' } := fun its r' hz h' c' kp e =>
    ⟨.ref s.heap.objs.size, _, I.laid (t' := s.toks) kp (Nat.le_refl _) (show ObjOk X.prog X.w _ h' _ (.lst ys) from ⟨hz, its, c', r', e⟩), rfl, q _ (I.hok.fresh (Nat.le_refl _))⟩
  rcases hq with hq | hq
  · obtain ⟨its, r', pl, hz⟩ := I.list hq
    have hlen := r'.length
    obtain ⟨o, ho, hc, n, hd⟩ := pl.isList
    exact call_list_seq p (.inl rfl) ho hc hd (fun h' c' kp e => fin its r' hz h' c' kp e) (by simp only [List.size_toArray] <;> omega)
  · obtain ⟨its, r', pl, hz⟩ := I.tuple hq
    have hlen := r'.length
    obtain ⟨o, ho, hc, n, hd⟩ := pl
    exact call_list_seq p (.inr rfl) ho hc hd (fun h' c' kp e => fin its r' hz h' c' kp e) (by simp only [List.size_toArray] <;> omega)
theorem call_tuple_of : CallR X (.type "tuple") (fun xs H Q => ∃ p ys, xs = [.ref p] ∧ ((SqL X.K H p ys ∧ ∀ l, H l = none → Q (.ref l) (upd H l (.tup ys))) ∨ (SqT X.K H p ys ∧ Q (.ref p) H))) := by
  intro pins s σ H xs us Q I r h
  obtain ⟨p, ys, rfl, h⟩ := h
  obtain ⟨u, rfl, rx⟩ := vals1 r
  cases rx
  rcases h with ⟨hq, q⟩ | ⟨hq, q⟩
  · obtain ⟨its, r', pl, hz⟩ := I.list hq
    have hlen := r'.length
    refine call_tuple_list pl.isList (fun h' kp => ?_) (by simp only [List.size_toArray] <;> omega)
    have I1 : Inv X pins σ H { s with heap := h' } := I.kept (t' := s.toks) kp
    have I2 : Inv X pins σ (upd H h'.objs.size (.tup ys)) { s with heap := h'.push { cls := .type "tuple", data := .seq its.toArray } } :=
      I1.laid (t' := s.toks) (fun b o e => Heap.get?_push_of_some _ e) (Nat.le_refl _) (show ObjOk X.prog X.w _ _ _ (.tup ys) from ⟨hz, its, r', IsTup.new _ _⟩)
    exact ⟨.ref h'.objs.size, _, I2, rfl, q _ (I1.hok.fresh (Nat.le_refl _))⟩
  · obtain ⟨its, r', pl, hz⟩ := I.tuple hq
    exact call_tuple_same pl ⟨.ref p, H, I, rfl, q⟩
noncomputable def tyV (K : PySem.W.Frag) (T : String) (x : V) (H : Hp) : Prop := match x with
  | .str _ => T = "str"
  | .int _ => T = "int"
  | .ref p => (T = "list" ∧ ∃ xs, SqL K H p xs) ∨ (T = "tuple" ∧ ∃ o, K.lookup p = some o ∧ o.cls = .type "tuple" ∧ o.dict = none) ∨
      (T = "dict" ∧ ((∃ kvs, H p = some (.dK kvs)) ∨ ∃ kvs, H p = some (.dT kvs))) ∨ (T = "set" ∧ ∃ S n, H p = some (.set S n))
  | _ => False
theorem tyV_is {pins : List (Addr × Obj)} {σ : St} {H : Hp} {s : Shared} {T : String} {x : V} {v : Value} (I : Inv X pins σ H s) (r : RelV x v) (ty : tyV X.K T x H) :
    s.TypeIs v T ∧ ∀ a, v = .ref a → ∃ ob, s.heap.get? a = some ob ∧ ob.dict = none := by
  cases x with
  | str z =>
    obtain ⟨t, rfl⟩ := r
    cases (show T = "str" from ty)
    exact ⟨typeIs_str s z t, fun _ e => nomatch e⟩
  | int i =>
    obtain ⟨t, rfl⟩ := r
    cases (show T = "int" from ty)
    exact ⟨typeIs_int s i t, fun _ e => nomatch e⟩
  | ref p =>
    cases r
    rcases ty with ⟨rfl, xs, hq⟩ | ⟨rfl, o, hk, hc, hd⟩ | ⟨rfl, hk⟩ | ⟨rfl, S, n, hk⟩
    · obtain ⟨its, _, pl, _⟩ := I.list hq
      refine ⟨pl.isList.typeIs, fun a e => ?_⟩
      cases e
      obtain ⟨o, n, e, c, hd, _⟩ := pl
      exact ⟨o, e, hd⟩
    · refine ⟨⟨o, I.kIn p o hk, hc⟩, fun a e => ?_⟩
      cases e
      exact ⟨o, I.kIn _ o hk, hd⟩
    · have z : ∃ o, s.heap.get? p = some o ∧ o.ExactDict := by
        rcases hk with ⟨kvs, hk⟩ | ⟨kvs, hk⟩
        · obtain ⟨_, _, _, _, o, _, _, e, ex, _⟩ := I.hok p _ hk
          exact ⟨o, e, ex⟩
        · obtain ⟨_, _, _, _, o, _, _, e, ex, _⟩ := I.hok p _ hk
          exact ⟨o, e, ex⟩
      obtain ⟨o, e, ex⟩ := z
      refine ⟨⟨o, e, ex.1⟩, fun a e2 => ?_⟩
      cases e2
      exact ⟨o, e, ex.2.1⟩
    · obtain ⟨o, _, _, _, e, ex, _⟩ := I.hok p _ hk
      refine ⟨⟨o, e, ex.1⟩, fun a e2 => ?_⟩
      cases e2
      exact ⟨o, e, ex.2.1⟩
  | _ => exact False.elim ty
variable {o e : Expr} {es : List Expr} {to : TE} {t : TA} {name : Str} {apos cpos : Pos} {T id : String} {r : V → List V → Hp → VK → Prop}
end
end L2
namespace L2
open PySem PySem.Spec PyProof.Rows
noncomputable def MtM (X : Cx) (id : String) (r : V → List V → Hp → VK → Prop) : Prop :=
  ∀ (pins : List (Addr × Obj)) (s : Shared) (σ : St) (H : Hp) (x : V) (xs : List V) (v : Value) (us : List Value) (Q : VK), Inv X pins σ H s → RelV x v → Vals xs us → r x xs H Q →
    wpAny (model X.prog X.w) X.A (call (.builtin id) (v :: us)) (EP X pins σ Q) X.xe s
theorem Vals.one : ∀ {x : V} {us : List Value}, Vals [x] us → ∃ u, us = [u] ∧ RelV x u
  | _, _, .cons r .nil => ⟨_, rfl, r⟩
theorem Vals.zero : ∀ {us : List Value}, Vals [] us → us = []
  | _, .nil => rfl
theorem Vals.dropLast {xs : List V} {us : List Value} (h : Vals xs us) : Vals xs.dropLast us.dropLast := by
  induction h with
  | nil => exact .nil
  | cons r t ih =>
    cases t with
    | nil => exact .nil
    | cons q t' => exact .cons r ih
theorem Vals.reverse {xs : List V} {us : List Value} (h : Vals xs us) : Vals xs.reverse us.reverse := by
  induction h with
  | nil => exact .nil
  | cons r t ih => rw [List.reverse_cons, List.reverse_cons]; exact Vals.append ih (.cons r .nil)
theorem erase_last {α : Type} (l : List α) : l.eraseIdx (l.length - 1) = l.dropLast := by
  induction l with
  | nil => rfl
  | cons a r ih =>
    cases r with
    | nil => rfl
    | cons b r =>
      have e : (a :: b :: r).length - 1 = ((b :: r).length - 1) + 1 := by
        have h1 : (a :: b :: r).length = r.length + 2 := rfl
        have h2 : (b :: r).length = r.length + 1 := rfl
        omega
      rw [e, List.eraseIdx_cons_succ, ih]
      all_goals rfl
section
variable {X : Cx} {pins : List (Addr × Obj)} {σ : St} {H : Hp} {s : Shared} {l b : Addr} {xs ys zs : List V}
theorem Inv.lset {its its' : List Value} {n : Nat} {f : Array Value → Array Value} {t' : Nat} (I : Inv X pins σ H s) (hH : H l = some (.lst xs))
    (e : s.heap.get? l = some { cls := .type "list", data := .seq its.toArray n }) (hf : f its.toArray = its'.toArray) (hv : Vals ys its') (hz : ys.length ≤ sizeLine) :
    Inv X pins σ (upd H l (.lst ys)) { s with heap := s.heap.update l (Obj.mapSeq f), toks := t' } := by
  have q := PySem.IsL.update e f
  rw [hf] at q
  refine I.write (x := l) (e := l) (by rw [hH]; exact trivial) (.inl rfl) (fun b' u hb hu => (Heap.get?_update_other s.heap (Obj.mapSeq f) (Ne.symm hb)).trans hu) ⟨_, q⟩ ?_
  exact ⟨hz, its', _, hv, q⟩
theorem Inv.lstM (I : Inv X pins σ H s) (hH : H l = some (.lst xs)) : xs.length ≤ sizeLine ∧ ∃ (its : List Value) (n : Nat), Vals xs its ∧ xs.length = its.length ∧ s.heap.get? l = some { cls := .type "list", data := .seq its.toArray n } := by
  obtain ⟨z, its, n, r, e⟩ := I.hok l _ hH
  exact ⟨z, its, n, r, r.length, e⟩
theorem notLongL {n : Nat} (h : n ≤ sizeLine) : Builtin.List.listTooLong n = false := by
  unfold Builtin.List.listTooLong
  exact decide_eq_false (by omega)
end
section
variable {X : Cx}
noncomputable def rAppend : V → List V → Hp → VK → Prop := fun x vs H Q => ∃ l xs y, x = .ref l ∧ vs = [y] ∧ H l = some (.lst xs) ∧ xs.length < sizeLine ∧ Q .non (upd H l (.lst (xs ++ [y])))
theorem mt_append : MtM X "list.append" rAppend := by
  intro pins s σ H x vs v us Q I rx rv h
  obtain ⟨l, xs, y, rfl, rfl, hH, hz, q⟩ := h
  cases rx
  obtain ⟨u, rfl, ru⟩ := rv.one
  obtain ⟨z, its, n, r, hl, e⟩ := I.lstM hH
  refine call_meets F.slot_list_append ⟨_, e, rfl⟩ F.entry_list_append (F.args_list_append_2 _ _) (PySem.list_append l its.toArray n u (by rw [List.size_toArray]; omega)) ⟨e, ?_⟩
  refine ⟨.non, _, I.lset (its' := its ++ [u]) hH e (by simp) (r.append (.cons ru .nil)) ?_, rfl, q⟩
  rw [List.length_append, List.length_singleton]
  omega
noncomputable def rExtend : V → List V → Hp → VK → Prop := fun x vs H Q => ∃ l b xs zs, x = .ref l ∧ vs = [.ref b] ∧ H l = some (.lst xs) ∧ H b = some (.lst zs) ∧ xs.length + zs.length ≤ sizeLine ∧ Q .non (upd H l (.lst (xs ++ zs)))
theorem mt_extend : MtM X "list.extend" rExtend := by
  intro pins s σ H x vs v us Q I rx rv h
  obtain ⟨l, b, xs, zs, rfl, rfl, hH, hB, hz, q⟩ := h
  cases rx
  obtain ⟨u, rfl, ru⟩ := rv.one
  cases ru
  obtain ⟨z, its, n, r, hl, e⟩ := I.lstM hH
  obtain ⟨z2, its2, n2, r2, hl2, e2⟩ := I.lstM hB
  have hsz : its.toArray.size + its2.toArray.size ≤ sizeLine := by rw [List.size_toArray, List.size_toArray]; omega
  have hlong : ¬ (!its.toArray.isEmpty && Builtin.List.listTooLong (its.toArray.size + its2.toArray.size)) = true := by
    rw [notLongL hsz, Bool.and_false]
    exact Bool.false_ne_true
  refine call_meets F.slot_list_extend ⟨_, e, rfl⟩ F.entry_list_extend (F.args_list_extend_2 _ _)
    (AutoSeq1.list_extend_list_list_0 l its.toArray n b its2.toArray n2 hlong (by rw [List.size_toArray]; omega) (by omega)) ⟨e, e2, ?_⟩
  refine ⟨.non, _, I.lset (its' := its ++ its2) hH e (by simp) (r.append r2) ?_, rfl, q⟩
  rw [List.length_append]
  omega
noncomputable def rPop : V → List V → Hp → VK → Prop := fun x vs H Q => ∃ l xs y, x = .ref l ∧ vs = [] ∧ H l = some (.lst xs) ∧ xs[xs.length - 1]? = some y ∧ Q y (upd H l (.lst xs.dropLast))
theorem mt_pop : MtM X "list.pop" rPop := by
  intro pins s σ H x vs v us Q I rx rv h
  obtain ⟨l, xs, y, rfl, rfl, hH, hy, q⟩ := h
  cases rx
  have hus := rv.zero
  subst hus
  obtain ⟨z, its, n, r, hl, e⟩ := I.lstM hH
  obtain ⟨u, hu, ru⟩ := r.get hy
  have hy' : its.toArray[its.toArray.size - 1]? = some u := by
    show its.toArray[its.length - 1]? = some u
    rw [← Array.getElem?_toList, ← hl]
    exact hu
  refine call_meets F.slot_list_pop ⟨_, e, rfl⟩ F.entry_list_pop (F.args_list_pop_1 _) (MeetsSeq.list_pop_last l its.toArray n u hy' (by rw [List.size_toArray]; omega)) ⟨e, ?_⟩
  refine ⟨y, _, I.lset (its' := its.dropLast) hH e ?_ r.dropLast ?_, ru, q⟩
  · show its.toArray.eraseIdxIfInBounds (its.toArray.size - 1) = its.dropLast.toArray
    rw [List.size_toArray, List.eraseIdxIfInBounds_toArray, erase_last]
  · rw [List.length_dropLast]
    omega
end
section
variable {prog : Program} {w : World} {A : Around} {E : Value → Shared → Prop} {s : Shared}
set_option maxRecDepth 100000 in
end
section
variable {X : Cx}
end
end L2
namespace L2
open PySem PySem.Spec PyProof.Rows
section
variable {κ : Type} [DecidableEq κ]
noncomputable def valV (kvs : List (κ × V)) (k : κ) : Option V := (kvs.find? fun kv => decide (kv.1 = k)).map (·.2)
noncomputable def putK (kvs : List (κ × V)) (k : κ) (v : V) : List (κ × V) :=
  if (kvs.any fun kv => decide (kv.1 = k)) = true then kvs.map (fun kv => if kv.1 = k then (kv.1, v) else kv) else kvs ++ [(k, v)]
noncomputable def dropK (kvs : List (κ × V)) (k : κ) : List (κ × V) := kvs.filter fun kv => decide (kv.1 ≠ k)
theorem valV_nil {k : κ} : valV ([] : List (κ × V)) k = none := rfl
theorem valV_pos {p : κ × V} {r : List (κ × V)} {k : κ} (e : p.1 = k) : valV (p :: r) k = some p.2 := by simp [valV, List.find?_cons, e]
theorem valV_neg {p : κ × V} {r : List (κ × V)} {k : κ} (e : ¬ p.1 = k) : valV (p :: r) k = valV r k := by simp [valV, List.find?_cons, e]
theorem valV_any (k : κ) : ∀ kvs : List (κ × V), (kvs.any fun kv => decide (kv.1 = k)) = (valV kvs k).isSome
  | [] => rfl
  | p :: r => by
    rw [List.any_cons]
    by_cases e : p.1 = k
    · simp only [valV_pos e, decide_eq_true e, Bool.true_or, Option.isSome_some]
    · rw [valV_neg e, decide_eq_false e, Bool.false_or]; exact valV_any k r
theorem valV_map (k j : κ) (y : V) : ∀ kvs : List (κ × V), valV (kvs.map fun kv => if kv.1 = k then (kv.1, y) else kv) j = (valV kvs j).map fun x => if j = k then y else x
  | [] => rfl
  | p :: r => by
    have ih := valV_map k j y r
    rw [List.map_cons]
    by_cases h : p.1 = k
    · rw [if_pos h]
      by_cases e : p.1 = j
      · rw [valV_pos (p := (p.1, y)) e, valV_pos e, Option.map_some, if_pos (e.symm.trans h)]
      · rw [valV_neg (p := (p.1, y)) e, valV_neg e, ih]
    · rw [if_neg h]
      by_cases e : p.1 = j
      · rw [valV_pos (p := p) e, valV_pos e, Option.map_some, if_neg (fun z => h (e.trans z))]
      · rw [valV_neg (p := p) e, valV_neg e, ih]
theorem valV_snoc (k j : κ) (y : V) : ∀ kvs : List (κ × V), valV kvs k = none → valV (kvs ++ [(k, y)]) j = if j = k then some y else valV kvs j
  | [], _ => by
    by_cases e : k = j
    · rw [if_pos e.symm]; exact valV_pos (p := (k, y)) e
    · rw [if_neg (fun z => e z.symm)]; exact valV_neg (p := (k, y)) e
  | p :: r, hn => by
    rw [List.cons_append]
    have hk : ¬ p.1 = k := fun z => by rw [valV_pos z] at hn; cases hn
    rw [valV_neg hk] at hn
    have ih := valV_snoc k j y r hn
    by_cases e : p.1 = j
    · rw [valV_pos e, valV_pos e, if_neg (fun z => hk (e.trans z))]
    · rw [valV_neg e, valV_neg e, ih]
theorem valV_put (kvs : List (κ × V)) (k j : κ) (y : V) : valV (putK kvs k y) j = if j = k then some y else valV kvs j := by
  unfold putK
  by_cases a : (kvs.any fun kv => decide (kv.1 = k)) = true
  · rw [if_pos a, valV_map]
    rw [valV_any] at a
    by_cases e : j = k
    · obtain ⟨x, hx⟩ := Option.isSome_iff_exists.mp a
      rw [if_pos e, e, hx, Option.map_some, if_pos rfl]
    · rw [if_neg e]
      cases valV kvs j with
      | none => rfl
      | some x => rw [Option.map_some, if_neg e]
  · rw [if_neg a]
    refine valV_snoc k j y kvs ?_
    rw [valV_any] at a
    cases q : valV kvs k with
    | none => rfl
    | some x => rw [q] at a; exact (a rfl).elim
theorem length_putK (kvs : List (κ × V)) (k : κ) (v : V) : (putK kvs k v).length ≤ kvs.length + 1 := by
  unfold putK
  split
  · rw [List.length_map]; omega
  · rw [List.length_append, List.length_cons, List.length_nil]; omega
theorem putK_new {kvs : List (κ × V)} {k : κ} (v : V) (h : valV kvs k = none) : putK kvs k v = kvs ++ [(k, v)] := by
  unfold putK
  rw [valV_any, h]
  exact if_neg (by decide)
theorem RelO.isSome_eq {o : Option V} {u : Option Value} (r : RelO o u) : o.isSome = u.isSome := by
  cases o with
  | none => cases u with
    | none => rfl
    | some _ => exact (show False from r).elim
  | some _ => cases u with
    | none => exact (show False from r).elim
    | some _ => rfl
theorem KV.val {kvs : List (κ × V)} {vs : List (κ × Value)} (r : KV kvs vs) (k : κ) : RelO (valV kvs k) (valueAt vs k) := by
  unfold KV at r
  induction r with
  | nil => exact True.intro
  | @cons p q ps qs h t ih =>
    obtain ⟨h1, h2⟩ := h
    by_cases e : p.1 = k
    · have e' : q.1 = k := h1.symm.trans e
      have b : valueAt (q :: qs) k = some q.2 := by simp [valueAt, List.find?_cons, e']
      rw [valV_pos e, b]; exact h2
    · have e' : ¬ q.1 = k := fun z => e (h1.trans z)
      have b : valueAt (q :: qs) k = valueAt qs k := by simp [valueAt, List.find?_cons, e']
      rw [valV_neg e, b]; exact ih
theorem KV.any {kvs : List (κ × V)} {vs : List (κ × Value)} (r : KV kvs vs) (k : κ) : (kvs.any fun kv => decide (kv.1 = k)) = vs.any fun kv => decide (kv.1 = k) := by
  unfold KV at r
  induction r with
  | nil => rfl
  | cons h t ih => rw [List.any_cons, List.any_cons, ih, h.1]
theorem KV.repl {kvs : List (κ × V)} {vs : List (κ × Value)} (r : KV kvs vs) (k : κ) {y : V} {u : Value} (ry : RelV y u) :
    KV (kvs.map fun kv => if kv.1 = k then (kv.1, y) else kv) (vs.map fun kv => if kv.1 = k then (kv.1, u) else kv) := by
  unfold KV at r ⊢
  induction r with
  | nil => exact .nil
  | @cons p q ps qs h t ih =>
    rw [List.map_cons, List.map_cons]
    refine .cons ?_ ih
    obtain ⟨h1, h2⟩ := h
    by_cases e : p.1 = k
    · rw [if_pos e, if_pos (h1.symm.trans e)]; exact ⟨h1, ry⟩
    · rw [if_neg e, if_neg (fun z => e (h1.trans z))]; exact ⟨h1, h2⟩
theorem KV.put {kvs : List (κ × V)} {vs : List (κ × Value)} (r : KV kvs vs) (k : κ) {y : V} {u : Value} (ry : RelV y u) : KV (putK kvs k y) (stored vs k u) := by
  unfold putK stored
  rw [r.any k]
  by_cases e : (vs.any fun kv => decide (kv.1 = k)) = true
  · rw [if_pos e, if_pos e]; exact r.repl k ry
  · rw [if_neg e, if_neg e]; exact Paired.snoc r ⟨rfl, ry⟩
theorem KV.length {kvs : List (κ × V)} {vs : List (κ × Value)} (r : KV kvs vs) : kvs.length = vs.length := Paired.length r
theorem dropK_le (kvs : List (κ × V)) (k : κ) : (dropK kvs k).length ≤ kvs.length := List.length_filter_le _ _
end
theorem kV_is {P : Program} {w : World} {k : Key} {u : Value} (r : RelV (kV k) u) : (mixKind P w).is k u = true := by
  cases k with
  | inl i => obtain ⟨t, e⟩ := (show ∃ t, u = Value.int i t from r); subst e; exact mixKind_int P w i t
  | inr x => obtain ⟨t, e⟩ := (show ∃ t, u = Value.str x t from r); subst e; exact mixKind_str P w x t
theorem items_are {P : Program} {w : World} : ∀ {ks : List Key} {us : List Value}, Vals (ks.map kV) us → ItemsAre (mixKind P w) ks us
  | [], _, r => by rw [List.map_nil] at r; cases r; exact .nil
  | k :: ks, _, r => by
    rw [List.map_cons] at r
    cases r with
    | cons h t => exact .cons (kV_is h) (items_are t)
noncomputable abbrev KT (H : Hp) : List (List Key × V) → List (List Key × Addr × Value) → Prop := Paired fun p q => p.1 = q.1 ∧ H q.2.1 = some (.tup (p.1.map kV)) ∧ RelV p.2 q.2.2
theorem KT.val {H : Hp} {kvs : List (List Key × V)} {xs : List (List Key × Addr × Value)} (r : KT H kvs xs) (k : List Key) : RelO (valV kvs k) ((atKey xs k).map (·.2)) := by
  induction r with
  | nil => exact True.intro
  | @cons p q ps qs h t ih =>
    obtain ⟨h1, _, h2⟩ := h
    by_cases e : p.1 = k
    · have e' : q.1 = k := h1.symm.trans e
      have b : atKey (q :: qs) k = some q.2 := by simp [atKey, List.find?_cons, e']
      rw [valV_pos e, b]; exact h2
    · have e' : ¬ q.1 = k := fun z => e (h1.trans z)
      have b : atKey (q :: qs) k = atKey qs k := by simp [atKey, List.find?_cons, e']
      rw [valV_neg e, b]; exact ih
theorem KT.repl {H : Hp} {kvs : List (List Key × V)} {xs : List (List Key × Addr × Value)} (r : KT H kvs xs) (k : List Key) {y : V} {u : Value} (ry : RelV y u) :
    KT H (kvs.map fun kv => if kv.1 = k then (kv.1, y) else kv) (xs.map (putAt k u)) := by
  induction r with
  | nil => exact .nil
  | @cons p q ps qs h t ih =>
    rw [List.map_cons, List.map_cons]
    refine .cons ?_ ih
    obtain ⟨h1, h2, h3⟩ := h
    unfold putAt
    by_cases e : p.1 = k
    · rw [if_pos e, if_pos (h1.symm.trans e)]; exact ⟨h1, h2, ry⟩
    · rw [if_neg e, if_neg (fun z => e (h1.trans z))]; exact ⟨h1, h2, h3⟩
theorem KT.put {H : Hp} {kvs : List (List Key × V)} {xs : List (List Key × Addr × Value)} (r : KT H kvs xs) (k : List Key) {b : Addr} {y : V} {u : Value} (hb : H b = some (.tup (k.map kV))) (ry : RelV y u) :
    KT H (putK kvs k y) (storedH xs k b u) := by
  have e : (kvs.any fun kv => decide (kv.1 = k)) = (atKey xs k).isSome := by
    rw [valV_any, (r.val k).isSome_eq, Option.isSome_map]
  unfold putK storedH
  rw [e]
  by_cases q : (atKey xs k).isSome = true
  · rw [if_pos q, if_pos q]; exact r.repl k ry
  · rw [if_neg q, if_neg q]; exact Paired.snoc r ⟨rfl, hb, ry⟩
theorem KT.keeps {H H' : Hp} {kvs : List (List Key × V)} {xs : List (List Key × Addr × Value)} (r : KT H kvs xs) (ht : ∀ b ys, H b = some (.tup ys) → H' b = some (.tup ys)) : KT H' kvs xs :=
  Paired.mapP r fun _ _ z => ⟨z.1, ht _ _ z.2.1, z.2.2⟩
section
variable {P : Program} {w : World} {H : Hp} {h : Heap} {a : Addr}
theorem rd_of {u : HO} (ok : HOk P w H h) (e : Rd H a u) : ObjOk P w H h a u := e.ok ok
theorem dk_rd {kvs : List (Key × V)} (ok : HOk P w H h) (e : Rd H a (.dK kvs)) : kvs.length ≤ sizeLine ∧ (a == sysModules) = false ∧ ∃ vs, KV kvs vs ∧ h.DictOf (mixKind P w) a vs :=
  show ObjOk P w H h a (.dK kvs) from rd_of ok e
theorem dk_of {kvs : List (Key × V)} (ok : HOk P w H h) (e : H a = some (.dK kvs)) : kvs.length ≤ sizeLine ∧ (a == sysModules) = false ∧ ∃ vs, KV kvs vs ∧ h.DictOf (mixKind P w) a vs := dk_rd ok (.inl e)
theorem key_of {ks : List Key} (ok : HOk P w H h) (e : H a = some (.tup (ks.map kV))) : (tupleKind (mixKind P w)).is h ks a := by
  obtain ⟨_, its, r, o, h1, h2, n, h3⟩ := (show ObjOk P w H h a (.tup (ks.map kV)) from ok a _ e)
  exact ⟨o, its.toArray, n, h1, h2, h3, by simpa using items_are r⟩
theorem dt_rd {kvs : List (List Key × V)} (ok : HOk P w H h) (e : Rd H a (.dT kvs)) : kvs.length ≤ sizeLine ∧ (a == sysModules) = false ∧
    ∃ xs, KT H kvs xs ∧ h.DictOfH (tupleKind (mixKind P w)) a xs := by
  obtain ⟨z, y, xs, r, o, es, ep, h1, h2, h3, h4, h5⟩ := (show ObjOk P w H h a (.dT kvs) from rd_of ok e)
  refine ⟨z, y, xs, r, o, es, ep, h1, h2, h3, h4, fun x hx => ?_, h5⟩
  have all : ∀ {l : List (List Key × V)} {m : List (List Key × Addr × Value)}, KT H l m → ∀ x ∈ m, (tupleKind (mixKind P w)).is h x.1 x.2.1 := by
    intro l m q
    induction q with
    | nil => intro x hx; exact nomatch hx
    | @cons p q ps qs hq t ih =>
      intro x hx
      rcases List.mem_cons.mp hx with e | hx
      · subst e
        exact key_of ok (by rw [← hq.1]; exact hq.2.1)
      · exact ih x hx
  exact all r x hx
theorem dt_of {kvs : List (List Key × V)} (ok : HOk P w H h) (e : H a = some (.dT kvs)) : kvs.length ≤ sizeLine ∧ (a == sysModules) = false ∧
    ∃ xs, KT H kvs xs ∧ h.DictOfH (tupleKind (mixKind P w)) a xs := dt_rd ok (.inl e)
end
noncomputable def DGet (H : Hp) (a : Addr) (y : V) (r : Option V) : Prop :=
  (∃ kvs k, Rd H a (.dK kvs) ∧ y = kV k ∧ r = valV kvs k) ∨ ∃ kvs k b, Rd H a (.dT kvs) ∧ y = .ref b ∧ H b = some (.tup (k.map kV)) ∧ r = valV kvs k
noncomputable def DPut (H : Hp) (a : Addr) (y v : V) (H' : Hp) : Prop :=
  (∃ kvs k, H a = some (.dK kvs) ∧ y = kV k ∧ kvs.length < sizeLine ∧ H' = upd H a (.dK (putK kvs k v))) ∨
  ∃ kvs k b, H a = some (.dT kvs) ∧ y = .ref b ∧ H b = some (.tup (k.map kV)) ∧ kvs.length < sizeLine ∧ H' = upd H a (.dT (putK kvs k v))
theorem DGet.k {H : Hp} {a : Addr} {kvs : List (Key × V)} {k : Key} (e : H a = some (.dK kvs)) : DGet H a (kV k) (valV kvs k) := .inl ⟨kvs, k, .inl e, rfl, rfl⟩
theorem DGet.t {H : Hp} {a b : Addr} {kvs : List (List Key × V)} {k : List Key} (e : H a = some (.dT kvs)) (eb : H b = some (.tup (k.map kV))) : DGet H a (.ref b) (valV kvs k) := .inr ⟨kvs, k, b, .inl e, rfl, eb, rfl⟩
theorem DPut.k {H : Hp} {a : Addr} {kvs : List (Key × V)} {k : Key} {v : V} (e : H a = some (.dK kvs)) (hl : kvs.length < sizeLine) : DPut H a (kV k) v (upd H a (.dK (putK kvs k v))) := .inl ⟨kvs, k, e, rfl, hl, rfl⟩
theorem DPut.t {H : Hp} {a b : Addr} {kvs : List (List Key × V)} {k : List Key} {v : V} (e : H a = some (.dT kvs)) (eb : H b = some (.tup (k.map kV))) (hl : kvs.length < sizeLine) :
    DPut H a (.ref b) v (upd H a (.dT (putK kvs k v))) := .inr ⟨kvs, k, b, e, rfl, eb, hl, rfl⟩
section
variable {X : Cx} {pins : List (Addr × Obj)} {σ : St} {H : Hp} {s : Shared} {a : Addr} {y v : V} {u r : Value} {o : Option V} {A : Around} {E : Value → Shared → Prop}
theorem Inv.big (I : Inv X pins σ H s) : sysModules < s.heap.objs.size := by
  have h : mainGlobals < s.heap.objs.size := (I.mod.glob.keeps I.bk).lt
  exact Nat.lt_trans (by decide) h
theorem d_getItem {Q : Value → Shared → Prop} (hu : A.units + 1 < cLine) (I : Inv X pins σ H s) (g : DGet H a y (some v)) (ry : RelV y u) (h : ∀ w' s', Inv X pins σ H s' → RelV v w' → Q w' s') :
    wpAny (model X.prog X.w) A (getItem (.ref a) u) Q E s := by
  rcases g with ⟨kvs, k, e, ey, l⟩ | ⟨kvs, k, b, e, ey, eb, l⟩
  · subst ey
    obtain ⟨z, hd, vs, rel, dd⟩ := dk_rd I.hok e
    obtain ⟨w', hw, rw'⟩ := RelO.some_of (v := v) (o := valueAt vs k) (by rw [l]; exact rel.val k)
    exact wpAny_getItem_of (kV_is ry) dd.mapOf hw (h w' _ (I.tok _) rw')
  · subst ey
    cases (show u = Value.ref b from ry)
    obtain ⟨z, hd, xs, rel, dd⟩ := dt_rd I.hok e
    obtain ⟨w', hw, rw'⟩ := RelO.some_of (v := v) (o := (atKey xs k).map (·.2)) (by rw [l]; exact rel.val k)
    obtain ⟨p, hp, hp2⟩ := Option.map_eq_some_iff.mp hw
    refine wpAny_getItem_heap (tupleKind_room_in1 hu) (key_of I.hok eb) dd hp ?_
    rw [hp2]
    exact h w' _ (I.tok _) rw'
theorem d_write {h' : Heap} {t' : Nat} {ob : HO} (I : Inv X pins σ H s) (mu : Mut (H a)) (hs : Heap.SameBut a s.heap h') (he : ∃ q, h'.get? a = some q) (new : ObjOk X.prog X.w (upd H a ob) h' a ob) :
    Inv X pins σ (upd H a ob) { s with heap := h', toks := t' } :=
  I.write (x := a) (e := a) mu (.inl rfl) (fun b q hb z => (hs.2 b hb).trans z) he new
theorem dk_new {P : Program} {w : World} {H' : Hp} {h' : Heap} {kvs : List (Key × V)} {vs : List (Key × Value)} (z : kvs.length ≤ sizeLine) (hd : (a == sysModules) = false) (rel : KV kvs vs) (dd : h'.DictOf (mixKind P w) a vs) :
    ObjOk P w H' h' a (.dK kvs) := ⟨z, hd, vs, rel, dd⟩
theorem d_setItem {H' : Hp} {Q : Unit → Shared → Prop} (hu : A.units + 1 < cLine) (I : Inv X pins σ H s) (g : DPut H a y v H') (ry : RelV y u) (rv : RelV v r) (h : ∀ s', Inv X pins σ H' s' → Q () s') :
    wpAny (model X.prog X.w) A (setItem (.ref a) u r) Q E s := by
  rcases g with ⟨kvs, k, e, ey, l, eH⟩ | ⟨kvs, k, b, e, ey, eb, l, eH⟩
  · subst ey eH
    obtain ⟨z, hd, vs, rel, dd⟩ := dk_of I.hok e
    have hz : vs.length ≤ sizeLine := by rw [← rel.length]; exact z
    have hl : (putK kvs k v).length ≤ sizeLine := by have := length_putK kvs k v; omega
    refine wpAny_setItem_pairs (hsz := hz) (kV_is ry) dd fun h' dd' hs => h _ ?_
    have he : ∃ q, h'.get? a = some q := let ⟨q, _, _, hq, _⟩ := dd'; ⟨q, hq⟩
    exact d_write I (by rw [e]; exact True.intro) hs he (dk_new hl hd (rel.put k rv) dd')
  · subst ey eH
    cases (show u = Value.ref b from ry)
    obtain ⟨z, hd, xs, rel, dd⟩ := dt_of I.hok e
    have hz : xs.length ≤ sizeLine := by rw [← Paired.length rel]; exact z
    have hl : (putK kvs k v).length ≤ sizeLine := by have := length_putK kvs k v; omega
    refine wpAny_setItem_heap (hsz := hz) (tupleKind_room_in1 hu) (key_of I.hok eb) dd fun h' dd' hs => h _ ?_
    obtain ⟨q, es, ep, hq, h2, h3, h4, _, h5⟩ := dd'
    refine d_write I (by rw [e]; exact True.intro) hs ⟨q, hq⟩ ⟨hl, hd, _, (rel.put k eb rv).keeps fun c ys ec => ?_, q, es, ep, hq, h2, h3, h4, h5⟩
    rw [upd_ne (ne_of ec e (fun z => nomatch z))]
    exact ec
end
section
variable {X : Cx} {pins : List (Addr × Obj)} {σ : St} {H : Hp} {s : Shared} {a : Addr} {kvs : List (Key × V)} {k : Key} {u : Value} {A : Around} {E : Value → Shared → Prop}
theorem d_clear {Q : Value → Shared → Prop} (I : Inv X pins σ H s) (e : H a = some (.dK kvs)) (h : ∀ s', Inv X pins σ (upd H a (.dK [])) s' → Q .none s') : wpAny (model X.prog X.w) A (call (.builtin "dict.clear") [.ref a]) Q E s := by
  obtain ⟨z, hd, vs, rel, dd⟩ := dk_of I.hok e
  refine call_meetsIn PySem.F.slot_dict_clear dd.typeIs PySem.F.entry_dict_clear (PySem.F.args_dict_clear_1 _) (meets_dict_clear (mixKind X.prog X.w) a) ⟨vs, dd, by rw [← rel.length]; exact z, fun h' dd' hs => h _ ?_⟩
  have he : ∃ q, h'.get? a = some q := let ⟨q, _, _, hq, _⟩ := dd'; ⟨q, hq⟩
  exact d_write (t' := s.toks) I (by rw [e]; exact True.intro) hs he (dk_new (Nat.zero_le _) hd .nil dd')
end
noncomputable def NoSl (i : Expr) : Prop := ∀ ov iv, subscripted i false ov iv = operate [ov, iv] (getItem ov iv)
theorem subD_of {prog : Program} {w : World} {A : Around} {E : Value → Shared → Prop} {s : Shared} {env : Env} {value slice : Expr} {pos : Pos} {T id : String} {Q : Value → Shared → Prop}
    (hl : typeLookup (.type T) "__getitem__" = pure (some (.builtin id))) (hs : NoSl slice)
    (h : wpAny (model prog w) A (eval value env) (fun o s₁ => wpAny (model prog w) A (eval slice env) (fun i s₂ => s₂.TypeIs o T ∧ wpAny (model prog w) A (getItem o i) Q E s₂) E s₁) E s) :
    wpAny (model prog w) A (eval (.Subscript value slice pos) env) Q E s := by
  refine Subscript_ (wpAny_mono h (fun o s₁ h₁ => wpAny_mono h₁ (fun i s₂ h₂ => ?_) fun _ _ x => x) fun _ _ x => x)
  obtain ⟨hT, h₂⟩ := h₂
  unfold subscriptTail
  refine wpAny_bind ?_
  rw [getitemInPython_of_ne hT.not_modules]
  refine wpAny_bind (wpAny_specialOf hT hl ?_)
  have fin : wpAny (model prog w) A (subscripted slice false o i) (fun r s₃ => wpAny (model prog w) A (letTemporaryGo value o r >>= fun _ => pure r) Q E s₃) E s₂ := by
    rw [hs o i]
    exact wpAny_operating (wpAny_mono h₂ (fun r s₃ h₃ => wpAny_bind (wpAny_letTemporaryGo (wpAny_pure h₃))) fun _ _ x => x)
  first
    | exact wpAny_pure (wpAny_bind fin)
    | exact wpAny_bind (wpAny_pure (wpAny_bind fin))
    | exact wpAny_bind fin
theorem dict_typeIs {X : Cx} {pins : List (Addr × Obj)} {σ : St} {H : Hp} {s : Shared} {a : Addr} {y : V} {o : Option V} (I : Inv X pins σ H s) (g : DGet H a y o) : s.TypeIs (.ref a) "dict" := by
  rcases g with ⟨kvs, k, e, _, _⟩ | ⟨kvs, k, b, e, _, _, _⟩
  · obtain ⟨_, _, vs, _, dd⟩ := dk_rd I.hok e
    exact dd.typeIs
  · obtain ⟨_, _, xs, _, dd⟩ := dt_rd I.hok e
    exact dd.typeIs
noncomputable def sDPut (td ty tv : TE) : TS := fun D σ H => tv σ H fun v H1 => td σ H1 fun x H2 => ty σ H2 fun y H3 => ∃ a H4, x = .ref a ∧ DPut H3 a y v H4 ∧ D.nx σ H4
section
variable {X : Cx} {o i e value : Expr} {pos pos' tpos : Pos} {td ty tv : TE}
theorem ps_dput (hu : X.A.units + 1 < cLine) (ho : PE X o td) (hi : PE X i ty) (hv : PE X value tv) (hs : swapsWith value (some (.Subscript o i pos')) pos.line X.env = pure false) :
    PS X (.Assign [.Subscript o i pos'] value pos) (sDPut td ty tv) := by
  intro pins s σ H D I h
  refine wpAny_Assign_Subscript (thn (hv pins s σ H _ I h) fun r s1 ⟨v, H1, I1, rv, q1⟩ => thn (ho pins s1 σ H1 _ I1 q1) fun u s2 ⟨x, H2, I2, rx, q2⟩ => thn (hi pins s2 σ H2 _ I2 q2) fun iv s3 zr2924 => ?_) hs
  obtain ⟨y, H3, I3, ry, a, H4, ex, g, q3⟩ := zr2924
  subst ex
  obtain rfl : u = Value.ref a := rx
  exact d_setItem hu I3 g ry rv fun s4 I4 => ⟨σ, H4, I4, q3⟩
end
theorem dk_empty {P : Program} {w : World} {H : Hp} (h : Heap) (hb : sysModules < h.objs.size) : ObjOk P w H (h.push { cls := .type "dict", data := .dict #[] }) h.objs.size (.dK []) :=
  ⟨Nat.zero_le _, beq_eq_false_iff_ne.mpr (Ne.symm (Nat.ne_of_lt hb)), [], .nil, Heap.DictOf.new h⟩
theorem dt_empty {P : Program} {w : World} {H : Hp} (h : Heap) (hb : sysModules < h.objs.size) : ObjOk P w H (h.push { cls := .type "dict", data := .dict #[] }) h.objs.size (.dT []) :=
  ⟨Nat.zero_le _, beq_eq_false_iff_ne.mpr (Ne.symm (Nat.ne_of_lt hb)), [], .nil, _, #[], 0, Heap.get?_push_size _ rfl, ⟨rfl, rfl, rfl⟩, rfl, rfl, List.nodup_nil⟩
noncomputable def tDNewK : TE := fun _ H Q => ∀ p, H p = none → Q (.ref p) (upd H p (.dK []))
noncomputable def tDNewT : TE := fun _ H Q => ∀ p, H p = none → Q (.ref p) (upd H p (.dT []))
section
variable {X : Cx} {pos : Pos}
theorem pe_dnewK : PE X (.Dict [] [] pos) tDNewK := fun pins s σ H Q I h =>
  wpAny_Dict_empty ⟨.ref s.heap.objs.size, _, I.laid (a := s.heap.objs.size) (o := .dK []) (t' := s.toks) (fun _ _ q => Heap.get?_push_of_some _ q) (Nat.le_refl _) (dk_empty s.heap I.big), rfl, h _ (I.hok.fresh (Nat.le_refl _))⟩
theorem pe_dnewT : PE X (.Dict [] [] pos) tDNewT := fun pins s σ H Q I h =>
  wpAny_Dict_empty ⟨.ref s.heap.objs.size, _, I.laid (a := s.heap.objs.size) (o := .dT []) (t' := s.toks) (fun _ _ q => Heap.get?_push_of_some _ q) (Nat.le_refl _) (dt_empty s.heap I.big), rfl, h _ (I.hok.fresh (Nat.le_refl _))⟩
end
noncomputable def tPairs : List (TE × TE) → St → Hp → (List (V × V) → Hp → Prop) → Prop
  | [], _, H, Q => Q [] H
  | (tk, tv) :: r, σ, H, Q => tk σ H fun x H1 => tv σ H1 fun y H2 => tPairs r σ H2 fun ps H3 => Q ((x, y) :: ps) H3
noncomputable abbrev VV : List (V × V) → List (Value × Value) → Prop := Paired fun p q => RelV p.1 q.1 ∧ RelV p.2 q.2
noncomputable def PPs (X : Cx) (pos : Pos) (keys : List (Option Expr)) (values : List Expr) (trs : List (TE × TE)) : Prop :=
  ∀ (pins : List (Addr × Obj)) (s : Shared) (σ : St) (H : Hp) (Q : List (V × V) → Hp → Prop), Inv X pins σ H s → tPairs trs σ H Q →
    wpAny (model X.prog X.w) X.A (evalPairs (pairTrees keys values X.env pos)) (fun vs s' => ∃ ps H', Inv X pins σ H' s' ∧ VV ps vs ∧ Q ps H') X.xe s
theorem pps_nil {X : Cx} {pos : Pos} : PPs X pos [] [] [] := fun pins s σ H Q I h => pairTrees_nil_walk ⟨[], H, I, .nil, h⟩
theorem pps_cons {X : Cx} {pos : Pos} {k v : Expr} {ks : List (Option Expr)} {vs : List Expr} {tk tv : TE} {trs : List (TE × TE)} (hk : PE X k tk) (hv : PE X v tv) (hr : PPs X pos ks vs trs) :
    PPs X pos (some k :: ks) (v :: vs) ((tk, tv) :: trs) := fun pins s σ H Q I h =>
  pairTrees_cons_walk (thn (hk pins s σ H _ I h) fun u s1 ⟨x, H1, I1, rx, q1⟩ => thn (hv pins s1 σ H1 _ I1 q1) fun w2 s2 ⟨y, H2, I2, ry, q2⟩ =>
    thn (hr pins s2 σ H2 _ I2 q2) fun ws s3 zq6 => by obtain ⟨ps, H3, I3, rel, q3⟩ := zq6; exact (⟨(x, y) :: ps, H3, I3, .cons ⟨rx, ry⟩ rel, q3⟩))
noncomputable def mergeK (kvs more : List (Key × V)) : List (Key × V) := more.foldl (fun acc kv => putK acc kv.1 kv.2) kvs
theorem KV.merge : ∀ {more : List (Key × V)} {rs : List (Key × Value)} {kvs : List (Key × V)} {vs : List (Key × Value)}, KV more rs → KV kvs vs → KV (mergeK kvs more) (merged vs rs) := by
  intro more rs kvs vs r
  unfold KV at r
  induction r generalizing kvs vs with
  | nil => intro q; exact q
  | @cons p q ps qs h t ih =>
    intro r0
    have e : KV (putK kvs p.1 p.2) (stored vs q.1 q.2) := by
      have := r0.put p.1 h.2
      rw [← h.1]; exact this
    exact ih e
theorem length_mergeK : ∀ (more kvs : List (Key × V)), (mergeK kvs more).length ≤ kvs.length + more.length
  | [], kvs => by show kvs.length ≤ kvs.length + 0; omega
  | p :: r, kvs => by
    have h1 := length_mergeK r (putK kvs p.1 p.2)
    have h2 := length_putK kvs p.1 p.2
    show (mergeK (putK kvs p.1 p.2) r).length ≤ _
    rw [List.length_cons]; omega
theorem carries_of {P : Program} {w : World} : ∀ {kvs : List (Key × V)} {ws : List (Value × Value)}, VV (kvs.map fun kv => (kV kv.1, kv.2)) ws → ∃ rs, Carries (mixKind P w) ws rs ∧ KV kvs rs
  | [], _, r => by rw [List.map_nil] at r; cases r; exact ⟨[], True.intro, .nil⟩
  | p :: kvs, _, r => by
    rw [List.map_cons] at r
    cases r with
    | @cons a b as bs h t =>
      obtain ⟨rs, c, q⟩ := carries_of (P := P) (w := w) t
      obtain ⟨b1, b2⟩ := b
      exact ⟨(p.1, b2) :: rs, ⟨kV_is h.1, rfl, c⟩, .cons ⟨rfl, h.2⟩ q⟩
noncomputable def tDisp (trs : List (TE × TE)) : TE := fun σ H Q => ∀ p, H p = none → tPairs trs σ (upd H p (.dK [])) fun ps H2 => H2 p = some (.dK []) ∧ ∃ kvs : List (Key × V), ps = kvs.map (fun kv => (kV kv.1, kv.2)) ∧ kvs.length ≤ 15 ∧ Q (.ref p) (upd H2 p (.dK (mergeK [] kvs)))
theorem pe_disp {X : Cx} {pos : Pos} {keys : List (Option Expr)} {values : List Expr} {trs : List (TE × TE)} (h : PPs X pos keys values trs) (hall : keys.all (·.isSome) = true) (hl : keys.length = values.length) (h0 : keys ≠ [])
    (h15 : keys.length ≤ 15) : PE X (.Dict keys values pos) (tDisp trs) := by
  intro pins s σ H Q I q
  have hn := I.hok.fresh (Nat.le_refl s.heap.objs.size)
  have I1 := I.laid (a := s.heap.objs.size) (o := .dK []) (h' := s.heap.push { cls := .type "dict", data := .dict #[] }) (t' := s.toks) (fun _ _ q => Heap.get?_push_of_some _ q) (Nat.le_refl _) (dk_empty s.heap I.big)
  refine wpAny_Dict_walk (knd := mixKind X.prog X.w) hall hl h0 h15 (thn (h pins _ σ _ _ I1 (q _ hn)) fun ws s2 zr2988 => ?_)
  obtain ⟨ps, H2, I2, rel, e, kvs, ep, lk, q2⟩ := zr2988
  subst ep
  obtain ⟨rs, c, rk⟩ := carries_of (P := X.prog) (w := X.w) rel
  obtain ⟨z, hd, vs0, r0, dd⟩ := dk_of I2.hok e
  cases r0
  refine ⟨rs, c, dd, fun h' dd' hs => ⟨.ref s.heap.objs.size, _, ?_, rfl, q2⟩⟩
  have hz : (mergeK [] kvs).length ≤ sizeLine := by
    have h1 := length_mergeK kvs []
    rw [List.length_nil] at h1
    rw [sizeLine_eq]; omega
  have he : ∃ q, h'.get? s.heap.objs.size = some q := let ⟨q, _, _, hq, _⟩ := dd'; ⟨q, hq⟩
  exact d_write I2 (by rw [e]; exact True.intro) hs he (dk_new hz hd (rk.merge .nil) dd')
structure M2 (X : Cx) (o : Expr) (m : Str) (apos : Pos) (e f : Expr) (cpos : Pos) : Prop where
  base : attributeBase o m X.env (eval o X.env) = eval o X.env
  few : ((backTo cpos (starEach [e, f] X.env)).all (fun x => !x.1) && (backToKw cpos (keywordEach [] X.env)).all (fun x => x.1.isSome)
    && decide (([e, f] : List Expr).length + ([] : List Keyword).length + (if ([] : List Keyword).isEmpty then 0 else 1) < 30)) = true
  line : (apos.endLine == cpos.line) = true
  trees : backTo cpos (starEach [e, f] X.env) = [(false, eval e X.env), (false, eval f X.env)]
noncomputable def IsD (H : Hp) (a : Addr) : Prop := (∃ kvs, Rd H a (.dK kvs)) ∨ ∃ kvs, Rd H a (.dT kvs)
theorem isD_at {X : Cx} {pins : List (Addr × Obj)} {σ : St} {H : Hp} {s : Shared} {a : Addr} (I : Inv X pins σ H s) (d : IsD H a) :
    s.TypeIs (.ref a) "dict" ∧ (∀ b, Value.ref a = .ref b → ∃ ob, s.heap.get? b = some ob ∧ ob.dict = none) ∧ (a == sysModules) = false := by
  rcases d with ⟨kvs, e⟩ | ⟨kvs, e⟩
  · obtain ⟨_, hd, vs, _, dd⟩ := dk_rd I.hok e
    refine ⟨dd.typeIs, fun b q => ?_, hd⟩
    cases q
    obtain ⟨ob, _, _, h1, h2, _⟩ := dd
    exact ⟨ob, h1, h2.2.1⟩
  · obtain ⟨_, hd, xs, _, dd⟩ := dt_rd I.hok e
    refine ⟨dd.typeIs, fun b q => ?_, hd⟩
    cases q
    obtain ⟨ob, _, _, h1, h2, _⟩ := dd
    exact ⟨ob, h1, h2.2.1⟩
section
variable {X : Cx} {pins : List (Addr × Obj)} {σ : St} {H : Hp} {s : Shared} {a : Addr} {y d : V} {u r : Value} {o : Option V} {A : Around} {E : Value → Shared → Prop}
end
section
variable {X : Cx} {o e f : Expr} {apos cpos : Pos} {td ty tx : TE}
end
section
variable {X : Cx} {pins : List (Addr × Obj)} {σ : St} {H : Hp} {s : Shared} {a : Addr} {kvs : List (Key × V)} {A : Around} {E : Value → Shared → Prop}
end
section
variable {X : Cx} {pins : List (Addr × Obj)} {σ : St} {H : Hp} {s : Shared} {a : Addr} {y : V} {u : Value} {A : Around} {E : Value → Shared → Prop}
end
end L2
namespace Att
open PySem PySem.W PySem.Calls PyProof.Rows
theorem ints_of_wellAll {P : Params} {h : Heap} : ∀ (ns : List Int) (vs : List Value), WellAll P h vs (ns.map WData.int) → IntsAre vs ns := by
  intro ns
  induction ns with
  | nil =>
    intro vs w
    rw [List.map_nil] at w
    cases w
    exact .nil
  | cons n ns ih =>
    intro vs w
    rw [List.map_cons] at w
    cases w with
    | cons a b =>
      cases a
      exact .cons _ _ (ih _ b)
theorem script_of {l : OpenLaw} {n : Nat} (hn : l.most = some n) {P : Params} {h : Heap} {args : List WData} {vals : List Value}
    (hpre : l.row.toRowW.claim.pre args = true) (hwl : WellAll P h vals args) :
    ∃ a vs ns, vals = [Value.ref a] ∧ args = [WData.list (ns.map WData.int)] ∧ h.get? a = some { cls := .type "list", data := .seq vs.toArray } ∧ IntsAre vs ns ∧ ns.length ≤ n := by
  have hsh : WShape.hasAll [] args [.list .int] = true := (pre_splitW hpre).1
  have hc : l.pre.holds [] { args := args } = true := (pre_splitW hpre).2
  obtain ⟨d, r, rfl, h1, h2⟩ := hasAllW_cons hsh
  obtain rfl := hasAllW_nil h2
  obtain ⟨xs, rfl, h3⟩ := hasW_list h1
  obtain ⟨ns, rfl⟩ := items_int h3
  have hlen : ns.length ≤ n := by
    unfold OpenLaw.pre at hc
    have h4 : (WTm.not (.lt (.lit (.int (n : Int))) (.len (.arg 0)))).holds [] { args := [.list (ns.map .int)] } = true := by
      have h4 := (holds_andW hc).1
      rw [hn] at h4
      exact h4
    have h5 := condW_of h4 (w_not (w_lt w_lit (w_len_list (w_arg rfl))))
    rw [List.length_map] at h5
    refine Nat.le_of_not_lt fun q => ?_
    have q' : (n : Int) < ((ns.length : Nat) : Int) := by omega
    first
      | (rw [decide_eq_true q'] at h5; exact absurd h5 (by decide))
      | (simp at h5; omega)
  cases hwl with
  | cons w1 w2 =>
    cases w2
    cases w1 with
    | list ho hall => exact ⟨_, _, ns, rfl, rfl, ho, ints_of_wellAll ns _ hall, hlen⟩
theorem post_true (l : OpenLaw) (args : List WData) : l.row.toRowW.claim.post args (.bool true) args = true :=
  postW_of (r := l.row.toRowW) (X := (true == true))
    (show WShape.has [] (.bool true) .bool = true by first | rfl | decide | simp [WShape.has, WShape.arms, WShape.armsAll])
    (show (WTm.eq .res (.lit (.bool true))).value [] { args := args, res := some (.bool true), after := args } = some (.bool (true == true)) from w_eq_bool (w_res rfl) w_lit) rfl
theorem attach_call {l : OpenLaw} {n : Nat} {q : Program} {loose : List Str} {XP : (Str → Option Value) → Heap → Prop} {YP : World → Heap → Prop} {d : DefRec}
    (hn : l.most = some n) (hdf : d.params.defaults = [])
    (call : ∀ (w : World) (s₀ s₁ : Shared) (mg mb : Str → Option Value) (fa : Addr) (o : Obj) (pm cd doc : Value) (a : Addr) (vs : List Value) (ns : List Int),
      Ground q loose [] XP w s₀ mg mb s₁.heap → YP w s₁.heap →
      s₁.heap.get? fa = some o → o.data = .func (docDef d.name d.params d.body d.scope pm cd doc) → s₁.heap.CodeRec cd d.name → mg d.name = some (.ref fa) →
      s₁.heap.get? a = some { cls := .type "list", data := .seq vs.toArray } → IntsAre vs ns → ns.length ≤ n → s₁.gens = #[] →
      codeAny (model l.prog w) callerA (.call (.ref fa) ⟨[.ref a], []⟩) (fun r s' => r = .ok (.ret (.bool true)) ∧ OldK s₁.heap s'.heap ∧ s'.os = s₁.os ∧ AllBare s'.gens) s₁) :
    WalkO q loose XP YP l.row.toRowW d [] (fun f vs => PySem.call f vs) := by
  intro w s₀ s₁ mg mb G Y fa o pm cd doc dV kV ho hd hcd hD hmg hg args vals as hpre hlay hrd hwl hlo
  obtain rfl : dV = .none := Dflts.none hD hdf
  obtain rfl : kV = .none := Dflts.noKw hD
  obtain ⟨a, vs, ns, rfl, rfl, hobj, hints, hlen⟩ := script_of hn hpre hwl
  refine enter_call (codeAny_mono (call w s₀ s₁ mg mb fa o pm cd doc a vs ns G Y ho (fd_plain hd) hcd hmg hobj hints hlen hg) fun r s' hq => ?_)
  obtain ⟨rfl, h2, h3, h4⟩ := hq
  exact ⟨.inl ⟨.bool true, .bool true, [], rfl, fun _ => rfl, .bool true, post_true l _, fun _ => ⟨List.Pairwise.nil, fun _ hm => (nomatch hm)⟩⟩, h2, h3, h4⟩
section
variable {prog : Program} {w : World} {A : Around} {E : Value → Shared → Prop} {s : Shared} {K : Frag}
end
end Att
namespace L2
open PySem PySem.Spec PyProof.Rows
theorem vals_ints : ∀ {vs : List Value} {ns : List Int}, IntsAre vs ns → Vals (ns.map V.int) vs
  | _, _, .nil => .nil
  | _, _, .cons n t h => .cons ⟨t, rfl⟩ (vals_ints h)
noncomputable def Only (H : Hp) : Prop := ∀ b, H b = none ∨ ∃ o xs, H b = some (.frz o (.lst xs))
theorem law_call {P : Program} {w : World} {K : PySem.W.Frag} {mg mb : Str → Option Value} {CX : CXT} {k : Nat} {fa a : Addr} {fd : FuncData} {x : Str} {sp : Sp} {s₁ : Shared} {vs : List Value} {ns : List Int}
    (KX : K.In s₁.heap) (hns : s₁.heap.Ns mainGlobals mg) (hb : s₁.heap.Ns builtinsNs mb) (hbb : ∀ x : Str, x ≠ "__name__" → mb x = bootBuiltins x) (hlim : s₁.heap.NoLimit) (hg : s₁.gens = #[])
    (ha : s₁.heap.get? a = some { cls := .type "list", data := .seq vs.toArray }) (hi : IntsAre vs ns) (hl : ns.length ≤ sizeLine) (hr : Room k callerA)
    (F : ∀ base : Heap, K.In base → base.Ns mainGlobals mg → FnOk P w K mg base CX k fa fd [x] sp) (hbind : ∀ (s : Shared) (u : Value), BindsTo s fd ⟨[u], []⟩ [(x, u)])
    (hsp : ∀ H : Hp, Only H → SqL K H a (ns.map V.int) → sp [.ref a] H (fun v _ => v = .bl true) fun _ _ _ => False)
    (hCX : ∀ H e s', CX [] H s₁ (fun _ _ _ => False) e s' → False) :
    codeAny (model P w) callerA (.call (.ref fa) ⟨[.ref a], []⟩) (fun r s' => r = .ok (.ret (.bool true)) ∧ OldK s₁.heap s'.heap ∧ s'.os = s₁.os ∧ AllBare s'.gens) s₁ := by
  have rv := vals_ints hi
  have lenV := hi.length
  -- from an abstract heap in which nothing but the script may be tracked
  have core : ∀ H : Hp, Only H → SqL K H a (ns.map V.int) → HOk P w H s₁.heap → (∀ b, H b ≠ none → b = a) → (H a ≠ none → K.lookup a = none) →
      codeAny (model P w) callerA (.call (.ref fa) ⟨[.ref a], []⟩) (fun r s' => r = .ok (.ret (.bool true)) ∧ OldK s₁.heap s'.heap ∧ s'.os = s₁.os ∧ AllBare s'.gens) s₁ := by
    intro H hO hS hok hA hK
    have base_of : ∀ {b : Addr} {o : Obj}, s₁.heap.get? b = some o → H b = none → (hidT s₁.heap H).get? b = some o := fun e n => hidT_get e n
    have noA : ∀ {b : Addr} {o : Obj} {es : Array DictEntry} {ep : Nat}, s₁.heap.get? b = some o → o.data = .dict es ep → H b = none := fun {b o es ep} e d => by
      cases q : H b with
      | none => rfl
      | some u =>
        have e' : b = a := hA b (by rw [q]; simp)
        subst e'
        rw [ha] at e; cases e
        have d' : Data.seq vs.toArray _ = Data.dict es ep := d
        cases d'
    have nsK : ∀ {b : Addr} {m : Str → Option Value}, s₁.heap.Ns b m → (hidT s₁.heap H).Ns b m := fun {b m} zq7 => by obtain ⟨o, es, ep, e, d, r⟩ := zq7; exact (⟨o, es, ep, base_of e (noA e d), d, r⟩)
    have hKb : K.In (hidT s₁.heap H) := fun b o e => base_of (KX b o e) (by
      cases q : H b with
      | none => rfl
      | some u =>
        have e' : b = a := hA b (by rw [q]; simp)
        subst e'
        rw [hK (by rw [q]; simp)] at e; cases e)
    have hM : Mod K mg (hidT s₁.heap H) := ⟨hKb, nsK hns, ⟨mb, nsK hb, hbb⟩, let ⟨mc, h1, h2⟩ := hlim; ⟨mc, nsK h1, h2⟩⟩
    have e0 : Env0 P w K mg (hidT s₁.heap H) callerA [] s₁ H := ⟨rfl, hM, fun b o e => of_hidT e, Nat.le_of_eq (hidT_size _ _), trivial, fun b hb => absurd (show b ∈ ([] : List Addr) from hb) (by simp), hok, .of_eq hg⟩
    refine codeAny_mono ((F _ hKb (nsK hns)).run callerA [] s₁ H ⟨[.ref a], []⟩ [.ref a] [.ref a] _ _ hr e0 (hbind s₁ (.ref a)) (.cons rfl .nil) (hsp H hO hS)) fun r s' h => ?_
    cases r with
    | error e => exact (hCX H e s' h).elim
    | ok fl =>
      cases fl with
      | next => exact False.elim h
      | brk => exact False.elim h
      | cont => exact False.elim h
      | ret u =>
        obtain ⟨v, H', os, bare, un, hok', r', q⟩ := h
        have q' : v = .bl true := q
        subst q'
        obtain rfl : u = Value.bool true := r'
        refine ⟨rfl, OldK.of_keep fun b o e => ?_, os, bare⟩
        cases q : H b with
        | none => exact un.keep b o e q (by intro z; exact absurd (show b ∈ ([] : List Addr) from z) (by simp)) (by simp)
        | some u =>
          rcases hO b with z | ⟨ob, xs, z⟩
          · rw [q] at z; cases z
          · have z2 := un.frzs b ob _ z
            obtain ⟨e1, _⟩ := hok b _ z
            obtain ⟨e2, _⟩ := hok' b _ z2
            rw [e] at e1; cases e1
            exact e2
  cases hk : K.lookup a with
  | some o =>
    -- the script is one of the module's own objects
    have e := KX a o hk
    rw [ha] at e
    cases e
    refine core (fun _ => none) (fun _ => .inl rfl) (.inr ⟨_, vs.toArray, _, hk, rfl, rfl, rfl, by rw [List.size_toArray, lenV]; exact hl, by simpa using rv⟩) (fun b u z => by have z' : (none : Option HO) = some u := z; cases z') (fun b z => absurd rfl z) fun z => absurd rfl z
  | none =>
    refine core (fun b => if b = a then some (.frz { cls := .type "list", data := .seq vs.toArray } (.lst (ns.map V.int))) else none) (fun b => ?_) (.inl (.inr ⟨{ cls := .type "list", data := .seq vs.toArray }, if_pos rfl⟩)) (fun b u z => ?_) (fun b z => ?_) fun _ => hk
    · by_cases hb : b = a
      · exact .inr ⟨_, _, if_pos hb⟩
      · exact .inl (if_neg hb)
    · by_cases hb : b = a
      · have z' := (if_pos hb).symm.trans z
        cases z'
        subst hb
        exact ⟨ha, by rw [List.length_map]; exact hl, vs, _, rv, ha⟩
      · have z' := (if_neg hb).symm.trans z
        cases z'
    · by_cases hb : b = a
      · exact hb
      · exact absurd (if_neg hb) z
end L2
namespace L2
open PySem PySem.Spec PyProof.Rows
noncomputable abbrev KOf {K : PySem.W.Frag} {h : Heap} (_ : K.In h) : PySem.W.Frag := K
theorem walk_of {l : PySem.W.OpenLaw} {n k : Nat} {q : Program} {loose : List Str} {XP : (Str → Option Value) → Heap → Prop} {YP : World → Heap → Prop} {d : DefRec} {K : Params → PySem.W.Frag} {CX : World → CXT} {sp : World → Sp} {x : Str}
    (hn : l.most = some n) (hn2 : n ≤ sizeLine) (hdf : d.params.defaults = []) (hr : Room k callerA)
    (hY : ∀ (w : World) (h : Heap), YP w h → (K w.params).In h)
    (F : ∀ (w : World) (mg : Str → Option Value) (fa : Addr) (h : Heap), (K w.params).In h → h.Ns mainGlobals mg → mg d.name = some (.ref fa) →
      ∃ fd : FuncData, (∀ (s : Shared) (u : Value), BindsTo s fd ⟨[u], []⟩ [(x, u)]) ∧
        ∀ base : Heap, (K w.params).In base → base.Ns mainGlobals mg → FnOk l.prog w (K w.params) mg base (CX w) k fa fd [x] (sp w))
    (hsp : ∀ (w : World) (H : Hp) (a : Addr) (ns : List Int), ns.length ≤ n → Only H → SqL (K w.params) H a (ns.map V.int) → sp w [.ref a] H (fun v _ => v = .bl true) fun _ _ _ => False)
    (hCX : ∀ (w : World) (H : Hp) (s : Shared) (e : Value) (s' : Shared), CX w [] H s (fun _ _ _ => False) e s' → False) :
    PySem.W.WalkO q loose XP YP l.row.toRowW d [] (fun f vs => PySem.call f vs) := by
  refine Att.attach_call hn hdf fun w s₀ s₁ mg mb fa o pm cd doc a vs ns G Y ho hd hcd hmg hobj hints hlen hg => ?_
  have KX := hY w _ Y
  obtain ⟨fd, hb, hF⟩ := F w mg fa _ KX G.T.g hmg
  exact law_call KX G.T.g G.T.b G.T.builtins G.T.nolimit hg hobj hints (Nat.le_trans hlen hn2) hr hF hb (fun H hO hS => hsp w H a ns hlen hO hS) fun H e s' => hCX w H s₁ e s'
end L2
/- THE LAST THEOREM (shape; LID, My.* are yours):
   My.Adr: a structure of the addresses that your layer names (classes, functions); My.Txt K t: a structure (Prop) of the equations over K;
   My.txt_mk : {K} {implicit addresses ..} (e1 : nsIn K mainGlobals "law" = some (some (.ref f))) (e2 : K.lookup f = some ⟨oc, od, .func (fnOf "law" "law" params body scope dV kV doc pm an cdv ct), sl⟩) (e3 : codeIn K cdv "law" = true) .. : ∃ t, My.Txt K t
set_option maxRecDepth 100000 in
set_option maxHeartbeats 0 in
theorem PySem.Challenge.cw_LID_holds : PySem.Challenge.rw_LID.Holds := by
  w_on; o_law; k_head; (case hw => w_witness2)
  k_fill
  refine L2.walk_of (l := PySem.Challenge.rw_LID) (n := 63) (k := 40) (x := "script") (CX := fun w => ..) (sp := fun _ => My.sp_law) rfl (by decide) rfl ⟨rfl, by decide, by decide⟩ (fun w h Y => PySem.W.kIn_of Y) ?F ?S ?C
  case F =>
    intro w mg fa h KX G hmg
    have T : ∃ t, My.Txt (L2.KOf KX) t := by
      dsimp only [L2.KOf]                          -- K must stand as «<heap const> w.params» for k_is
      refine' My.txt_mk ?e1 ?e2 ?e3 ..
      (case e1 => PySem.W.k_is)                    -- in the order: a name -> its address -> its object -> its parts
      (case e2 => PySem.W.k_is)
      ..
    obtain ⟨t, T⟩ := T
    have e0 := hmg.symm.trans (PySem.W.mg_of KX G T.law)
    cases e0                                       -- fa is the law's own address
    exact ⟨_, fun s u => .of_eq rfl, fun base kb nb => My.law_fn T kb nb⟩     -- if «.of_eq rfl» comes too early: refine' ⟨_, ?b, fun base kb nb => My.law_fn T kb nb⟩; exact fun s u => .of_eq rfl
  case S => exact fun w H a ns hl hO hS => ..
  case C => exact ..
(the tactic k_is has no namespace: write k_is) -/
namespace L2
open PySem PySem.Spec PyProof.Rows
noncomputable def inClass (s : Stmt) (j : Nat) : Stmt := match s with
  | .ClassDef _ _ _ body _ _ _ _ _ _ _ => body.getD j (.Pass ⟨0, 0, 0, 0⟩)
  | _ => .Pass ⟨0, 0, 0, 0⟩
noncomputable def defArgs (s : Stmt) : Arguments := match s with
  | .FunctionDef _ a _ _ _ _ _ _ _ _ => a
  | _ => { posonlyargs := [], args := [], vararg := none, kwonlyargs := [], kw_defaults := [], kwarg := none, defaults := [] }
noncomputable def defBody (s : Stmt) : List Stmt := match s with
  | .FunctionDef _ _ b _ _ _ _ _ _ _ => b
  | _ => []
noncomputable def defScope (s : Stmt) : Scope := match s with
  | .FunctionDef _ _ _ _ _ _ sc _ _ _ => sc
  | _ => { kind := .function, names := [], isGenerator := false, isCoroutine := false }
noncomputable abbrev CX0 : CXT := fun _ _ _ _ _ _ => False
noncomputable abbrev E0 : XK := fun _ _ _ => False
theorem pass0 {X : Cx} : Passes CX0 X E0 := fun _ _ _ _ _ _ _ h => h.elim
structure Fun (K : PySem.W.Frag) (x qual : Str) (st : Stmt) (f : Addr) (fd : FuncData) : Prop where
  ex : ∃ (oc : Value) (od : Option Addr) (kV doc pm : Value) (an : Option Addr) (cdv ct : Value) (osl : Array (Option Value)),
    fd = PySem.W.fnOf x qual (defArgs st) (defBody st) (defScope st) .none kV doc pm an cdv ct ∧ K.lookup f = some ⟨oc, od, .func fd, osl⟩ ∧ PySem.W.codeIn K cdv qual = true
  kp : PySem.W.keepIn K (.ref f) = true
section
variable {P : Program} {w : World} {K : PySem.W.Frag} {mg : Str → Option Value} {base : Heap}
theorem Fun.ok {x qual : Str} {st : Stmt} {f : Addr} {fd : FuncData} {N ps : List Str} {k : Nat} {sp : Sp} (F : Fun K x qual st f fd) (S : FnScope N ps (defScope st)) (len : ∀ vs H Q E, sp vs H Q E → vs.length = ps.length)
    (hbody : ∀ (cdv : Value) (A : Around) (outer : List Env) (s : Shared) (H : Hp) (vs : List V) (Q : VK) (E : XK), Room k (A.deeper (envOfC qual (defScope st) s.heap.objs.size f cdv)) → sp vs H Q E →
      ∃ t, PSs (cxOf CX0 P w K mg base N qual (defScope st) f cdv A outer s H E).nox (defBody st) t ∧ t { nx := fun _ H' => Q .non H', rt := Q } (start N vs) H) : FnOk P w K mg base CX0 (k + 1) f fd ps sp := by
  obtain ⟨oc, od, kV, doc, pm, an, cdv, ct, osl, rfl, lk, hcd⟩ := F.ex
  refine fn_of lk hcd S len fun A outer s H vs Q E hr hsp => ?_
  obtain ⟨t, h, q⟩ := hbody cdv A outer s H vs Q E hr hsp
  exact ⟨t, h.nox, q⟩
theorem Fun.binds {x qual : Str} {st : Stmt} {f : Addr} {fd : FuncData} {ps : List Str} (F : Fun K x qual st f fd)
    (h : ∀ (kV doc pm : Value) (an : Option Addr) (cdv ct : Value) (us : List Value), us.length = ps.length → bindArgs (PySem.W.fnOf x qual (defArgs st) (defBody st) (defScope st) .none kV doc pm an cdv ct) ⟨us, []⟩ = pure (ps.zip us)) : Binds K fd ps [] := by
  obtain ⟨oc, od, kV, doc, pm, an, cdv, ct, osl, rfl, lk, hcd⟩ := F.ex
  exact .all (h kV doc pm an cdv ct)
theorem fun_mk {x qual : Str} {st : Stmt} {f : Addr} {oc : Value} {od an : Option Addr} {osl : Array (Option Value)} {kV doc pm cdv ct : Value} (l : K.lookup f = some ⟨oc, od, .func (PySem.W.fnOf x qual (defArgs st) (defBody st) (defScope st) .none kV doc pm an cdv ct), osl⟩)
    (c : PySem.W.codeIn K cdv qual = true) (k : PySem.W.keepIn K (.ref f) = true) : Fun K x qual st f (PySem.W.fnOf x qual (defArgs st) (defBody st) (defScope st) .none kV doc pm an cdv ct) := ⟨⟨oc, od, kV, doc, pm, an, cdv, ct, osl, rfl, l, c⟩, k⟩
end
theorem hu_of {A : Around} {k : Nat} (hr : Room k A) : A.units + 1 < cLine := Nat.lt_of_le_of_lt (Nat.add_le_add_left (by decide : 1 ≤ 64) _) hr.units
theorem small1000 {n : Nat} (h : n ≤ 1000) : n < sizeLine := Nat.lt_of_le_of_lt h (by decide)
section
variable {X : Cx}
end
theorem ite2 {c A B : Prop} [Decidable c] (h1 : c → A) (h2 : ¬ c → B) : if c then A else B := by
  by_cases h : c
  · rw [if_pos h]
    exact h1 h
  · rw [if_neg h]
    exact h2 h
noncomputable def Same (H H' : Hp) : Prop := ∀ b o, H b = some o → H' b = some o
theorem Same.refl (H : Hp) : Same H H := fun _ _ h => h
theorem Same.trans {H H1 H2 : Hp} (a : Same H H1) (b : Same H1 H2) : Same H H2 := fun c o h => b c o (a c o h)
theorem Same.free {H H' : Hp} (e : Same H H') {l : Addr} (h : H' l = Option.none) : H l = Option.none := by
  cases q : H l with
  | none => rfl
  | some o =>
    rw [e l o q] at h
    cases h
theorem Same.seq {K : PySem.W.Frag} {H H' : Hp} {a : Addr} {xs : List V} (e : Same H H') (h : SqL K H a xs) : SqL K H' a xs := by
  rcases h with (h | ⟨o, h⟩) | h
  · exact .inl (.inl (e _ _ h))
  · exact .inl (.inr ⟨o, e _ _ h⟩)
  · exact .inr h
end L2
namespace L2
open PySem PySem.Spec PyProof.Rows
section
variable {X : Cx}
end
section
variable {κ : Type} [DecidableEq κ]
theorem dropK_pos {p : κ × V} {r : List (κ × V)} {k : κ} (e : p.1 = k) : dropK (p :: r) k = dropK r k := by
  unfold dropK
  rw [List.filter_cons, if_neg (by simp [e])]
theorem dropK_neg {p : κ × V} {r : List (κ × V)} {k : κ} (e : ¬ p.1 = k) : dropK (p :: r) k = p :: dropK r k := by
  unfold dropK
  rw [List.filter_cons, if_pos (by simp [e])]
theorem dropK_mem {kvs : List (κ × V)} {k : κ} {p : κ × V} (h : p ∈ dropK kvs k) : p ∈ kvs := (List.mem_filter.mp h).1
theorem nd_dropK : ∀ {kvs : List (κ × V)} {k : κ}, (kvs.map (·.1)).Nodup → ((dropK kvs k).map (·.1)).Nodup
  | [], _, _ => List.nodup_nil
  | p :: r, k, h => by
    have h : (p.1 :: r.map (·.1)).Nodup := h
    obtain ⟨h1, h2⟩ := List.nodup_cons.mp h
    by_cases e : p.1 = k
    · rw [dropK_pos e]
      exact nd_dropK h2
    · rw [dropK_neg e]
      show (p.1 :: (dropK r k).map (·.1)).Nodup
      refine List.nodup_cons.mpr ⟨fun m => h1 ?_, nd_dropK h2⟩
      obtain ⟨q, hq, eq⟩ := List.mem_map.mp m
      exact List.mem_map.mpr ⟨q, dropK_mem hq, eq⟩
end
end L2
set_option Elab.async false
set_option linter.all false
set_option maxRecDepth 100000
namespace L2
open PySem PySem.Spec PyProof.Rows
theorem compLoop_any {prog : Program} {w : World} {A : Around} {R : Result → Shared → Prop} {s : Shared} {elt target iter : Expr} {ifs : List Expr} {scope : Scope} {pos : Pos} {it acc : Value} {env : Env} (I : Nat → Shared → Prop)
    (turn : ∀ n s, I n s → wpAny (model prog w) A (pyNext it) (fun r s₁ => match r with
      | none => R (.ok .next) s₁
      | some v => wpAny (model prog w) A (letOwnedTupleGo target it v) (fun _ s₁ => wpAny (model prog w) A (assign target env v) (fun _ s₂ =>
          wpAny (model prog w) A (forIn ifs true fun c r => if r = true then do let ok ← isTrue c env (eval c env); pure (ForInStep.yield ok) else pure (ForInStep.yield r)) (fun ok s₃ =>
            if ok = true then wpAny (model prog w) A (eval elt env) (fun x s₄ =>
              wpAny (model prog w) A (call (.builtin "list.append") [acc, x]) (fun _ s₅ => ∃ m, m < n ∧ I m s₅) (notedBy (model prog w) A env fun e s' => R (.error e) s') s₄) (notedBy (model prog w) A env fun e s' => R (.error e) s') s₃
            else ∃ m, m < n ∧ I m s₃) (notedBy (model prog w) A env fun e s' => R (.error e) s') s₂) (notedBy (model prog w) A env fun e s' => R (.error e) s') s₁) (notedBy (model prog w) A env fun e s' => R (.error e) s') s₁) (notedBy (model prog w) A env fun e s' => R (.error e) s') s)
    (n : Nat) (h : I n s) :
    codeAny (model prog w) A (.compLoop (.ListComp elt [⟨target, iter, ifs, 0⟩] scope pos) 0 it acc env) R s := by
  refine codeAny_loop rfl I (fun n s hI => ?_) n h
  show wpAny _ A ((compTurn (.ListComp elt [⟨target, iter, ifs, 0⟩] scope pos) 0 it acc env).onRaise (fun x => do noteFrame x env; theTreesLotGoes x)) _ _ s
  refine wpAny_noted ?_
  rw [compTurn_list]
  refine wpAny_bind (wpAny_standAt (wpAny_bind (wpAny_mono (turn n s hI) (fun r s₁ h₁ => ?_) fun _ _ h' => h')))
  cases r with
  | none => exact wpAny_pure h₁
  | some v =>
    refine wpAny_bind (wpAny_mono h₁ (fun _ s₁ h₁ => ?_) fun _ _ h' => h')
    refine wpAny_bind (wpAny_mono h₁ (fun _ s₂ h₂ => wpAny_bind (wpAny_mono h₂ (fun ok s₃ h₃ => ?_) fun _ _ h' => h')) fun _ _ h' => h')
    cases ok with
    | false => exact wpAny_pure ⟨rfl, h₃⟩
    | true =>
      exact wpAny_bind (wpAny_bind (wpAny_mono h₃ (fun x s₄ h₄ => wpAny_bind (wpAny_mono h₄ (fun _ s₅ h₅ => wpAny_pure (wpAny_pure ⟨rfl, h₅⟩)) fun _ _ h' => h')) fun _ _ h' => h'))
noncomputable def PTs (X : Cx) (ifs : List Expr) (t : TT) : Prop :=
  ∀ (pins : List (Addr × Obj)) (s : Shared) (σ : St) (H : Hp) (Q : Bool → Hp → Prop), Inv X pins σ H s → t σ H Q →
    wpAny (model X.prog X.w) X.A (forIn ifs true fun c r => if r = true then do let ok ← isTrue c X.env (eval c X.env); pure (ForInStep.yield ok) else pure (ForInStep.yield r)) (TP X pins σ Q) X.xe s
noncomputable def tYes : TT := fun _ H Q => Q true H
theorem pts_nil {X : Cx} : PTs X [] tYes := fun _ _ _ H _ I h => wpAny_tests_nil ⟨H, I, h⟩
theorem pts_one {X : Cx} {c : Expr} {t : TT} (hc : PT X c t) : PTs X [c] t := fun pins s σ H Q I h => wpAny_tests_one (hc pins s σ H Q I h)
theorem closure_of {env : Env} : ∀ (names : List (Str × NameKind)) (acc : List (Str × Addr)), (∀ x ∈ names, x.2 = .free → ∃ c, env.cells.lookup x.1 = some c) →
    ∃ cl, (forIn (m := Sem) names acc fun x r => match x with
      | (name, kind) => if (kind == NameKind.free) = true then do let c ← cellOf env name; pure (ForInStep.yield ((name, c) :: r)) else pure (ForInStep.yield r)) = pure cl ∧
      (∀ x c, cl.lookup x = some c → acc.lookup x = some c ∨ env.cells.lookup x = some c) ∧ (∀ x, (acc.lookup x).isSome = true → (cl.lookup x).isSome = true) ∧ (∀ x, (x, NameKind.free) ∈ names → (cl.lookup x).isSome = true)
  | [], acc, _ => ⟨acc, rfl, fun x c h => .inl h, fun x h => h, fun x h => nomatch h⟩
  | (n, k) :: r, acc, h => by
    by_cases hk : k = .free
    · subst hk
      obtain ⟨c, hc⟩ := h (n, .free) List.mem_cons_self rfl
      obtain ⟨cl, e, h1, h2, h3⟩ := closure_of r ((n, c) :: acc) (fun x hx => h x (List.mem_cons_of_mem _ hx))
      refine ⟨cl, ?_, fun x d hd => ?_, fun x hx => h2 x ?_, fun x hx => ?_⟩
      · simp only [List.forIn_cons, beq_self_eq_true, if_true, cellOf, hc]
        exact e
      · rcases h1 x d hd with q | q
        · simp only [List.lookup_cons] at q
          split at q
          · rename_i hb
            have : x = n := by simpa using hb
            subst this
            cases q
            exact .inr hc
          · exact .inl q
        · exact .inr q
      · simp only [List.lookup_cons]
        split
        · rfl
        · exact hx
      · rcases List.mem_cons.mp hx with q | q
        · cases q
          exact h2 n (by simp)
        · exact h3 x q
    · obtain ⟨cl, e, h1, h2, h3⟩ := closure_of r acc (fun x hx => h x (List.mem_cons_of_mem _ hx))
      refine ⟨cl, ?_, h1, h2, fun x hx => ?_⟩
      · have : (k == NameKind.free) = false := by simpa using hk
        simp only [List.forIn_cons, this, Bool.false_eq_true, if_false]
        exact e
      · rcases List.mem_cons.mp hx with q | q
        · cases q
          exact absurd rfl hk
        · exact h3 x q
noncomputable def compCx (X : Cx) (scope : Scope) (N : List Str) (cl : List (Str × Addr)) (C : Addr) (fp : List Addr) (s : Shared) (H : Hp) (xe : Value → Shared → Prop) : Cx where
  prog := X.prog
  w := X.w
  K := X.K
  mg := X.mg
  base := X.base
  A := X.A
  N := N
  s₀ := s
  H₀ := H
  env := compEnvC scope cl C X.env
  outer := X.stack
  stack := X.stack
  ex := fp
  fn := fun _ => false
  calm := X.calm
  pn := []
  xe := xe
noncomputable def inner (nt : Nat) (js : List Nat) (σ : St) : St := List.replicate nt none ++ js.map fun j => (σ[j]?).join
noncomputable def Wk (σ0 σ2 : St) : Prop := σ0.length = σ2.length ∧ ∀ (i : Nat) v, σ0[i]? = some (some v) → σ2[i]? = some (some v)
noncomputable def TgOk (g : TG) (nt : Nat) : Prop := ∀ (x : V) (σ0 : St) (H : Hp) (Q : St → Hp → Prop), (∀ i, i < nt → σ0[i]? = some none) → g x σ0 H Q → g x σ0 H fun σ2 H2 => Wk σ0 σ2 ∧ Q σ2 H2
theorem Wk.set {σ0 : St} {i : Nat} {v : V} (h : σ0[i]? = some none) : Wk σ0 (σ0.set i (some v)) := by
  refine ⟨by simp, fun j w e => ?_⟩
  by_cases hj : j = i
  · subst hj; rw [h] at e; cases e
  · rw [List.getElem?_set_ne (Ne.symm hj)]; exact e
theorem Wk.trans {a b c : St} (h : Wk a b) (h' : Wk b c) : Wk a c := ⟨h.1.trans h'.1, fun i v e => h'.2 i v (h.2 i v e)⟩
theorem tgOk_name {i nt : Nat} (hi : i < nt) : TgOk (gName i) nt := fun x σ0 H Q h q => ⟨Wk.set (h i hi), q⟩
theorem inner_none {nt : Nat} {js : List Nat} {σ : St} : ∀ i, i < nt → (inner nt js σ)[i]? = some none := fun i hi => by
  unfold inner
  rw [List.getElem?_append_left (by simpa using hi)]
  simp [hi]
noncomputable def tComp (nt : Nat) (js : List Nat) (wi : TI) (g : TG) (tc : TT) (te : TE) : TE := fun σ H Q => wi σ H fun J H1 => ∀ D, H1 D = none → ∃ W : Nat → Nat → List V → Hp → Prop, (∃ m, W 0 m [] (upd H1 D (.lst []))) ∧
  ∀ i m ys H2, W i m ys H2 → (J.stop i H2 ∧ Q (.ref D) H2) ∨ (J.go i H2 ∧ ∃ N : List V → Hp → Prop, (∀ ys' H', N ys' H' → ∃ m', m' < m ∧ W (i + 1) m' ys' H') ∧
    ∀ x H', J.yld i H2 x H' → g x (inner nt js σ) H' fun σ2 H3 => tc σ2 H3 fun b H4 => if b = true then te σ2 H4 fun y H5 => H5 D = some (.lst ys) ∧ ys.length < sizeLine ∧ N (ys ++ [y]) (upd H5 D (.lst (ys ++ [y]))) else N ys H4)
section
variable {X : Cx}
structure CompOk (X : Cx) (scope : Scope) (N : List Str) (nt : Nat) (js : List Nat) : Prop where
  kind : scope.kind = .function
  nd : N.Nodup
  len : N.length = nt + js.length
  /-- each name of around: its slot there, where it is a cell or free -/
  at_ : ∀ (k : Nat) (j : Nat) (x : Str), js[k]? = some j → N[nt + k]? = some x → X.N[j]? = some x ∧ (X.env.scope.names.lookup x = some .cell ∨ X.env.scope.names.lookup x = some .free)
  frl : ∀ (k : Nat) (x : Str), N[nt + k]? = some x → scope.names.lookup x = some .free
  own : ∀ y ∈ scope.names, y.2 ≠ .cell
  loc : ∀ y ∈ scope.names, y.2 = .local → scope.names.lookup y.1 = some .local
  free : ∀ y ∈ scope.names, y.2 = .free → X.env.scope.names.lookup y.1 = some .cell ∨ X.env.scope.names.lookup y.1 = some .free
theorem relabel_free {env : Env} : ∀ {names : List (Str × NameKind)} {x : Str}, ((names.map fun (n, k) => if (k == NameKind.free && env.scope.kind == .function && env.kindOf n == some .cell) then (n, NameKind.cell) else (n, k)).lookup x = some .cell ∨ (names.map fun (n, k) => if (k == NameKind.free && env.scope.kind == .function && env.kindOf n == some .cell) then (n, NameKind.cell) else (n, k)).lookup x = some .free) →
    (∀ y ∈ names, y.2 ≠ .cell) → (x, NameKind.free) ∈ names
  | [], x, h, _ => by rcases h with h | h <;> simp at h
  | (n, k) :: r, x, h, hc => by
    have ih := @relabel_free env r x
    have hr : ∀ y ∈ r, y.2 ≠ .cell := fun y hy => hc y (List.mem_cons_of_mem _ hy)
    cases hx : x == n with
    | true =>
      have e : x = n := by simpa using hx
      subst e
      have kf : k = .free := by
        simp only [List.map_cons] at h
        by_cases q : (k == NameKind.free && env.scope.kind == .function && env.kindOf x == some .cell) = true
        · simp only [Bool.and_eq_true, beq_iff_eq] at q
          exact q.1.1
        · rw [if_neg q] at h
          simp only [List.lookup_cons, beq_self_eq_true] at h
          rcases h with h | h
          · cases h
            exact absurd rfl (hc _ List.mem_cons_self)
          · exact Option.some.inj h
      subst kf
      exact List.mem_cons_self
    | false =>
      refine List.mem_cons_of_mem _ (ih ?_ hr)
      simp only [List.map_cons] at h
      by_cases q : (k == NameKind.free && env.scope.kind == .function && env.kindOf n == some .cell) = true
      · rw [if_pos q] at h; simpa only [List.lookup_cons, hx] using h
      · rw [if_neg q] at h; simpa only [List.lookup_cons, hx] using h
theorem lookup_relabel_free {env : Env} : ∀ {names : List (Str × NameKind)} {x : Str}, names.lookup x = some .free →
    ((names.map fun (n, k) => if (k == NameKind.free && env.scope.kind == .function && env.kindOf n == some .cell) then (n, NameKind.cell) else (n, k)).lookup x = some .cell ∨ (names.map fun (n, k) => if (k == NameKind.free && env.scope.kind == .function && env.kindOf n == some .cell) then (n, NameKind.cell) else (n, k)).lookup x = some .free)
  | [], _, h => by simp at h
  | (n, k) :: r, x, h => by
    have ih := @lookup_relabel_free env r x
    simp only [List.map_cons]
    cases hx : x == n with
    | true =>
      simp only [List.lookup_cons, hx] at h
      cases h
      by_cases q : (NameKind.free == NameKind.free && env.scope.kind == .function && env.kindOf n == some .cell) = true
      · rw [if_pos q]; simp only [List.lookup_cons, hx]; simp
      · rw [if_neg q]; simp only [List.lookup_cons, hx]; simp
    | false =>
      simp only [List.lookup_cons, hx] at h
      by_cases q : (k == NameKind.free && env.scope.kind == .function && env.kindOf n == some .cell) = true
      · rw [if_pos q]; simp only [List.lookup_cons, hx]; exact ih h
      · rw [if_neg q]; simp only [List.lookup_cons, hx]; exact ih h
theorem comp_start {scope : Scope} {N : List Str} {nt : Nat} {js : List Nat} {cl : List (Str × Addr)} {fp : List Addr} {pins : List (Addr × Obj)} {σ : St} {H H1 : Hp} {s : Shared} {h' : Heap} {C : Addr} {tk : Nat} {xe : Value → Shared → Prop} {m : Str → Option Value}
    (S : CompOk X scope N nt js) (I : Inv X pins σ H s) (hf : ∀ b ∈ fp, FpOk X pins H b) (hcl : ∀ x c, cl.lookup x = some c → X.env.cells.lookup x = some c) (hcl2 : ∀ x, (x, NameKind.free) ∈ scope.names → (cl.lookup x).isSome = true)
    (hfp : ∀ b ∈ fp, b < s.heap.objs.size) (hC : s.heap.objs.size ≤ C) (k : ∀ b o, s.heap.get? b = some o → h'.get? b = some o) (hs : ∀ b o, H b = some o → H1 b = some o) (hs2 : ∀ b, H b = none → b < s.heap.objs.size → H1 b = none) (hok : HOk X.prog X.w H1 h') (hn : h'.Ns C m) (hC0 : H1 C = none)
    (hm : ∀ x, m x = none) :
    Inv (compCx X scope N cl C fp s H xe) [] (inner nt js σ) H1 { s with heap := h', toks := tk } := by
  have hfs : ∀ b ∈ fp, b ∉ frs X.stack := fun b hb z => by
    obtain ⟨f0, f1, f2, _⟩ := hf b hb
    rcases List.mem_cons.mp (I.stkSub b z) with q | q
    · exact f1 q
    · exact f2 q
  refine ⟨⟨I.ok.mod, S.kind, I.ok.glob, I.ok.blt, hC, fun x y c h1 h2 => I.ok.inj x y c (hcl x c h1) (hcl y c h2), fun x hx => ?_, fun x c z => (Bool.false_ne_true z).elim, I.ok.hd, I.ok.frames, .inl rfl, fun b hb => ?_, I.bs, Nat.le_trans I.ok.bsz I.sz, fun b o e hb => ?_, hfs, I.stack, I.stkFree⟩,
    rfl, I.bare, ?_, ⟨m, hn, fun i x v h1 h2 h3 => ?_⟩, fun x c e => ?_, hC0, fun x c e => ?_, fun p hp => absurd (show p ∈ ([] : List (Addr × Obj)) from hp) (by simp), hok, ?_⟩
  · have q : (x, NameKind.free) ∈ scope.names := relabel_free (env := X.env) hx S.own
    exact Option.isSome_iff_exists.mp (hcl2 x q)
  · obtain ⟨f0, f1, f2, f3, f4, f5⟩ := hf b hb
    refine ⟨Nat.ne_of_lt (Nat.lt_of_lt_of_le (hfp b hb) hC), fun x c e => f4 x c (hcl x c e)⟩
  · have := hf b hb
    obtain ⟨f0, f1, f2, f3, f4, f5⟩ := this
    rcases f3 with f3 | f3
    · exact I.ok.noex b o e f3
    · exact absurd (Nat.lt_of_lt_of_le (Heap.lt_size e) (Nat.le_trans I.ok.bsz f3)) (Nat.lt_irrefl _)
  · refine ⟨fun b o e n _ _ => k b o e, fun b o e n _ _ => ⟨o.slots, k b o e⟩, fun b o e n _ => hs2 b n (Heap.lt_size e), fun b o e _ => ⟨o, k b o e⟩, fun b xs e => hs b _ e, fun b o u e => hs b _ e, fun b ps e => ⟨#[], by rw [hs b _ e]; simp⟩⟩
  · by_cases hi : i < nt
    · rw [inner_none i hi] at h2; cases h2
    · obtain ⟨k', rfl⟩ : ∃ k', i = nt + k' := ⟨i - nt, by omega⟩
      unfold inner at h2
      rw [List.getElem?_append_right (by simp)] at h2
      simp only [List.length_replicate, Nat.add_sub_cancel_left, List.getElem?_map] at h2
      cases ej : js[k']? with
      | none => rw [ej] at h2; cases h2
      | some j =>
        rw [ej] at h2
        simp only [Option.map_some, Option.some.injEq] at h2
        obtain ⟨hN, hk⟩ := S.at_ k' j x ej h1
        have hσ : σ[j]? = some (some v) := by
          cases q : σ[j]? with
          | none => rw [q] at h2; cases h2
          | some z => rw [q] at h2; simp only [Option.join] at h2; rw [← h2]; rfl
        have vis : Vis X.env.scope x := by rcases hk with q | q; exact .inr (.inl q); exact .inr (.inr q)
        obtain ⟨m0, hn0, hl0⟩ := I.loc
        obtain ⟨u, r, l⟩ := hl0 j x v hN hσ vis
        refine ⟨u, r, ?_⟩
        rcases l with ⟨q, _⟩ | ⟨q, c, e, z⟩
        · have q' : X.env.scope.names.lookup x = some .local := q
          rw [q'] at hk
          rcases hk with hk | hk <;> cases hk
        · have hv : (relabel scope X.env).names.lookup x = some .cell ∨ (relabel scope X.env).names.lookup x = some .free := lookup_relabel_free (env := X.env) (S.frl k' x h1)
          have q : (x, NameKind.free) ∈ scope.names := relabel_free (env := X.env) hv S.own
          obtain ⟨c', e'⟩ := Option.isSome_iff_exists.mp (hcl2 x q)
          have e2 := hcl x c' e'
          rw [e] at e2; cases e2
          obtain ⟨oc, hoc, hd⟩ := z
          exact .inr ⟨hv, c, e', oc, k _ _ hoc, hd⟩
  · obtain ⟨v, oc, hoc, hd⟩ := I.cell x c (hcl x c e)
    exact ⟨v, oc, k _ _ hoc, hd⟩
  · have e2 := hcl x c e
    obtain ⟨v, oc, hoc, hd⟩ := I.cell x c e2
    exact hs2 c (I.freeC x c e2) (Heap.lt_size hoc)
  · unfold inner
    show _ = N.length
    rw [S.len]
    simp
theorem Inv.wk {Y : Cx} {pins : List (Addr × Obj)} {σ0 σ2 : St} {H : Hp} {s : Shared} (I : Inv Y pins σ2 H s) (h : Wk σ0 σ2) : Inv Y pins σ0 H s := I.weak h.1 h.2
theorem pe_comp {elt tg iter : Expr} {ifs : List Expr} {scope : Scope} {pos : Pos} {N : List Str} {nt : Nat} {js : List Nat} {wi : TI} {g : TG} {tc : TT} {te : TE}
    (hca : X.calm = true) (S : CompOk X scope N nt js) (hi : PI X tg iter wi)
    (hg : ∀ cl C fp s H xe, PG (compCx X scope N cl C fp s H xe) tg g) (hgo : TgOk g nt)
    (hc : ∀ cl C fp s H xe, PTs (compCx X scope N cl C fp s H xe) ifs tc)
    (he : ∀ cl C fp s H xe, PE (compCx X scope N cl C fp s H xe) elt te)
    (hs : ∀ x, foldedSetIterable iter X.env x = pure x := by intro _; rfl) :
    PE X (.ListComp elt [⟨tg, iter, ifs, 0⟩] scope pos) (tComp nt js wi g tc te) := by
  intro pins s σ H Q I h
  obtain ⟨cl, hclos, hcl1, _, hcl2⟩ := closure_of (env := X.env) scope.names [] (fun x hx hk => I.ok.has x.1 (S.free x hx hk))
  have hcl : ∀ x c, cl.lookup x = some c → X.env.cells.lookup x = some c := fun x c e => (hcl1 x c e).elim (fun z => by simp at z) fun z => z
  have hclos' : closureFor scope X.env = pure cl := by
    unfold closureFor
    simp only []
    rw [hclos]
    rfl
  rw [eval_ListComp]
  refine wpAny_comprehension_free (use := none) rfl hs hclos' S.kind S.loc (thn (hi pins s σ H _ I h) fun v s1 h1 => thn h1 fun itv s2 h2 => ?_)
  obtain ⟨it, fp, tn, J, H2, e, I2, T, st2, f2, q2⟩ := h2
  subst e
  have hfresh : H2 s2.heap.objs.size = none := I2.hok.fresh (Nat.le_refl _)
  obtain ⟨W, ⟨m0, w0⟩, turn⟩ := q2 s2.heap.objs.size hfresh
  refine wpAny_newObj_type (wpAny_newFunctionEnv S.own (by intro y hy; simp at hy) (fun h₁ hns₁ hsb₁ => ?_) S.kind)
  dsimp only at hns₁ hsb₁ ⊢
  generalize hG : s2.heap.push { cls := .type "list", dict := none, data := .seq ([] : List Value).toArray } = G at hns₁ hsb₁ ⊢
  have hGs : G.objs.size = s2.heap.objs.size + 1 := by rw [← hG, Heap.size_push]
  have kold : ∀ b o, s2.heap.get? b = some o → h₁.get? b = some o := fun b o e =>
    hsb₁.extBut b o (by rw [hGs]; exact Nat.ne_of_lt (Nat.lt_succ_of_lt (Heap.lt_size e))) (Heap.get?_push_of_some _ (hG ▸ Heap.get?_push_of_some _ e))
  have kD : h₁.get? s2.heap.objs.size = some { cls := .type "list", dict := none, data := .seq ([] : List Value).toArray } :=
    hsb₁.extBut _ _ (by rw [hGs]; exact Nat.ne_of_lt (Nat.lt_succ_self _)) (Heap.get?_push_of_some _ (hG ▸ Heap.get?_push_size _ rfl))
  have hok1 : HOk X.prog X.w (upd H2 s2.heap.objs.size (.lst [])) h₁ := I2.hok.laid kold (Nat.le_refl _) ⟨Nat.zero_le _, [], 0, .nil, kD⟩
  have hfpl : ∀ b ∈ fp, b < s2.heap.objs.size := fun b hb => by
    obtain ⟨o, e, _⟩ := T.obj _ _ st2 b hb
    exact Heap.lt_size e
  have hC0 : (upd H2 s2.heap.objs.size (.lst [])) G.objs.size = none := by
    rw [upd_ne (by rw [hGs]; exact Nat.ne_of_gt (Nat.lt_succ_self _))]
    exact I2.hok.fresh (by rw [hGs]; exact Nat.le_succ _)
  generalize hRR : (compPost (model X.prog X.w) X.A X.xe none (EP X pins σ Q) (.ref s2.heap.objs.size) G.objs.size) = RR
  have stat : ∀ {H' : Hp}, (∀ b ∈ fp, H' b = none) → ∀ b ∈ fp, FpOk (compCx X scope N cl G.objs.size fp s2 H2 (notedBy (model X.prog X.w) X.A (compEnvC scope cl G.objs.size X.env) fun e s' => RR (.error e) s')) [] H' b := fun {H'} hn b hb => by
    obtain ⟨f0, f1, f2', f3, f4, f5⟩ := f2 b hb
    refine ⟨hn b hb, Nat.ne_of_lt (Nat.lt_of_lt_of_le (hfpl b hb) (by show _ ≤ G.objs.size; rw [hGs]; exact Nat.le_succ _)), fun z => ?_, .inl hb, fun x c e => f4 x c (hcl x c e), fun p hp => absurd (show p ∈ ([] : List (Addr × Obj)) from hp) (by simp)⟩
    rcases List.mem_cons.mp (I2.stkSub b z) with q | q
    · exact f1 q
    · exact f2' q
  have I3 : ∀ tk, Inv (compCx X scope N cl G.objs.size fp s2 H2 (notedBy (model X.prog X.w) X.A (compEnvC scope cl G.objs.size X.env) fun e s' => RR (.error e) s')) [] (inner nt js σ) (upd H2 s2.heap.objs.size (.lst [])) { s2 with heap := h₁, toks := tk } := fun tk =>
    comp_start S I2 f2 hcl hcl2 hfpl (by rw [hGs]; exact Nat.le_succ _) kold (fun b o e => by rw [upd_ne (ne_of_none e hfresh)]; exact e) (fun b n hb => by rw [upd_ne (Nat.ne_of_lt hb)]; exact n) hok1 hns₁ hC0 (fun _ => rfl)
  have loop : ∀ s₃ : Shared, s₃ = { s2 with heap := h₁, toks := s2.toks + ([] : List (Str × Value)).length } →
      codeAny (model X.prog X.w) X.A (.compLoop (.ListComp elt [⟨tg, iter, ifs, 0⟩] scope pos) 0 (.ref it) (.ref s2.heap.objs.size) (compEnvC scope cl G.objs.size X.env)) RR s₃ := by
    rintro s₃ rfl
    refine compLoop_any (fun n s' => ∃ i ys H', Inv (compCx X scope N cl G.objs.size fp s2 H2 (notedBy (model X.prog X.w) X.A (compEnvC scope cl G.objs.size X.env) fun e s' => RR (.error e) s')) [] (inner nt js σ) H' s' ∧ tn i s'.heap ∧ (∀ b ∈ fp, H' b = none) ∧ W i n ys H') ?_ m0
      ⟨0, [], _, I3 _, T.keep _ _ _ st2 fun b hb o e => kold b o e, fun b hb => by rw [upd_ne (Nat.ne_of_lt (hfpl b hb))]; exact (f2 b hb).1, w0⟩
    rintro n s3 ⟨i, ys, H3, J3, st3, fr3, w3⟩
    rcases turn i n ys H3 w3 with ⟨stop, qn⟩ | ⟨go, NN, hN, step⟩
    · refine thn (T.done (compCx X scope N cl G.objs.size fp s2 H2 (notedBy (model X.prog X.w) X.A (compEnvC scope cl G.objs.size X.env) fun e s' => RR (.error e) s')) rfl rfl rfl hca i [] s3 (inner nt js σ) H3 _ J3 (stat fr3) st3 stop) fun r s4 zr3603 => ?_
      obtain ⟨hr, I4⟩ := zr3603
      subst hr
      show RR (.ok .next) s4
      rw [← hRR]
      obtain ⟨mC, hnC, _⟩ := id I4.loc
      refine ⟨mC, hnC, fun h'' hs'' => ?_⟩
      have keepC : ∀ b o, b ≠ G.objs.size → s4.heap.get? b = some o → h''.get? b = some o := fun b o hb e => hs''.extBut b o hb e
      have un : Un (frs X.stack) fp H2 H3 s2.heap h'' := by
        have u := I4.base
        refine ⟨fun b o e n hb hx => keepC b o ?_ (u.keep b o e n hb hx), fun b o e n hb hx => ?_, u.free, fun b o e hx => ?_, u.tups, u.frzs, u.tbls⟩
        · exact Nat.ne_of_lt (Nat.lt_of_lt_of_le (Heap.lt_size e) (by rw [hGs]; exact Nat.le_succ _))
        · obtain ⟨sl, e1⟩ := u.slot b o e n hb hx
          exact ⟨sl, keepC b _ (Nat.ne_of_lt (Nat.lt_of_lt_of_le (Heap.lt_size e) (by rw [hGs]; exact Nat.le_succ _))) e1⟩
        · obtain ⟨o', e1⟩ := u.there b o e hx
          exact ⟨o', keepC b _ (Nat.ne_of_lt (Nat.lt_of_lt_of_le (Heap.lt_size e) (by rw [hGs]; exact Nat.le_succ _))) e1⟩
      have hok' : HOk X.prog X.w H3 h'' := fun b u e => (I4.hok b u e).stay (fun c v hc q => keepC c v (by
          have cf : H3 G.objs.size = none := I4.free
          rintro rfl
          rcases hc with z | z
          · rw [z] at cf; rw [cf] at e; cases e
          · rw [cf] at z; cases z) q) (fun _ q => q) fun _ _ q => q
      exact ⟨.ref s2.heap.objs.size, H3, I2.call' (s' := { s4 with heap := h'' }) I4.os un hok' I4.bare (fun b hb => by
        obtain ⟨f0, f1, f2', f3, f4, f5⟩ := f2 b hb
        exact ⟨f3, f1, f4, f5⟩), rfl, qn⟩
    · refine thn (T.item (compCx X scope N cl G.objs.size fp s2 H2 (notedBy (model X.prog X.w) X.A (compEnvC scope cl G.objs.size X.env) fun e s' => RR (.error e) s')) rfl rfl rfl hca i [] s3 (inner nt js σ) H3 _ J3 (stat fr3) st3 go) fun r s4 zr3627 => ?_
      obtain ⟨u, hr, h4⟩ := zr3627
      subst hr
      refine thn h4 fun _ s5 zr3629 => ?_
      obtain ⟨x, H5, I5, r5, y5, st5, fr5⟩ := zr3629
      have I5' := I5.pinned (stat fr5) (T.obj _ _ st5)
      have g5 := hgo x (inner nt js σ) H5 _ inner_none (step x H5 y5)
      refine thn (hg cl G.objs.size fp s2 H2 _ _ s5 _ H5 x u _ I5' r5 g5) fun _ s6 zr3632 => ?_
      obtain ⟨σ6, H6, I6, wk6, q6⟩ := zr3632
      refine thn (hc cl G.objs.size fp s2 H2 _ _ s6 σ6 H6 _ I6 q6) fun ok s7 zr3633 => ?_
      obtain ⟨H7, I7, q7⟩ := zr3633
      have again : ∀ {s8 : Shared} {H8 : Hp} {ys' : List V}, Inv (compCx X scope N cl G.objs.size fp s2 H2 (notedBy (model X.prog X.w) X.A (compEnvC scope cl G.objs.size X.env) fun e s' => RR (.error e) s')) ([] ++ pinsAt fp s5.heap) σ6 H8 s8 → NN ys' H8 →
          ∃ m, m < n ∧ ∃ i ys H', Inv (compCx X scope N cl G.objs.size fp s2 H2 (notedBy (model X.prog X.w) X.A (compEnvC scope cl G.objs.size X.env) fun e s' => RR (.error e) s')) [] (inner nt js σ) H' s8 ∧ tn i s8.heap ∧ (∀ b ∈ fp, H' b = none) ∧ W i m ys H' := fun {s8 H8 ys'} I8 n8 => by
        obtain ⟨m', hm, w8⟩ := hN ys' H8 n8
        refine ⟨m', hm, i + 1, ys', H8, (I8.unpinned).wk wk6, T.keep _ _ _ st5 fun b hb o e => (I8.pin (b, o) (List.mem_append_right _ (List.mem_append_right _ (mem_pinsAt hb e)))).1, fun b hb => ?_, w8⟩
        obtain ⟨o, e, d⟩ := T.obj _ _ st5 b hb
        exact (I8.pin (b, o) (List.mem_append_right _ (List.mem_append_right _ (mem_pinsAt hb e)))).2.1
      cases ok with
      | false =>
        rw [if_neg Bool.false_ne_true] at q7 ⊢
        exact again I7 q7
      | true =>
        rw [if_pos rfl] at q7 ⊢
        refine thn (he cl G.objs.size fp s2 H2 _ _ s7 σ6 H7 _ I7 q7) fun y s8 zr3646 => ?_
        obtain ⟨yv, H8, I8, r8, hD8, hl8, q8⟩ := zr3646
        refine thn (mt_append (X := compCx X scope N cl G.objs.size fp s2 H2 (notedBy (model X.prog X.w) X.A (compEnvC scope cl G.objs.size X.env) fun e s' => RR (.error e) s')) _ s8 σ6 H8 (.ref s2.heap.objs.size) [yv] (.ref s2.heap.objs.size) [y] (fun _ H9 => NN (ys ++ [yv]) H9) I8 rfl (.cons r8 .nil) ⟨_, ys, yv, rfl, rfl, hD8, hl8, q8⟩) fun v9 s9 zr3647 => ?_
        obtain ⟨x9, H9, I9, r9, q9⟩ := zr3647
        exact again I9 q9
  subst hRR
  exact codeAny_compStart_list (loop _ rfl) (T.self _ 0 _ _ _ (T.keep _ _ _ st2 fun b hb o e => kold b o e) (loop _ rfl))
end
end L2
set_option Elab.async false
set_option linter.all false
set_option maxRecDepth 100000
namespace PySem
open Sem (wp)
theorem lri_nolen : typeLookup (.type "list_reverseiterator") "__len__" = pure none := by rw [typeLookup_type, builtinLookup_eq_fast]; kernel_rfl
theorem lri_hint : typeLookup (.type "list_reverseiterator") "__length_hint__" = pure (some (.builtin "list_reverseiterator.__length_hint__")) := by rw [typeLookup_type, builtinLookup_eq_fast]; kernel_rfl
section
variable {prog : Program} {w : World} {A : Around} {E : Value → Shared → Prop} {s : Shared}
theorem extend_rev {R : Result → Shared → Prop} (hh : A.handled = none) (S : Addr) (res : Value) (c₀ : Nat) (hS : s.heap.get? S = some { cls := .type "list", data := .seq #[] c₀ })
    {I l : Addr} {items : Array Value} (hi : s.heap.IsRevIter I l ((items.size : Int) - 1)) (hl : s.heap.IsList l items) (hIl : l ≠ I) (hSI : S ≠ I) (hSl : S ≠ l)
    (hR : ∀ h' tk acc' c', (∀ b o, b ≠ S → b ≠ I → s.heap.get? b = some o → h'.get? b = some o) → h'.get? S = some { cls := .type "list", dict := none, data := .seq acc' c', slots := #[] } →
      ItemsOf (fun i v => items[items.size - 1 - i]? = some v) acc' items.size → R (.ok (.ret res)) { s with heap := h', toks := tk }) (hn : items.size ≤ sizeLine) :
    wpAny (model prog w) A.in1 (Builtin.List.listExtendWith (.ref S) (.ref I) res)
      (fun fin s' => match fin with | .done f => R (.ok f) s' | .again c' => c'.quiet = true ∧ codeAny (model prog w) A c' R s') (fun e s' => R (.error e) s') s := by
  have W := (Walks.listRev (prog := prog) (w := w) (A := A.in1) hh I l hIl items)
  have hSf : S ∉ [I, l] := fun hm => by
    rcases List.mem_cons.mp hm with e | e
    · exact hSI e
    · exact hSl (List.mem_singleton.mp e)
  have hst : 0 ≤ items.size ∧ s.heap.IsRevIter I l ((items.size : Int) - 1 - ((0 : Nat) : Int)) ∧ s.heap.IsList l items := ⟨Nat.zero_le _, by simpa using hi, hl⟩
  unfold Builtin.List.listExtendWith
  refine wpAny_bind (wpAny_typeOf hi.typeIs ?_)
  have h1 : Builtin.List.listSameRef (.ref S) (.ref I) = false := by simp [Builtin.List.listSameRef, hSI]
  have h2 : (Value.type "list_reverseiterator" == Value.type "list") = false := by decide
  have h3 : (Value.type "list_reverseiterator" == Value.type "tuple") = false := by decide
  simp only [h1, h2, h3, Bool.or_false, Bool.false_eq_true, if_false]
  refine wpAny_bind (W.self 0 _ _ _ hst ?_)
  refine wpAny_bind (wpAny_holding ?_)
  unfold Builtin.List.listLengthHint
  refine wpAny_bind (wpAny_specialOf hi.typeIs lri_nolen ?_)
  show wpAny _ A.in1 (specialOf (Value.ref I) (Str.ofString "__length_hint__") >>= _) _ _ _
  refine wpAny_bind (wpAny_specialOf hi.typeIs lri_hint ?_)
  (generalize hid : ("list_reverseiterator.__length_hint__" : String) = id0; (fail_if_success (clear hid id0)); wp_delta; rw [show splitId id0 = some ("list_reverseiterator", "__length_hint__") from by subst hid; decide +kernel]; subst hid)
  refine wpAny_bind (wpAny_isInstance (b := true) hi.typeIs (by rw [isSubtype_type]; kernel_rfl) ?_)
  refine wpAny_pure ?_
  rw [if_neg (by decide)]
  refine wpAny_pure ⟨plainId_quiet F.plain_extend_loop _, codeAny_extend_loopS W.toS hn _ hSf _ items.size 0 _ _ _ rfl (Nat.zero_le _) hst hS (ItemsOf.nil _) fun s' acc' c' hm hS' hacc => ?_⟩
  rw [Moved.eq_with hm]
  refine hR s'.heap s'.toks acc' c' (fun b ob hb hbI e => hm.heap b ob (fun hmem => ?_) e) hS' hacc
  rcases List.mem_cons.mp hmem with e' | hmem
  · exact hb e'
  · exact hbI (List.mem_singleton.mp hmem)
theorem list_init_rev {R : Result → Shared → Prop} (hh : A.handled = none) (S : Addr) (hS : s.heap.get? S = some { cls := .type "list", data := .seq #[] })
    {I l : Addr} {items : Array Value} (hi : s.heap.IsRevIter I l ((items.size : Int) - 1)) (hl : s.heap.IsList l items) (hIl : l ≠ I) (hSI : S ≠ I) (hSl : S ≠ l)
    (hR : ∀ h' tk acc' c', (∀ b o, b ≠ S → b ≠ I → s.heap.get? b = some o → h'.get? b = some o) → h'.get? S = some { cls := .type "list", dict := none, data := .seq acc' c', slots := #[] } →
      ItemsOf (fun i v => items[items.size - 1 - i]? = some v) acc' items.size → R (.ok (.ret .none)) { s with heap := h', toks := tk }) (hn : items.size ≤ sizeLine) :
    wpAny (model prog w) A.in1 (Builtin.«list.__init__» ⟨[.ref S, .ref I], []⟩)
      (fun fin s' => match fin with | .done f => R (.ok f) s' | .again c' => c'.quiet = true ∧ codeAny (model prog w) A c' R s') (fun e s' => R (.error e) s') s := by
  show wpAny _ _ (do let old ← Builtin.List.listItems (.ref S); Builtin.List.listUpdate (.ref S) (fun _ => #[]); letGo old.toList.reverse; Builtin.List.listExtendWith (.ref S) (.ref I) .none) _ _ s
  refine wpAny_bind ?_
  unfold Builtin.List.listItems
  refine wpAny_bind (wpAny_seqItems hS rfl (wpAny_pure ?_))
  show wpAny _ _ (updateSeq S (fun _ => #[]) >>= fun _ => letGo (#[] : Array Value).toList.reverse >>= fun _ => Builtin.List.listExtendWith (.ref S) (.ref I) .none) _ _ s
  refine wpAny_bind (wpAny_updateSeq hS rfl ?_)
  have hS₂ := Heap.get?_update_self (Obj.mapSeq (fun _ => (#[] : Array Value))) hS rfl
  have oth : ∀ b o, b ≠ S → s.heap.get? b = some o → (s.heap.update S (Obj.mapSeq (fun _ => (#[] : Array Value)))).get? b = some o :=
    fun b o hb e => (Heap.get?_update_other _ _ (Ne.symm hb)).trans e
  refine wpAny_bind (wpAny_letGo ?_)
  refine extend_rev (s := { s with heap := s.heap.update S (Obj.mapSeq (fun _ => (#[] : Array Value))) }) hh S .none _ hS₂ (hi.at fun o e => oth _ o (Ne.symm hSI) e) (hl.at fun o e => oth _ o (Ne.symm hSl) e) hIl hSI hSl (fun h' tk acc' c' hk hS' hacc => ?_) hn
  exact hR h' tk acc' c' (fun b o hb hbI e => hk b o hb hbI (oth b o hb e)) hS' hacc
theorem call_list_rev {Q : Value → Shared → Prop} (hh : A.handled = none) {I l : Addr} {items : Array Value} (hi : s.heap.IsRevIter I l ((items.size : Int) - 1)) (hl : s.heap.IsList l items) (hIl : l ≠ I)
    (hQ : ∀ h' tk acc' c', (∀ b o, b ≠ I → s.heap.get? b = some o → h'.get? b = some o) →
      h'.get? s.heap.objs.size = some { cls := .type "list", dict := none, data := .seq acc' c', slots := #[] } → ItemsOf (fun i v => items[items.size - 1 - i]? = some v) acc' items.size → Q (.ref s.heap.objs.size) { s with heap := h', toks := tk }) (hn : items.size ≤ sizeLine) :
    wpAny (model prog w) A (call (.type "list") [.ref I]) Q E s := by
  refine callType_codes (Q₁ := fun obj s₁ => obj = .ref s.heap.objs.size ∧ s₁ = { s with heap := s.heap.push { cls := .type "list", data := .seq #[] } }) F.called_list (F.typeCall_list_1 _) F.entry_list_init
    (code_list_new _ ⟨rfl, rfl⟩) fun obj s₁ h₁ => ?_
  obtain ⟨rfl, rfl⟩ := h₁
  have hS : (s.heap.push { cls := .type "list", data := .seq #[] }).get? s.heap.objs.size = some { cls := .type "list", data := .seq #[] } := Heap.get?_push_size _ rfl
  have up : ∀ b o, s.heap.get? b = some o → (s.heap.push { cls := .type "list", data := .seq #[] }).get? b = some o := fun b o e => Heap.get?_push_of_some _ e
  obtain ⟨oi, hoi, _⟩ := id hi
  obtain ⟨ol, hol, _⟩ := id hl
  refine ⟨⟨_, hS, rfl⟩, F.args_list_init_2 _ _, list_init_rev (s := { s with heap := s.heap.push { cls := .type "list", data := .seq #[] } }) (A := A.in1) hh _ hS (hi.at fun o e => up _ o e) (hl.at fun o e => up _ o e) hIl (Nat.ne_of_gt (Heap.lt_size hoi)) (Nat.ne_of_gt (Heap.lt_size hol)) (fun h' tk acc' c' hk hS' hacc => ?_) hn⟩
  exact ⟨rfl, hQ h' tk acc' c' (fun b o hb e => hk b o (Nat.ne_of_lt (Heap.lt_size e)) hb (up b o e)) hS' hacc⟩
end
end PySem
set_option Elab.async false
set_option linter.all false
set_option maxRecDepth 100000
namespace L2
open PySem PySem.Spec PyProof.Rows
mutual
inductive Rep (K : PySem.W.Frag) (H : Hp) : V → PyData → Prop
  | non : Rep K H .non .none
  | bl (b : Bool) : Rep K H (.bl b) (.bool b)
  | int (i : Int) : Rep K H (.int i) (.int i)
  | str (x : Str) : Rep K H (.str x) (.str x)
  | tup {a : Addr} {vs : List V} {ds : List PyData} : SqT K H a vs → Reps K H vs ds → Rep K H (.ref a) (.tuple ds)
  | lst {a : Addr} {vs : List V} {ds : List PyData} : SqL K H a vs → Reps K H vs ds → Rep K H (.ref a) (.list ds)
inductive Reps (K : PySem.W.Frag) (H : Hp) : List V → List PyData → Prop
  | nil : Reps K H [] []
  | cons {v : V} {vs : List V} {d : PyData} {ds : List PyData} : Rep K H v d → Reps K H vs ds → Reps K H (v :: vs) (d :: ds)
end
theorem Reps.ints {K : PySem.W.Frag} {H : Hp} : ∀ (ns : List Int), Reps K H (ns.map V.int) (ns.map PyData.int)
  | [] => .nil
  | _ :: ns => .cons (.int _) (Reps.ints ns)
section
variable {X : Cx} {pins : List (Addr × Obj)} {σ : St} {H : Hp} {s : Shared}
mutual
theorem Inv.reads (I : Inv X pins σ H s) : ∀ {v : V} {d : PyData} {u : Value}, Rep X.K H v d → RelV v u → ∃ as, Reads s.heap u d as
  | _, _, _, .non, r => by cases r; exact ⟨_, .none⟩
  | _, _, _, .bl b, r => by cases r; exact ⟨_, .bool b⟩
  | _, _, _, .int b, r => by obtain ⟨t, rfl⟩ := r; exact ⟨_, .int b t⟩
  | _, _, _, .str b, r => by obtain ⟨t, rfl⟩ := r; exact ⟨_, .str b t⟩
  | _, _, _, .tup h q, r => by
    cases r
    obtain ⟨its, rv, ⟨o, ho, hc, n, hd⟩, _⟩ := I.tuple h
    obtain ⟨as, ra⟩ := Inv.readsAll I q rv
    exact ⟨_, .tuple ho hc hd (by simpa using ra)⟩
  | _, _, _, .lst h q, r => by
    cases r
    obtain ⟨its, rv, ⟨o, n, ho, hc, _, hd⟩, _⟩ := I.list h
    obtain ⟨as, ra⟩ := Inv.readsAll I q rv
    exact ⟨_, .list ho hc hd (by simpa using ra)⟩
theorem Inv.readsAll (I : Inv X pins σ H s) : ∀ {v : List V} {d : List PyData} {u : List Value}, Reps X.K H v d → Vals v u → ∃ as, ReadsAll s.heap u d as
  | _, _, _, .nil, r => by cases r; exact ⟨_, .nil⟩
  | _, _, _, .cons h q, r => by
    cases r with
    | cons r1 r2 =>
      obtain ⟨as, ra⟩ := Inv.reads I h r1
      obtain ⟨bs, rb⟩ := Inv.readsAll I q r2
      exact ⟨_, .cons ra rb⟩
end
end
section
variable {X : Cx} {a b c : Expr} {ta tb tc : TE} {pos : Pos}
noncomputable def rEqD (K : PySem.W.Frag) : R2 := fun x y H Q => ∃ dx dy, Rep K H x dx ∧ Rep K H y dy ∧ dx.canLay0 = true ∧ dy.canLay0 = true ∧ dx.depth ≤ 100 ∧ Q (.bl (PyData.eqv dx dy)) H
noncomputable def rNeD (K : PySem.W.Frag) : R2 := fun x y H Q => ∃ dx dy, Rep K H x dx ∧ Rep K H y dy ∧ dx.canLay0 = true ∧ dy.canLay0 = true ∧ dx.depth ≤ 100 ∧ Q (.bl (!PyData.eqv dx dy)) H
theorem op_eqD (hu : X.A.units + 100 < cLine) : OpR X (compareOp .Eq) (rEqD X.K) := by
  intro pins s σ H x y v u Q I rx ry h
  obtain ⟨dx, dy, h1, h2, h3, h4, h5, q⟩ := h
  obtain ⟨as, r1⟩ := I.reads h1 rx
  obtain ⟨bs, r2⟩ := I.reads h2 ry
  exact PySem.SeqAt.compareEq_reads r1 r2 h3 h4 (by omega) ⟨.bl _, H, I, rfl, q⟩
theorem op_neD (hu : X.A.units + 100 < cLine) : OpR X (compareOp .NotEq) (rNeD X.K) := by
  intro pins s σ H x y v u Q I rx ry h
  obtain ⟨dx, dy, h1, h2, h3, h4, h5, q⟩ := h
  obtain ⟨as, r1⟩ := I.reads h1 rx
  obtain ⟨bs, r2⟩ := I.reads h2 ry
  exact PySem.SeqAt.compareNe_reads r1 r2 h3 h4 (by omega) ⟨.bl _, H, I, rfl, q⟩
theorem preSum_take (ns : List Int) : ∀ n, n ≤ ns.length → preSum (fun i => ns.getD i 0) n = (ns.take n).sum
  | 0, _ => by simp [preSum]
  | n + 1, h => by
    have ih := preSum_take ns n (by omega)
    have e : ns[n]? = some (ns[n]'(by omega)) := by simp
    show preSum (fun i => ns.getD i 0) n + ns.getD n 0 = _
    rw [ih, List.take_add_one, e, List.sum_append, List.getD, e]
    simp
theorem preSum_list (ns : List Int) : preSum (fun i => ns.getD i 0) ns.length = ns.sum := by
  rw [preSum_take ns _ (Nat.le_refl _), List.take_length]
noncomputable def rSum (K : PySem.W.Frag) : List V → Hp → VK → Prop := fun xs H Q => ∃ (p : Addr) (ns : List Int), xs = [.ref p] ∧ SqL K H p (ns.map V.int) ∧ Q (.int ns.sum) H
theorem call_sum_l (hc : X.calm = true) : CallR X (.builtin "sum") (rSum X.K) := by
  intro pins s σ H xs us Q I r h
  obtain ⟨p, ns, rfl, hq, q⟩ := h
  obtain ⟨u, rfl, rx⟩ := vals1 r
  cases rx
  obtain ⟨its, rv, pl, hz⟩ := I.list hq
  refine call_sum_walkG (wpAny_pyIter_list pl.isList ?_)
  have hne : p ≠ s.heap.objs.size := by
    obtain ⟨o, n, ho, _⟩ := pl
    exact Nat.ne_of_lt (Heap.lt_size ho)
  refine ⟨_, _, _, _, _, _, fun i => ns.getD i 0, rfl, Walks.list (A := X.A.in1) (I.ok.hd hc) _ p hne its.toArray, ⟨⟨_, Heap.get?_push_size _ rfl, rfl, rfl⟩, pl.isList.at fun o e => Heap.get?_push_of_some _ e⟩, fun b hb => ?_, fun i v hv => ?_, fun h' tk t' hk => ?_⟩
  · obtain ⟨o, n, ho, _⟩ := pl
    rcases List.mem_cons.mp hb with e | e
    · rw [e]; exact Nat.lt_of_lt_of_le (Nat.lt_succ_self _) (by simp)
    · rw [List.mem_singleton.mp e]; exact Nat.lt_of_lt_of_le (Heap.lt_size ho) (by simp)
  · have h1 : its[i]? = some v := by simpa using hv
    have hlt : i < its.length := (List.getElem?_eq_some_iff.mp h1).1
    have hl := rv.length
    have hb : i < ns.length := by rw [← hl] at hlt; simpa using hlt
    obtain ⟨u, hu, t, ru⟩ := rv.get (i := i) (x := V.int ns[i]) (by simp [hb])
    rw [h1] at hu; cases hu
    exact ⟨t, by rw [ru]; simp [List.getD, hb]⟩
  · have hl : its.toArray.size = ns.length := by have := rv.length; simp at this ⊢; omega
    rw [hl, preSum_list]
    exact ⟨.int ns.sum, H, I.kept fun b o e => hk b o (by simp; exact Nat.ne_of_lt (Heap.lt_size e)) (Heap.get?_push_of_some _ e), ⟨t', rfl⟩, q⟩
noncomputable def tListRev (t : TE) : TE := fun σ H Q => t σ H fun x H1 => ∃ p, x = .ref p ∧ ∃ ys, H1 p = some (.lst ys) ∧ ∀ l, H1 l = none → Q (.ref l) (upd H1 l (.lst ys.reverse))
end
end L2
set_option Elab.async false
set_option linter.all false
set_option maxRecDepth 100000
namespace L2
open PySem PySem.Spec PyProof.Rows
section
variable {X : Cx} {a b c e : Expr} {ta tb tc te : TE} {pos p p2 pos2 : Pos} {tg : Expr}
theorem pe_listrev (hc : X.calm = true) (hg : Gl X "list") (hm : X.mg "list" = none) (hg2 : Gl X "reversed") (hm2 : X.mg "reversed" = none) (he : PE X e te) (hse : starEach [e] X.env = [(false, eval e X.env)] := by rfl) :
    PE X (.Call (.Name "list" p) [.Call (.Name "reversed" p2) [e] [] pos2] [] pos) (tListRev te) := by
  intro pins s σ H Q I h
  refine wpAny_Call_Name_kw (ld_blt I hg hm (by decide +kernel : bootBuiltins "list" = some (.type "list")) ?_)
  refine PyProof.Rows.callWith_type1 (Calls.spliced_cons ?_) rfl rfl
  refine wpAny_Call_Name_kw (ld_blt I hg2 hm2 boot_reversed ?_)
  refine PyProof.Rows.callWith_type1 (Q := _) ?_ hse rfl
  rw [hse]
  refine Calls.spliced_cons (thn (he pins s σ H _ I h) fun u s1 ⟨x, H1, I1, r1, pp, e1, ys, hq', q⟩ => Calls.spliced_nil ?_)
  subst e1
  cases r1
  have hq : SqL X.K H1 pp ys := .of hq'
  obtain ⟨its, rv, pl, hz⟩ := I1.list hq
  have hlen := rv.length
  refine call_reversed_list pl.isList ?_
  have hlt : pp < s1.heap.objs.size := by
    obtain ⟨o, n, ho, _⟩ := pl
    exact Heap.lt_size ho
  refine Calls.spliced_nil (call_list_rev (I.ok.hd hc) (I := s1.heap.objs.size) (l := pp) (items := its.toArray) ⟨_, Heap.get?_push_size _ rfl, rfl, rfl⟩ (pl.isList.at fun o e => Heap.get?_push_of_some _ e) (Nat.ne_of_lt hlt) (fun h' tk acc' c' hk hS hacc => ?_) (by simp only [List.size_toArray]; omega))
  have kp : ∀ b o, s1.heap.get? b = some o → h'.get? b = some o := fun b o e => hk b o (Nat.ne_of_lt (Heap.lt_size e)) (Heap.get?_push_of_some _ e)
  have hrev : acc' = its.reverse.toArray := by
    apply Array.ext_getElem?
    intro i
    have hs1 := hacc.1
    simp only [List.size_toArray] at hs1
    by_cases hi : i < its.length
    · have h1 : acc'[i]? = some (acc'[i]'(by omega)) := by simp [hs1, hi]
      have h2 := hacc.2 i _ h1
      rw [h1, ← h2]
      simp only [List.size_toArray, List.getElem?_toArray]
      rw [List.getElem?_reverse hi]
    · simp only [List.getElem?_toArray]
      rw [Array.getElem?_eq_none (by omega), List.getElem?_eq_none (by simp; omega)]
  subst hrev
  have hsz : s1.heap.objs.size ≤ (s1.heap.push (revObj pp ((its.toArray.size : Int) - 1))).objs.size := by rw [Heap.size_push]; exact Nat.le_succ _
  exact ⟨.ref (s1.heap.push (revObj pp ((its.toArray.size : Int) - 1))).objs.size, upd H1 _ (.lst ys.reverse), I1.laid (t' := tk) kp hsz ⟨by simp; omega, its.reverse, c', rv.reverse, hS⟩, rfl, q _ (I1.hok.fresh hsz)⟩
noncomputable def rSlS : V → Option Int → Option Int → Hp → VK → Prop := fun x lo hi H Q => ∃ z, x = .str z ∧ z.length ≤ sizeLine ∧ Q (.str (Txt.slice z lo hi)) H
theorem sl_str : SlR X rSlS := by
  intro pins s σ H x v vl vu lo hi sl Q I rx hs pl pu h
  obtain ⟨z, rfl, hz, q⟩ := h
  obtain ⟨t, rfl⟩ := rx
  refine ⟨"str", _, F.slot_str_getitem.lookup, typeIs_str _ _ _, ?_⟩
  have fin : ∀ (t' : Tok) (k : Nat), EP X pins σ Q (.str (Txt.slice z lo hi) t') { s with toks := k } := fun t' k => ⟨.str _, H, I.tok k, ⟨t', rfl⟩, q⟩
  obtain ⟨o, h1, h2, h3⟩ := hs
  cases pl with
  | none => cases pu with
    | none => exact wpAny_getItem_str_slice (l := none) (u := none) (st := none) ⟨o, h1, h2, h3⟩ rfl (post_val_or_str ⟨Nat.le_trans (Txt.slice_le z _ _) hz, fun t' k => fin t' k⟩)
    | int j uj => exact wpAny_getItem_str_slice (l := none) (u := some (j, uj)) (st := none) ⟨o, h1, h2, h3⟩ rfl (post_val_or_str ⟨Nat.le_trans (Txt.slice_le z _ _) hz, fun t' k => fin t' k⟩)
  | int i ui => cases pu with
    | none => exact wpAny_getItem_str_slice (l := some (i, ui)) (u := none) (st := none) ⟨o, h1, h2, h3⟩ rfl (post_val_or_str ⟨Nat.le_trans (Txt.slice_le z _ _) hz, fun t' k => fin t' k⟩)
    | int j uj => exact wpAny_getItem_str_slice (l := some (i, ui)) (u := some (j, uj)) (st := none) ⟨o, h1, h2, h3⟩ rfl (post_val_or_str ⟨Nat.le_trans (Txt.slice_le z _ _) hz, fun t' k => fin t' k⟩)
end
end L2
set_option Elab.async false
set_option linter.all false
set_option maxRecDepth 100000
namespace L2
open PySem PySem.Spec PyProof.Rows
noncomputable def FnL (K : PySem.W.Frag) (mg : Str → Option Value) (x : Str) (st : Stmt) (ps : List Str) : Prop :=
  ∃ f fd, Fun K x x st f fd ∧ mg x = some (.ref f) ∧ Binds K fd ps []
noncomputable def Fn (P : Program) (w : World) (K : PySem.W.Frag) (mg : Str → Option Value) (base : Heap) (x : Str) (k : Nat) (ps : List Str) (sp : Sp) : Prop :=
  ∃ f fd, FnOk P w K mg base CX0 k f fd ps sp ∧ mg x = some (.ref f) ∧ PySem.W.keepIn K (.ref f) = true ∧ Binds K fd ps []
section
variable {P : Program} {w : World} {K : PySem.W.Frag} {mg : Str → Option Value} {base : Heap}
theorem FnL.ok {x : Str} {st : Stmt} {N ps : List Str} {k : Nat} {sp : Sp} (F : FnL K mg x st ps) (S : FnScope N ps (defScope st)) (len : ∀ vs H Q E, sp vs H Q E → vs.length = ps.length)
    (hbody : ∀ (f : Addr) (cdv : Value) (A : Around) (outer : List Env) (s : Shared) (H : Hp) (vs : List V) (Q : VK) (E : XK), Room k (A.deeper (envOfC x (defScope st) s.heap.objs.size f cdv)) → sp vs H Q E →
      ∃ t, PSs (cxOf CX0 P w K mg base N x (defScope st) f cdv A outer s H E).nox (defBody st) t ∧ t { nx := fun _ H' => Q .non H', rt := Q } (start N vs) H) : Fn P w K mg base x (k + 1) ps sp := by
  obtain ⟨f, fd, F, m, b⟩ := F
  exact ⟨f, fd, F.ok S len (hbody f), m, F.kp, b⟩
theorem fnL_mk {x : Str} {st : Stmt} {ps : List Str} {h : Heap} {f : Addr} {oc : Value} {od an : Option Addr} {osl : Array (Option Value)} {kV doc pm cdv ct : Value} (X : K.In h) (G : h.Ns mainGlobals mg)
    (a : PySem.W.nsIn K mainGlobals x = some (some (.ref f)))
    (l : K.lookup f = some ⟨oc, od, .func (PySem.W.fnOf x x (defArgs st) (defBody st) (defScope st) .none kV doc pm an cdv ct), osl⟩)
    (c : PySem.W.codeIn K cdv x = true) (k : PySem.W.keepIn K (.ref f) = true)
    (hb : ∀ (kV doc pm : Value) (an : Option Addr) (cdv ct : Value) (us : List Value), us.length = ps.length → bindArgs (PySem.W.fnOf x x (defArgs st) (defBody st) (defScope st) .none kV doc pm an cdv ct) ⟨us, []⟩ = pure (ps.zip us)) : FnL K mg x st ps :=
  ⟨f, _, fun_mk l c k, PySem.W.mg_of X G a, (fun_mk l c k).binds hb⟩
end
section
variable {X : Cx} {k : Nat} {ps : List Str} {sp : Sp} {x : Str} {p pos : Pos} {e : Expr} {es : List Expr} {t : TA}
theorem pe_callF (F : Fn X.prog X.w X.K X.mg X.base x k ps sp) (hr : Room k X.A) (hg : Gl X x) (ha : PA X (e :: es) t) (hdb : (x == ("__debug__" : Str)) = false := by decide)
    (he : starEach (e :: es) X.env = (false, eval e X.env) :: starEach es X.env := by rfl) (hpl : (backTo pos (starEach es X.env)).any (·.1) = false := by rfl) :
    PE X (.Call (.Name x p) (e :: es) [] pos) (tCall sp [] E0 t) := by
  obtain ⟨f, fd, F, m, kp, b⟩ := F
  exact pe_call F hr hg m kp b .nil pass0 ha hdb he hpl
end
structure Wlk (J : It) (xs : List V) (C : Hp → Prop) : Prop where
  go : ∀ i H, C H → i < xs.length → J.go i H
  yld : ∀ i H x H', C H → i < xs.length → J.yld i H x H' → xs[i]? = some x ∧ H' = H
  stop : ∀ i H, C H → xs.length ≤ i → J.stop i H
theorem wlk_list {K : PySem.W.Frag} {a : Addr} {xs : List V} : Wlk (Itl K a) xs (fun H => SqL K H a xs) :=
  ⟨fun i H h hi => ⟨xs, xs[i], h, by simp [hi]⟩, fun i H x H' h _ y => ⟨y.2 xs h, y.1⟩, fun i H h hi => ⟨xs, h, hi⟩⟩
theorem wlk_tup {K : PySem.W.Frag} {a : Addr} {xs : List V} : Wlk (Itt K a) xs (fun H => SqT K H a xs) :=
  ⟨fun i H h hi => ⟨xs, xs[i], h, by simp [hi]⟩, fun i H x H' h _ y => ⟨y.2 xs h, y.1⟩, fun i H h hi => ⟨xs, h, hi⟩⟩
noncomputable def rngV (lo : Int) (n : Nat) : List V := (List.range n).map fun (i : Nat) => V.int (lo + (i : Int))
theorem rngV_length (lo : Int) (n : Nat) : (rngV lo n).length = n := by simp [rngV]
theorem rngV_get {lo : Int} {n i : Nat} (h : i < n) : (rngV lo n)[i]? = some (.int (lo + i)) := by simp [rngV, h]
theorem wlk_range {lo : Int} {n : Nat} : Wlk (Itr lo n) (rngV lo n) (fun _ => True) :=
  ⟨fun i H _ hi => by rw [rngV_length] at hi; exact hi, fun i H x H' _ hi y => by
    obtain ⟨e, y⟩ := y
    rw [rngV_length] at hi
    rw [rngV_get hi, y]; exact ⟨rfl, e⟩, fun i H _ hi => by rw [rngV_length] at hi; exact hi⟩
theorem for_wlk {J : It} {xs : List V} {C : Hp → Prop} (w : Wlk J xs C) {g : TG} {tb : TS} {D : Ends} {σ : St} {H : Hp} (Pv : Nat → St → Hp → Prop) (h0 : Pv 0 σ H) (hl : ∀ i σ H, Pv i σ H → C H)
    (hs : ∀ i x σ H, i < xs.length → xs[i]? = some x → Pv i σ H → g x σ H fun σ2 H2 => tb { D with nx := Pv (i + 1), ct := Pv (i + 1), bk := D.nx } σ2 H2) (hd : ∀ σ H, Pv xs.length σ H → D.nx σ H) :
    ∃ W : Nat → Nat → St → Hp → Prop, (∃ m, W 0 m σ H) ∧ ∀ i m σ H, W i m σ H →
      (J.stop i H ∧ D.nx σ H) ∨ (J.go i H ∧ ∃ N : St → Hp → Prop, (∀ σ' H', N σ' H' → ∃ m', m' < m ∧ W (i + 1) m' σ' H') ∧ ∀ x H', J.yld i H x H' → g x σ H' fun σ2 H2 => tb { D with nx := N, ct := N, bk := D.nx } σ2 H2) := by
  refine ⟨fun i m σ H => m = xs.length - i ∧ i ≤ xs.length ∧ Pv i σ H, ⟨xs.length, by simp, Nat.zero_le _, h0⟩, ?_⟩
  rintro i m σ H ⟨rfl, hi, p⟩
  have q := hl i σ H p
  by_cases hlt : i < xs.length
  · refine .inr ⟨w.go i H q hlt, Pv (i + 1), fun σ' H' p' => ⟨xs.length - (i + 1), by omega, rfl, hlt, p'⟩, fun x H' y => ?_⟩
    obtain ⟨e1, e2⟩ := w.yld i H x H' q hlt y
    subst e2
    exact hs i x σ _ hlt e1 p
  · have e : i = xs.length := by omega
    subst e
    exact .inl ⟨w.stop _ H q (Nat.le_refl _), hd σ H p⟩
theorem comp_wlk {J : It} {xs : List V} {C : Hp → Prop} (w : Wlk J xs C) {g : TG} {tc : TT} {te : TE} {σ0 : St} {Q : VK} {H1 : Hp} {D : Addr} (Pv : Nat → List V → Hp → Prop) (h0 : Pv 0 [] (upd H1 D (.lst []))) (hl : ∀ i ys H, Pv i ys H → C H)
    (hs : ∀ i x ys H, i < xs.length → xs[i]? = some x → Pv i ys H → g x σ0 H fun σ2 H3 => tc σ2 H3 fun b H4 => if b = true then te σ2 H4 fun y H5 => H5 D = some (.lst ys) ∧ ys.length < sizeLine ∧ Pv (i + 1) (ys ++ [y]) (upd H5 D (.lst (ys ++ [y]))) else Pv (i + 1) ys H4)
    (hd : ∀ ys H, Pv xs.length ys H → Q (.ref D) H) :
    ∃ W : Nat → Nat → List V → Hp → Prop, (∃ m, W 0 m [] (upd H1 D (.lst []))) ∧
      ∀ i m ys H2, W i m ys H2 → (J.stop i H2 ∧ Q (.ref D) H2) ∨ (J.go i H2 ∧ ∃ N : List V → Hp → Prop, (∀ ys' H', N ys' H' → ∃ m', m' < m ∧ W (i + 1) m' ys' H') ∧
        ∀ x H', J.yld i H2 x H' → g x σ0 H' fun σ2 H3 => tc σ2 H3 fun b H4 => if b = true then te σ2 H4 fun y H5 => H5 D = some (.lst ys) ∧ ys.length < sizeLine ∧ N (ys ++ [y]) (upd H5 D (.lst (ys ++ [y]))) else N ys H4) := by
  refine ⟨fun i m ys H => m = xs.length - i ∧ i ≤ xs.length ∧ Pv i ys H, ⟨xs.length, by simp, Nat.zero_le _, h0⟩, ?_⟩
  rintro i m ys H ⟨rfl, hi, p⟩
  have q := hl i ys H p
  by_cases hlt : i < xs.length
  · refine .inr ⟨w.go i H q hlt, Pv (i + 1), fun σ' H' p' => ⟨xs.length - (i + 1), by omega, rfl, hlt, p'⟩, fun x H' y => ?_⟩
    obtain ⟨e1, e2⟩ := w.yld i H x H' q hlt y
    subst e2
    exact hs i x ys _ hlt e1 p
  · have e : i = xs.length := by omega
    subst e
    exact .inl ⟨w.stop _ H q (Nat.le_refl _), hd ys H p⟩
end L2
set_option Elab.async false
set_option linter.all false
set_option maxRecDepth 100000
namespace HT
open PySem PyProof.Rows
open PySem.SeqAt
open PySem.AutoSeq1 (wpAny_loadPart')
open PySem.MeetsSeq PySem.MeetsSeq2 PySem.MeetsSeq3
section
variable {prog : Program} {w : World} {A : Around} {E : Value → Shared → Prop} {s : Shared}
theorem getItem_tuple_whole {t sl : Addr} {items : Array Value} {vl vu : Value} {lo hi : Option Int} {Q : Value → Shared → Prop} (ht : IsTup s.heap t items) (hs : s.heap.IsSliceOf sl vl vu .none) (pl : IsPart vl lo) (pu : IsPart vu hi)
    (h1 : sIx items.size 0 lo = 0) (h2 : sIx items.size items.size hi = items.size)
    (h : Q (.ref t) s) : wpAny (model prog w) A (getItem (.ref t) (.ref sl)) Q E s := by
  obtain ⟨os, hos, hcs, hds⟩ := id hs
  have hTs : s.TypeIs (.ref sl) "slice" := ⟨os, hos, hcs⟩
  unfold getItem
  try with_reducible refine wpAny_holding ?_
  first | refine wpAny_bind (wpAny_pure ?_) | skip
  refine wpAny_bind (wpAny_sequenceKey ht.typeIs (by decide) ?_)
  refine wpAny_bind (wpAny_callSpecial?_slot (name := Str.ofString "__getitem__") ht.typeIs PyProof.Rows.slot_tuple_getitem
    (wpAny_call_entry PyProof.Rows.slot_tuple_getitem ht.typeIs entry_tuple_getitem ?_ (args_tuple_getitem _ _)))
  show wpAny _ _ (Builtin.Tuple.tupleItemsOf (.ref t) >>= _) _ _ s
  refine wpAny_bind (tupleItemsOf_ ht ?_)
  refine wpAny_bind (wpAny_typeOf hTs ?_)
  rw [if_pos (by decide)]
  refine wpAny_bind (sliceApplied_gen hs pl pu ?_)
  rw [h1, h2]
  show wpAny _ _ (if (((0 : Nat) : Int) == 0 && (1 : Int) == 1 && (items.size - 0) == items.size) = true then _ else _) _ _ s
  rw [if_pos (by simp)]
  unfold Builtin.Tuple.tupleIsExact
  refine wpAny_bind (wpAny_bind (wpAny_typeOf ht.typeIs (wpAny_pure ?_)))
  rw [if_pos (by decide)]
  exact wpAny_bind (wpAny_rule (wpAny_pure ⟨_, rfl, wpAny_pure h⟩))
end
end HT
namespace L2
open PySem PySem.Spec PyProof.Rows
noncomputable def cellOrFree (xs : List (Str × NameKind)) (x : Str) : Bool := xs.lookup x == some .cell || xs.lookup x == some .free
noncomputable def compChk (XN : List Str) (xs sn : List (Str × NameKind)) (N : List Str) (nt : Nat) (js : List Nat) : Bool :=
  decide N.Nodup && N.length == nt + js.length && (js.zip (N.drop nt)).all (fun p => XN[p.1]? == some p.2 && cellOrFree xs p.2) && (N.drop nt).all (fun x => sn.lookup x == some .free)
    && sn.all (fun y => y.2 != .cell) && sn.all (fun y => y.2 != .local || sn.lookup y.1 == some .local) && sn.all (fun y => y.2 != .free || cellOrFree xs y.1)
theorem cellOrFree_iff {xs : List (Str × NameKind)} {x : Str} (h : cellOrFree xs x = true) : xs.lookup x = some .cell ∨ xs.lookup x = some .free := by
  unfold cellOrFree at h
  rw [Bool.or_eq_true] at h
  simpa using h
theorem compOk_of {X : Cx} {scope : Scope} {N : List Str} {nt : Nat} {js : List Nat} (XN : List Str) (xs : List (Str × NameKind)) (hk : scope.kind = .function) (hN : X.N = XN) (hx : X.env.scope.names = xs)
    (h : compChk XN xs scope.names N nt js = true) : CompOk X scope N nt js := by
  subst hN hx
  unfold compChk at h
  simp only [Bool.and_eq_true] at h
  obtain ⟨⟨⟨⟨⟨⟨h1, h2⟩, h3⟩, h4⟩, h5⟩, h6⟩, h7⟩ := h
  refine ⟨hk, of_decide_eq_true h1, by simpa using h2, fun k j x e1 e2 => ?_, fun k x e => ?_, fun y hy => ?_, fun y hy e => ?_, fun y hy e => ?_⟩
  · have hm : (j, x) ∈ js.zip (N.drop nt) := by
      have e2' : (N.drop nt)[k]? = some x := by rw [List.getElem?_drop]; exact e2
      have : (js.zip (N.drop nt))[k]? = some (j, x) := by rw [List.getElem?_zip_eq_some]; exact ⟨e1, e2'⟩
      exact List.mem_of_getElem? this
    have q := List.all_eq_true.mp h3 _ hm
    rw [Bool.and_eq_true] at q
    exact ⟨by simpa using q.1, cellOrFree_iff q.2⟩
  · have hm : x ∈ N.drop nt := by
      have e2' : (N.drop nt)[k]? = some x := by rw [List.getElem?_drop]; exact e
      exact List.mem_of_getElem? e2'
    simpa using List.all_eq_true.mp h4 _ hm
  · simpa using List.all_eq_true.mp h5 _ hy
  · have q := List.all_eq_true.mp h6 _ hy
    rw [e] at q
    simpa using q
  · have q := List.all_eq_true.mp h7 _ hy
    rw [e] at q
    exact cellOrFree_iff (by simpa using q)
noncomputable def rSlTA (K : PySem.W.Frag) : V → Option Int → Option Int → Hp → VK → Prop := fun x lo hi H Q => ∃ a xs, x = .ref a ∧ SqT K H a xs ∧ (cutV xs lo hi = xs → Q (.ref a) H) ∧ (∀ p, H p = none → Q (.ref p) (upd H p (.tup (cutV xs lo hi))))
theorem sl_tupA {X : Cx} : SlR X (rSlTA X.K) := by
  intro pins s σ H x v vl vu lo hi sl Q I rx hs pl pu h
  obtain ⟨a, xs, e, hx, q1, q2⟩ := h
  by_cases hw : HT.sIx xs.length 0 lo = 0 ∧ HT.sIx xs.length xs.length hi = xs.length
  · subst e
    cases rx
    obtain ⟨its, r, ht, hz⟩ := I.tuple hx
    have hlen : its.toArray.size = xs.length := by rw [List.size_toArray]; exact r.length.symm
    refine ⟨"tuple", _, PyProof.Rows.slot_tuple_getitem.lookup, ht.typeIs, ?_⟩
    refine HT.getItem_tuple_whole ht hs pl pu (by rw [hlen]; exact hw.1) (by rw [hlen]; exact hw.2) ⟨.ref a, H, I, rfl, q1 ?_⟩
    unfold cutV
    rw [hw.1, hw.2]
    simp
  · exact sl_tup pins s σ H x v vl vu lo hi sl Q I rx hs pl pu ⟨a, xs, e, hx, hw, q2⟩
end L2
set_option Elab.async false
set_option linter.all false
set_option maxRecDepth 100000
namespace L2
open PySem PySem.Spec PyProof.Rows
theorem ex_kS {s : Str} {P : Key → Prop} : (∃ k, V.str s = kV k ∧ P k) ↔ P (Sum.inr s) := by
  constructor
  · rintro ⟨k, e, p⟩
    cases k with
    | inl i => cases e
    | inr x => cases e; exact p
  · exact fun p => ⟨_, rfl, p⟩
theorem ex_kI {i : Int} {P : Key → Prop} : (∃ k, V.int i = kV k ∧ P k) ↔ P (Sum.inl i) := by
  constructor
  · rintro ⟨k, e, p⟩
    cases k with
    | inl i => cases e; exact p
    | inr x => cases e
  · exact fun p => ⟨_, rfl, p⟩
section
variable {X : Cx} {o i value e : Expr} {td ty tv : TE} {pos pos' : Pos}
noncomputable def tDG (td ty : TE) : TE := fun σ H Q => td σ H fun x H1 => ty σ H1 fun y H2 => ∃ a, x = .ref a ∧ ∃ k, y = kV k ∧ ∃ kvs v, H2 a = some (.dK kvs) ∧ valV kvs k = some v ∧ Q v H2
theorem pe_dg (hu : X.A.units + 1 < cLine) (ho : PE X o td) (hi : PE X i ty) (hs : NoSl i) : PE X (.Subscript o i pos) (tDG td ty) := by
  intro pins s σ H Q I h
  refine subD_of PySem.F.slot_dict_getitem.lookup hs (thn (ho pins s σ H _ I h) fun u s1 ⟨x, H1, I1, rx, q1⟩ => thn (hi pins s1 σ H1 _ I1 q1) fun iv s2 zr4082 => ?_)
  obtain ⟨y, H2, I2, ry, a, ex, k, ey, kvs, v, hd, hv, q2⟩ := zr4082
  subst ex
  obtain rfl : u = Value.ref a := rx
  have g : DGet H2 a y (some v) := .inl ⟨kvs, k, .inl hd, ey, hv.symm⟩
  exact ⟨dict_typeIs I2 g, d_getItem hu I2 g ry fun w' s3 I3 rw' => ⟨v, H2, I3, rw', q2⟩⟩
noncomputable def sDP (td ty tv : TE) : TS := fun D σ H => tv σ H fun v H1 => td σ H1 fun x H2 => ty σ H2 fun y H3 => ∃ a, x = .ref a ∧ ∃ k, y = kV k ∧ ∃ kvs, H3 a = some (.dK kvs) ∧ kvs.length < sizeLine ∧ D.nx σ (upd H3 a (.dK (putK kvs k v)))
theorem ps_dp (hu : X.A.units + 1 < cLine) (ho : PE X o td) (hi : PE X i ty) (hv : PE X value tv) (hs : swapsWith value (some (.Subscript o i pos')) pos.line X.env = pure false) :
    PS X (.Assign [.Subscript o i pos'] value pos) (sDP td ty tv) := by
  intro pins s σ H D I h
  refine wpAny_Assign_Subscript (thn (hv pins s σ H _ I h) fun r s1 ⟨v, H1, I1, rv, q1⟩ => thn (ho pins s1 σ H1 _ I1 q1) fun u s2 ⟨x, H2, I2, rx, q2⟩ => thn (hi pins s2 σ H2 _ I2 q2) fun iv s3 zr4091 => ?_) hs
  obtain ⟨y, H3, I3, ry, a, ex, k, ey, kvs, hd, hl, q3⟩ := zr4091
  subst ex
  obtain rfl : u = Value.ref a := rx
  have g : DPut H3 a y v (upd H3 a (.dK (putK kvs k v))) := .inl ⟨kvs, k, hd, ey, hl, rfl⟩
  exact d_setItem hu I3 g ry rv fun s4 I4 => ⟨σ, _, I4, q3⟩
end
end L2
namespace L2
open PySem PySem.Spec PyProof.Rows
theorem while_rd {c : TT} {tb : TS} {D : Ends} {σ : St} {H : Hp} (W : Nat → St → Hp → Prop) (hend : St → Hp → Prop) (h0 : ∃ m, W m σ H)
    (hs : ∀ R : St → Hp → Prop, (∀ σ H, hend σ H → R σ H) → ∀ m σ H, W m σ H → c σ H fun b H1 => if b = true then ∃ N : St → Hp → Prop, (∀ σ' H', N σ' H' → ∃ m', m' < m ∧ W m' σ' H') ∧ tb { D with nx := N, ct := N, bk := R } σ H1 else R σ H1)
    (hnx : ∀ σ H, hend σ H → D.nx σ H) : tWhile c tb D σ H := ⟨W, h0, fun m σ H w => hs D.nx hnx m σ H w⟩
theorem cxK {CX : CXT} {P : Program} {w : World} {K : PySem.W.Frag} {mg : Str → Option Value} {base : Heap} {N : List Str} {q : Str} {sc : Scope} {f : Addr} {cd : Value} {A : Around} {o : List Env} {s : Shared} {H : Hp} {E : XK} :
    (cxOf CX P w K mg base N q sc f cd A o s H E).K = K := rfl
theorem cpK {X : Cx} {sc : Scope} {N : List Str} {cl : List (Str × Addr)} {C : Addr} {fp : List Addr} {s : Shared} {H : Hp} {xe : Value → Shared → Prop} : (compCx X sc N cl C fp s H xe).K = X.K := rfl
end L2
set_option Elab.async false
set_option linter.all false
set_option maxRecDepth 100000
namespace L2
open PySem PySem.Spec PyProof.Rows
theorem scal_ii (i j : Int) : scal (.int i) (.int j) = true := rfl
theorem scal_ss (i j : Str) : scal (.str i) (.str j) = true := rfl
theorem scal_bb (i j : Bool) : scal (.bl i) (.bl j) = true := rfl
theorem scal_nn : scal .non .non = true := rfl
theorem scal_in (i : Int) : scal (.int i) .non = true := rfl
theorem scal_si (s : Str) (i : Int) : scal (.str s) (.int i) = true := rfl
section
variable {X : Cx} {a b o e l : Expr} {es : List Expr} {ta tb to : TE} {t : TA} {pos : Pos} {tg : Expr}
theorem OpR.imp {f : Value → Value → Sem Value} {r r' : R2} (h : OpR X f r) (i : ∀ x y H Q, r' x y H Q → r x y H Q) : OpR X f r' := fun pins s σ H x y v u Q I rx ry q => h pins s σ H x y v u Q I rx ry (i _ _ _ _ q)
theorem CallR.imp {f : Value} {r r' : List V → Hp → VK → Prop} (h : CallR X f r) (i : ∀ x H Q, r' x H Q → r x H Q) : CallR X f r' := fun pins s σ H xs us Q I rx q => h pins s σ H xs us Q I rx (i _ _ _ q)
theorem IxR.imp {r r' : R2} (h : IxR X r) (i : ∀ x y H Q, r' x y H Q → r x y H Q) : IxR X r' := fun value slice pins s σ H x y v u Q I rx ry q hs => h value slice pins s σ H x y v u Q I rx ry (i _ _ _ _ q) hs
theorem SlR.imp {r r' : V → Option Int → Option Int → Hp → VK → Prop} (h : SlR X r) (i : ∀ x lo hi H Q, r' x lo hi H Q → r x lo hi H Q) : SlR X r' := fun pins s σ H x v vl vu lo hi sl Q I rx hs pl pu q => h pins s σ H x v vl vu lo hi sl Q I rx hs pl pu (i _ _ _ _ _ q)
noncomputable def rLenL : List V → Hp → VK → Prop := fun xs H Q => ∃ p, xs = [.ref p] ∧ ∃ ys, H p = some (.lst ys) ∧ Q (.int ys.length) H
noncomputable def rLenT : List V → Hp → VK → Prop := fun xs H Q => ∃ p, xs = [.ref p] ∧ ∃ ys, H p = some (.tup ys) ∧ Q (.int ys.length) H
theorem call_lenL : CallR X (.builtin "len") rLenL := call_len_seq.imp fun _ _ _ zq8 => by obtain ⟨p, e, ys, h, q⟩ := zq8; exact (⟨p, ys, e, .inl (.of h), q⟩)
theorem call_lenT : CallR X (.builtin "len") rLenT := call_len_seq.imp fun _ _ _ zq9 => by obtain ⟨p, e, ys, h, q⟩ := zq9; exact (⟨p, ys, e, .inr (.of h), q⟩)
noncomputable def rIL : R2 := fun x y H Q => ∃ p, x = .ref p ∧ ∃ i, y = .int i ∧ ∃ xs, H p = some (.lst xs) ∧ ∃ v, atI xs i = some v ∧ Q v H
noncomputable def rIT : R2 := fun x y H Q => ∃ p, x = .ref p ∧ ∃ i, y = .int i ∧ ∃ xs, H p = some (.tup xs) ∧ ∃ v, atI xs i = some v ∧ Q v H
theorem ix_L : IxR X rIL := ix_list.imp fun _ _ _ _ zq10 => by obtain ⟨p, e, i, e2, xs, h, v, ha, q⟩ := zq10; exact (⟨p, xs, i, v, e, e2, .of h, ha, q⟩)
theorem ix_T : IxR X rIT := ix_tup.imp fun _ _ _ _ zq11 => by obtain ⟨p, e, i, e2, xs, h, v, ha, q⟩ := zq11; exact (⟨p, xs, i, v, e, e2, .of h, ha, q⟩)
noncomputable def rIS : R2 := fun x y H Q => ∃ z, x = .str z ∧ ∃ i, y = .int i ∧ z.length ≤ sizeLine ∧ ∃ c, atI z.cps.toList i = some c ∧ Q (.str ⟨#[c]⟩) H
theorem ix_S : IxR X rIS := ix_str.imp fun _ _ _ _ zq12 => by obtain ⟨z, e, i, e2, h, c, ha, q⟩ := zq12; exact (⟨z, i, c, e, e2, h, ha, q⟩)
noncomputable def rSL : V → Option Int → Option Int → Hp → VK → Prop := fun x lo hi H Q => ∃ a, x = .ref a ∧ ∃ xs, H a = some (.lst xs) ∧ ∀ p, H p = none → Q (.ref p) (upd H p (.lst (cutV xs lo hi)))
theorem sl_L : SlR X rSL := sl_list.imp fun _ _ _ _ _ zq13 => by obtain ⟨a, e, xs, h, q⟩ := zq13; exact (⟨a, xs, e, .of h, q⟩)
noncomputable def rSQ (K : PySem.W.Frag) : V → Option Int → Option Int → Hp → VK → Prop := fun x lo hi H Q => ∃ a, x = .ref a ∧ ∃ xs, SqL K H a xs ∧ ∀ p, H p = none → Q (.ref p) (upd H p (.lst (cutV xs lo hi)))
theorem sl_Q : SlR X (rSQ X.K) := sl_list.imp fun _ _ _ _ _ zq14 => by obtain ⟨a, e, xs, h, q⟩ := zq14; exact (⟨a, xs, e, h, q⟩)
noncomputable def rST : V → Option Int → Option Int → Hp → VK → Prop := fun x lo hi H Q => ∃ a, x = .ref a ∧ ∃ xs, H a = some (.tup xs) ∧ (cutV xs lo hi = xs → Q (.ref a) H) ∧ (∀ p, H p = none → Q (.ref p) (upd H p (.tup (cutV xs lo hi))))
theorem sl_T : SlR X rST := sl_tupA.imp fun _ _ _ _ _ zq15 => by obtain ⟨a, e, xs, h, q⟩ := zq15; exact (⟨a, xs, e, .of h, q⟩)
noncomputable def iL (K : PySem.W.Frag) (tl : TE) : TI := fun σ H R => tl σ H fun x H1 => ∃ a, x = .ref a ∧ ∃ xs, H1 a = some (.lst xs) ∧ R (Itl K a) H1
noncomputable def iT (K : PySem.W.Frag) (tl : TE) : TI := fun σ H R => tl σ H fun x H1 => ∃ a, x = .ref a ∧ ∃ xs, H1 a = some (.tup xs) ∧ R (Itt K a) H1
theorem pi_L {tl : TE} (hl : PE X l tl) : PI X tg l (iL X.K tl) := by
  intro pins s σ H R I h
  refine thn (hl pins s σ H _ I h) fun v s1 zr4144 => ?_
  obtain ⟨x, H1, I1, r1, a, e, xs, hq, q⟩ := zr4144
  subst e
  cases r1
  obtain ⟨its, rv, p, hz⟩ := I1.list (SqL.of hq)
  refine wpAny_pyIter_list p.isList ?_
  refine ⟨s1.heap.objs.size, [s1.heap.objs.size], _, _, H1, rfl, I1.kept (t' := s1.toks) fun b o e => Heap.get?_push_of_some _ e, turn_list a _, ⟨_, Heap.get?_push_size _ rfl, rfl, rfl⟩, fun b hb => ?_, q⟩
  have e : b = s1.heap.objs.size := by simpa using hb
  subst e
  exact I1.fpOk (Nat.le_refl _) (I1.hok.fresh (Nat.le_refl _))
theorem pi_T {tl : TE} (hl : PE X l tl) : PI X tg l (iT X.K tl) := by
  intro pins s σ H R I h
  refine thn (hl pins s σ H _ I h) fun v s1 zr4155 => ?_
  obtain ⟨x, H1, I1, r1, a, e, xs, hq, q⟩ := zr4155
  subst e
  cases r1
  obtain ⟨its, rv, p, hz⟩ := I1.tuple (SqT.of hq)
  refine wpAny_pyIter_tuple (show s1.heap.IsTuple a its.toArray from p) ?_
  refine ⟨s1.heap.objs.size, [s1.heap.objs.size], _, _, H1, rfl, I1.kept (t' := s1.toks) fun b o e => Heap.get?_push_of_some _ e, turn_tuple a _, ⟨_, Heap.get?_push_size _ rfl, rfl, rfl⟩, fun b hb => ?_, q⟩
  have e : b = s1.heap.objs.size := by simpa using hb
  subst e
  exact I1.fpOk (Nat.le_refl _) (I1.hok.fresh (Nat.le_refl _))
noncomputable abbrev RM := Addr → List V → Hp → VK → Prop
noncomputable def MtL (X : Cx) (id : String) (r : RM) : Prop := MtR X id fun x vs H Q => ∃ p, x = .ref p ∧ r p vs H Q
noncomputable def tML (r : RM) (to : TE) (t : TA) : TE := fun σ H Q => to σ H fun x H1 => ∃ p, x = .ref p ∧ (∃ xs, H1 p = some (.lst xs)) ∧ t σ H1 fun vs H2 => r p vs H2 Q
variable {name : Str} {id : String} {r : RM} {apos cpos : Pos}
theorem pe_mL (slot : Slot "list" name id) (hty : typeOf (.builtin id) = pure (.type "method_descriptor")) (hm : MtL X id r) (ho : PE X o to) (ha : PA X (e :: es) t)
    (hbase : attributeBase o name X.env (eval o X.env) = eval o X.env := by rfl)
    (hfew : ((backTo cpos (starEach (e :: es) X.env)).all (fun x => !x.1) && (backToKw cpos (keywordEach [] X.env)).all (fun x => x.1.isSome)
      && decide ((e :: es).length + ([] : List Keyword).length + (if ([] : List Keyword).isEmpty then 0 else 1) < 30)) = true := by rfl)
    (hline : (apos.endLine == cpos.line) = true := by rfl) (hs : starEach (e :: es) X.env = (false, eval e X.env) :: starEach es X.env := by rfl) (hplain : (backTo cpos (starEach es X.env)).any (·.1) = false := by rfl) :
    PE X (.Call (.Attribute o name apos) (e :: es) [] cpos) (tML r to t) := by
  intro pins s σ H Q I h
  refine wpAny_Call_method_late hbase hfew hline rfl (thn (ho pins s σ H _ I h) fun v s1 ⟨x, H1, I1, r1, p, ex, ⟨xs, hp⟩, q1⟩ => ?_)
  subst ex
  have ty : tyV X.K "list" (.ref p) H1 := .inl ⟨rfl, xs, .of hp⟩
  obtain ⟨h1, h2⟩ := tyV_is I1 r1 ty
  refine ⟨"list", id, PySem.F.plainAttrs_list, slot, hty, h1, h2, ?_⟩
  have hA := ha cpos pins s1 σ H1 _ I1 q1
  rw [hs] at hA ⊢
  refine Calls.callWith_builtin (by show (false || (backTo cpos (starEach es X.env)).any (·.1)) = false; rw [hplain] <;> rfl) (Calls.evalArgs_plain ?_)
  refine thn hA fun us s2 zr4183 => ?_
  obtain ⟨vs, H2, I2, rr, q2⟩ := zr4183
  exact hm pins s2 σ H2 (.ref p) vs v us Q I2 r1 rr ⟨p, rfl, q2⟩
theorem pe_mL0 (slot : Slot "list" name id) (hty : typeOf (.builtin id) = pure (.type "method_descriptor")) (hm : MtL X id r) (ho : PE X o to)
    (hbase : attributeBase o name X.env (eval o X.env) = eval o X.env := by rfl) (hline : (apos.endLine == cpos.line) = true := by rfl) : PE X (.Call (.Attribute o name apos) [] [] cpos) (tML r to tNil) := by
  intro pins s σ H Q I h
  refine wpAny_Call_method0_late hbase hline (thn (ho pins s σ H _ I h) fun v s1 ⟨x, H1, I1, r1, p, ex, ⟨xs, hp⟩, q1⟩ => ?_)
  subst ex
  have ty : tyV X.K "list" (.ref p) H1 := .inl ⟨rfl, xs, .of hp⟩
  obtain ⟨h1, h2⟩ := tyV_is I1 r1 ty
  exact ⟨"list", id, PySem.F.plainAttrs_list, slot, hty, h1, h2, Calls.callWith_builtin rfl (PySem.evalArgs_none (hm pins s1 σ H1 _ [] v [] Q I1 r1 .nil ⟨p, rfl, q1⟩))⟩
noncomputable def rmAppend : RM := fun p vs H Q => ∃ y, vs = [y] ∧ ∃ xs, H p = some (.lst xs) ∧ xs.length < sizeLine ∧ Q .non (upd H p (.lst (xs ++ [y])))
theorem ml_append : MtL X "list.append" rmAppend := fun pins s σ H x vs v us Q I rx rv zq16 => by obtain ⟨p, e, y, e2, xs, h, hl, q⟩ := zq16; exact (mt_append pins s σ H x vs v us Q I rx rv ⟨p, xs, y, e, e2, h, hl, q⟩)
noncomputable def rmExtend : RM := fun p vs H Q => ∃ b, vs = [.ref b] ∧ ∃ xs, H p = some (.lst xs) ∧ ∃ zs, H b = some (.lst zs) ∧ xs.length + zs.length ≤ sizeLine ∧ Q .non (upd H p (.lst (xs ++ zs)))
theorem ml_extend : MtL X "list.extend" rmExtend := fun pins s σ H x vs v us Q I rx rv zq17 => by obtain ⟨p, e, b, e2, xs, h, zs, h2, hl, q⟩ := zq17; exact (mt_extend pins s σ H x vs v us Q I rx rv ⟨p, b, xs, zs, e, e2, h, h2, hl, q⟩)
noncomputable def rmPop : RM := fun p vs H Q => vs = [] ∧ ∃ xs, H p = some (.lst xs) ∧ ∃ y, xs[xs.length - 1]? = some y ∧ Q y (upd H p (.lst xs.dropLast))
theorem ml_pop : MtL X "list.pop" rmPop := fun pins s σ H x vs v us Q I rx rv zq18 => by obtain ⟨p, e, e2, xs, h, y, hl, q⟩ := zq18; exact (mt_pop pins s σ H x vs v us Q I rx rv ⟨p, xs, y, e, e2, h, hl, q⟩)
noncomputable def rInL (neg : Bool) : R2 := fun x y H Q => ∃ p, y = .ref p ∧ ∃ xs, H p = some (.lst xs) ∧ flatV x = true ∧ xs.all flatV = true ∧ Q (.bl (if neg then !inV x xs else inV x xs)) H
noncomputable def rInT (neg : Bool) : R2 := fun x y H Q => ∃ p, y = .ref p ∧ ∃ xs, H p = some (.tup xs) ∧ flatV x = true ∧ xs.all flatV = true ∧ Q (.bl (if neg then !inV x xs else inV x xs)) H
theorem op_inL : OpR X (compareOp .In) (rInL false) := op_in_seq.imp fun _ _ _ _ zq19 => by obtain ⟨p, e, xs, h, f1, f2, q⟩ := zq19; exact (⟨p, xs, e, .inl (.of h), f1, f2, q⟩)
theorem op_inT : OpR X (compareOp .In) (rInT false) := op_in_seq.imp fun _ _ _ _ zq20 => by obtain ⟨p, e, xs, h, f1, f2, q⟩ := zq20; exact (⟨p, xs, e, .inr (.of h), f1, f2, q⟩)
theorem op_notInT : OpR X (compareOp .NotIn) (rInT true) := op_notIn_seq.imp fun _ _ _ _ zq21 => by obtain ⟨p, e, xs, h, f1, f2, q⟩ := zq21; exact (⟨p, xs, e, .inr (.of h), f1, f2, q⟩)
noncomputable def rListL : List V → Hp → VK → Prop := fun xs H Q => ∃ p, xs = [.ref p] ∧ ∃ ys, H p = some (.lst ys) ∧ ∀ l, H l = none → Q (.ref l) (upd H l (.lst ys))
noncomputable def rTupL : List V → Hp → VK → Prop := fun xs H Q => ∃ p, xs = [.ref p] ∧ ∃ ys, H p = some (.lst ys) ∧ ∀ l, H l = none → Q (.ref l) (upd H l (.tup ys))
theorem call_listL : CallR X (.type "list") rListL := call_list_of.imp fun _ _ _ zq22 => by obtain ⟨p, e, ys, h, q⟩ := zq22; exact (⟨p, ys, e, .inl (.of h), q⟩)
theorem call_tupL : CallR X (.type "tuple") rTupL := call_tuple_of.imp fun _ _ _ zq23 => by obtain ⟨p, e, ys, h, q⟩ := zq23; exact (⟨p, ys, e, .inl ⟨.of h, q⟩⟩)
noncomputable def rCS : R2 := fun x y H Q => ∃ i, x = .str i ∧ ∃ j, y = .str j ∧ i.length + j.length ≤ sizeLine ∧ Q (.str (i ++ j)) H
theorem op_catS : OpR X (binaryOp .Add) rCS := op_add_str.imp fun _ _ _ _ zq24 => by obtain ⟨i, e, j, e2, h, q⟩ := zq24; exact (⟨i, j, e, e2, h, q⟩)
noncomputable def rLenS : List V → Hp → VK → Prop := fun xs H Q => ∃ z, xs = [.str z] ∧ z.length ≤ sizeLine ∧ Q (.int z.length) H
theorem call_lenS : CallR X (.builtin "len") rLenS := call_len_str
end
end L2
set_option Elab.async false
set_option linter.all false
set_option maxRecDepth 100000
namespace L2
open PySem PySem.Spec PyProof.Rows
section
variable {X : Cx}
theorem ps_setC {i : Nat} {y : Str} {py spos : Pos} {elt tg iter : Expr} {ifs : List Expr} {scope : Scope} {pos : Pos} {N : List Str} {nt : Nat} {js : List Nat} {wi : TI} {g : TG} {tc : TT} {te : TE}
    (hN : X.N.Nodup) (hi0 : X.N[i]? = some y) (hy : Loc X.env.scope y) (hca : X.calm = true) (S : CompOk X scope N nt js) (hi : PI X tg iter wi)
    (hg : ∀ cl C fp s H xe, PG (compCx X scope N cl C fp s H xe) tg g) (hgo : TgOk g nt)
    (hc : ∀ cl C fp s H xe, PTs (compCx X scope N cl C fp s H xe) ifs tc)
    (he : ∀ cl C fp s H xe, PE (compCx X scope N cl C fp s H xe) elt te)
    (hs : ∀ x, foldedSetIterable iter X.env x = pure x := by intro _; rfl)
    (hsw : swapsWith (.ListComp elt [⟨tg, iter, ifs, 0⟩] scope pos) (some (.Name y py)) spos.line X.env = pure true := by rfl)
    (hf : X.fn y = true ∨ X.env.scope.names.lookup y = some .local := by first | exact .inl rfl | exact .inr rfl | assumption) :
    PS X (.Assign [.Name y py] (.ListComp elt [⟨tg, iter, ifs, 0⟩] scope pos) spos) (tAsg (tComp nt js wi g tc te) (gName i)) := by
  intro pins s σ H D I h
  obtain ⟨cl, hclos, hcl1, _, hcl2⟩ := closure_of (env := X.env) scope.names [] (fun x hx hk => I.ok.has x.1 (S.free x hx hk))
  have hcl : ∀ x c, cl.lookup x = some c → X.env.cells.lookup x = some c := fun x c e => (hcl1 x c e).elim (fun z => by simp at z) fun z => z
  have hclos' : closureFor scope X.env = pure cl := by
    unfold closureFor
    simp only []
    rw [hclos]
    rfl
  rw [exec_Assign_Name_used _ _ _ _ hsw]
  refine wpAny_bind (wpAny_standAt (wpAny_bind ?_))
  show wpAny _ X.A (do let _ ← comprehension (.ListComp elt [⟨tg, iter, ifs, 0⟩] scope pos) scope X.env _ (newList []) false (eval iter X.env) (some (assign (.Name y py) X.env))) _ _ s
  refine wpAny_bind (wpAny_mono (wpAny_comprehension_free (use := some (assign (.Name y py) X.env)) (Q := fun _ s' => SP X pins D .next s') rfl hs hclos' S.kind S.loc (thn (hi pins s σ H _ I h) fun v s1 h1 => thn h1 fun itv s2 h2 => ?_)) (fun _ s' hq => wpAny_pure (wpAny_pure hq)) fun _ _ e => e)
  obtain ⟨it, fp, tn, J, H2, e, I2, T, st2, f2, q2⟩ := h2
  subst e
  have hfresh : H2 s2.heap.objs.size = none := I2.hok.fresh (Nat.le_refl _)
  obtain ⟨W, ⟨m0, w0⟩, turn⟩ := q2 s2.heap.objs.size hfresh
  refine wpAny_newObj_type (wpAny_newFunctionEnv S.own (by intro y hy; simp at hy) (fun h₁ hns₁ hsb₁ => ?_) S.kind)
  dsimp only at hns₁ hsb₁ ⊢
  generalize hG : s2.heap.push { cls := .type "list", dict := none, data := .seq ([] : List Value).toArray } = G at hns₁ hsb₁ ⊢
  have hGs : G.objs.size = s2.heap.objs.size + 1 := by rw [← hG, Heap.size_push]
  have kold : ∀ b o, s2.heap.get? b = some o → h₁.get? b = some o := fun b o e =>
    hsb₁.extBut b o (by rw [hGs]; exact Nat.ne_of_lt (Nat.lt_succ_of_lt (Heap.lt_size e))) (Heap.get?_push_of_some _ (hG ▸ Heap.get?_push_of_some _ e))
  have kD : h₁.get? s2.heap.objs.size = some { cls := .type "list", dict := none, data := .seq ([] : List Value).toArray } :=
    hsb₁.extBut _ _ (by rw [hGs]; exact Nat.ne_of_lt (Nat.lt_succ_self _)) (Heap.get?_push_of_some _ (hG ▸ Heap.get?_push_size _ rfl))
  have hok1 : HOk X.prog X.w (upd H2 s2.heap.objs.size (.lst [])) h₁ := I2.hok.laid kold (Nat.le_refl _) ⟨Nat.zero_le _, [], 0, .nil, kD⟩
  have hfpl : ∀ b ∈ fp, b < s2.heap.objs.size := fun b hb => by
    obtain ⟨o, e, _⟩ := T.obj _ _ st2 b hb
    exact Heap.lt_size e
  have hC0 : (upd H2 s2.heap.objs.size (.lst [])) G.objs.size = none := by
    rw [upd_ne (by rw [hGs]; exact Nat.ne_of_gt (Nat.lt_succ_self _))]
    exact I2.hok.fresh (by rw [hGs]; exact Nat.le_succ _)
  generalize hRR : (compPost (model X.prog X.w) X.A X.xe (some (assign (.Name y py) X.env)) (fun _ s' => SP X pins D .next s') (.ref s2.heap.objs.size) G.objs.size) = RR
  have stat : ∀ {H' : Hp}, (∀ b ∈ fp, H' b = none) → ∀ b ∈ fp, FpOk (compCx X scope N cl G.objs.size fp s2 H2 (notedBy (model X.prog X.w) X.A (compEnvC scope cl G.objs.size X.env) fun e s' => RR (.error e) s')) [] H' b := fun {H'} hn b hb => by
    obtain ⟨f0, f1, f2', f3, f4, f5⟩ := f2 b hb
    refine ⟨hn b hb, Nat.ne_of_lt (Nat.lt_of_lt_of_le (hfpl b hb) (by show _ ≤ G.objs.size; rw [hGs]; exact Nat.le_succ _)), fun z => ?_, .inl hb, fun x c e => f4 x c (hcl x c e), fun p hp => absurd (show p ∈ ([] : List (Addr × Obj)) from hp) (by simp)⟩
    rcases List.mem_cons.mp (I2.stkSub b z) with q | q
    · exact f1 q
    · exact f2' q
  have I3 : ∀ tk, Inv (compCx X scope N cl G.objs.size fp s2 H2 (notedBy (model X.prog X.w) X.A (compEnvC scope cl G.objs.size X.env) fun e s' => RR (.error e) s')) [] (inner nt js σ) (upd H2 s2.heap.objs.size (.lst [])) { s2 with heap := h₁, toks := tk } := fun tk =>
    comp_start S I2 f2 hcl hcl2 hfpl (by rw [hGs]; exact Nat.le_succ _) kold (fun b o e => by rw [upd_ne (ne_of_none e hfresh)]; exact e) (fun b n hb => by rw [upd_ne (Nat.ne_of_lt hb)]; exact n) hok1 hns₁ hC0 (fun _ => rfl)
  have loop : ∀ s₃ : Shared, s₃ = { s2 with heap := h₁, toks := s2.toks + ([] : List (Str × Value)).length } →
      codeAny (model X.prog X.w) X.A (.compLoop (.ListComp elt [⟨tg, iter, ifs, 0⟩] scope pos) 0 (.ref it) (.ref s2.heap.objs.size) (compEnvC scope cl G.objs.size X.env)) RR s₃ := by
    rintro s₃ rfl
    refine compLoop_any (fun n s' => ∃ i ys H', Inv (compCx X scope N cl G.objs.size fp s2 H2 (notedBy (model X.prog X.w) X.A (compEnvC scope cl G.objs.size X.env) fun e s' => RR (.error e) s')) [] (inner nt js σ) H' s' ∧ tn i s'.heap ∧ (∀ b ∈ fp, H' b = none) ∧ W i n ys H') ?_ m0
      ⟨0, [], _, I3 _, T.keep _ _ _ st2 fun b hb o e => kold b o e, fun b hb => by rw [upd_ne (Nat.ne_of_lt (hfpl b hb))]; exact (f2 b hb).1, w0⟩
    rintro n s3 ⟨i, ys, H3, J3, st3, fr3, w3⟩
    rcases turn i n ys H3 w3 with ⟨stop, qn⟩ | ⟨go, NN, hN, step⟩
    · refine thn (T.done (compCx X scope N cl G.objs.size fp s2 H2 (notedBy (model X.prog X.w) X.A (compEnvC scope cl G.objs.size X.env) fun e s' => RR (.error e) s')) rfl rfl rfl hca i [] s3 (inner nt js σ) H3 _ J3 (stat fr3) st3 stop) fun r s4 zr4277 => ?_
      obtain ⟨hr, I4⟩ := zr4277
      subst hr
      show RR (.ok .next) s4
      rw [← hRR]
      obtain ⟨mC, hnC, _⟩ := id I4.loc
      have I5 : Inv X pins σ H3 s4 := I2.call' (s' := s4) I4.os I4.base I4.hok I4.bare (fun b hb => by
        obtain ⟨f0, f1, f2', f3, f4, f5⟩ := f2 b hb
        exact ⟨f3, f1, f4, f5⟩)
      show wpAny _ X.A (assign (.Name y py) X.env (.ref s2.heap.objs.size)) _ _ s4
      have hCL : G.objs.size ≠ X.env.locals := Nat.ne_of_gt (Nat.lt_of_lt_of_le I2.lt (by rw [hGs]; exact Nat.le_succ _))
      have hCc : ∀ x c, X.env.cells.lookup x = some c → c ≠ G.objs.size := fun x c e z => by
        obtain ⟨v, q⟩ := I2.cell x c e
        exact absurd (Nat.lt_of_lt_of_le q.lt (by rw [z, hGs]; exact Nat.le_succ _)) (Nat.lt_irrefl _)
      refine wpAny_assign_Name (store_ok2 I5 hN hi0 hy (v := .ref s2.heap.objs.size) rfl (fun s6 I6 zr4290 => ?_) hf)
      obtain ⟨ad, sb, had⟩ := zr4290
      have hadC : G.objs.size ≠ ad := by
        rcases had with z | z
        · rw [z]; exact hCL
        · exact fun e => hCc _ _ z e.symm
      refine ⟨mC, hnC.sameBut sb hadC, fun h'' hs'' => ?_⟩
      refine ⟨_, H3, Inv.turned (t' := s6.toks) (it := G.objs.size) I6 (fun b o hb e => hs''.extBut b o hb e) I4.free hCL (.inr (Nat.le_trans I2.sz (by rw [hGs]; exact Nat.le_succ _))) hCc (fun p hp z => ?_), qn⟩
      have e := (I2.pin p hp).1
      exact absurd (Nat.lt_of_lt_of_le (Heap.lt_size e) (by rw [z, hGs]; exact Nat.le_succ _)) (Nat.lt_irrefl _)
    · refine thn (T.item (compCx X scope N cl G.objs.size fp s2 H2 (notedBy (model X.prog X.w) X.A (compEnvC scope cl G.objs.size X.env) fun e s' => RR (.error e) s')) rfl rfl rfl hca i [] s3 (inner nt js σ) H3 _ J3 (stat fr3) st3 go) fun r s4 zr4299 => ?_
      obtain ⟨u, hr, h4⟩ := zr4299
      subst hr
      refine thn h4 fun _ s5 zr4301 => ?_
      obtain ⟨x, H5, I5, r5, y5, st5, fr5⟩ := zr4301
      have I5' := I5.pinned (stat fr5) (T.obj _ _ st5)
      have g5 := hgo x (inner nt js σ) H5 _ inner_none (step x H5 y5)
      refine thn (hg cl G.objs.size fp s2 H2 _ _ s5 _ H5 x u _ I5' r5 g5) fun _ s6 zr4304 => ?_
      obtain ⟨σ6, H6, I6, wk6, q6⟩ := zr4304
      refine thn (hc cl G.objs.size fp s2 H2 _ _ s6 σ6 H6 _ I6 q6) fun ok s7 zr4305 => ?_
      obtain ⟨H7, I7, q7⟩ := zr4305
      have again : ∀ {s8 : Shared} {H8 : Hp} {ys' : List V}, Inv (compCx X scope N cl G.objs.size fp s2 H2 (notedBy (model X.prog X.w) X.A (compEnvC scope cl G.objs.size X.env) fun e s' => RR (.error e) s')) ([] ++ pinsAt fp s5.heap) σ6 H8 s8 → NN ys' H8 →
          ∃ m, m < n ∧ ∃ i ys H', Inv (compCx X scope N cl G.objs.size fp s2 H2 (notedBy (model X.prog X.w) X.A (compEnvC scope cl G.objs.size X.env) fun e s' => RR (.error e) s')) [] (inner nt js σ) H' s8 ∧ tn i s8.heap ∧ (∀ b ∈ fp, H' b = none) ∧ W i m ys H' := fun {s8 H8 ys'} I8 n8 => by
        obtain ⟨m', hm, w8⟩ := hN ys' H8 n8
        refine ⟨m', hm, i + 1, ys', H8, (I8.unpinned).wk wk6, T.keep _ _ _ st5 fun b hb o e => (I8.pin (b, o) (List.mem_append_right _ (List.mem_append_right _ (mem_pinsAt hb e)))).1, fun b hb => ?_, w8⟩
        obtain ⟨o, e, d⟩ := T.obj _ _ st5 b hb
        exact (I8.pin (b, o) (List.mem_append_right _ (List.mem_append_right _ (mem_pinsAt hb e)))).2.1
      cases ok with
      | false =>
        rw [if_neg Bool.false_ne_true] at q7 ⊢
        exact again I7 q7
      | true =>
        rw [if_pos rfl] at q7 ⊢
        refine thn (he cl G.objs.size fp s2 H2 _ _ s7 σ6 H7 _ I7 q7) fun y s8 zr4318 => ?_
        obtain ⟨yv, H8, I8, r8, hD8, hl8, q8⟩ := zr4318
        refine thn (mt_append (X := compCx X scope N cl G.objs.size fp s2 H2 (notedBy (model X.prog X.w) X.A (compEnvC scope cl G.objs.size X.env) fun e s' => RR (.error e) s')) _ s8 σ6 H8 (.ref s2.heap.objs.size) [yv] (.ref s2.heap.objs.size) [y] (fun _ H9 => NN (ys ++ [yv]) H9) I8 rfl (.cons r8 .nil) ⟨_, ys, yv, rfl, rfl, hD8, hl8, q8⟩) fun v9 s9 zr4319 => ?_
        obtain ⟨x9, H9, I9, r9, q9⟩ := zr4319
        exact again I9 q9
  subst hRR
  exact codeAny_compStart_list (loop _ rfl) (T.self _ 0 _ _ _ (T.keep _ _ _ st2 fun b hb o e => kold b o e) (loop _ rfl))
end
end L2
namespace L2
open PySem PySem.Spec PyProof.Rows
noncomputable def CompG (J : It) (σ0 : St) (g : TG) (tc : TT) (te : TE) (Q : VK) (H1 : Hp) (D : Addr) : Prop := ∃ W : Nat → Nat → List V → Hp → Prop, (∃ m, W 0 m [] (upd H1 D (.lst []))) ∧
  ∀ i m ys H2, W i m ys H2 → (J.stop i H2 ∧ Q (.ref D) H2) ∨ (J.go i H2 ∧ ∃ N : List V → Hp → Prop, (∀ ys' H', N ys' H' → ∃ m', m' < m ∧ W (i + 1) m' ys' H') ∧
    ∀ x H', J.yld i H2 x H' → g x σ0 H' fun σ2 H3 => tc σ2 H3 fun b H4 => if b = true then te σ2 H4 fun y H5 => H5 D = some (.lst ys) ∧ ys.length < sizeLine ∧ N (ys ++ [y]) (upd H5 D (.lst (ys ++ [y]))) else N ys H4)
theorem tComp_eq (nt : Nat) (js : List Nat) (wi : TI) (g : TG) (tc : TT) (te : TE) : tComp nt js wi g tc te = fun σ H Q => wi σ H fun J H1 => ∀ D, H1 D = none → CompG J (inner nt js σ) g tc te Q H1 D := rfl
noncomputable def ForG (J : It) (g : TG) (tb : TS) (D : Ends) (σ : St) (H1 : Hp) : Prop := ∃ W : Nat → Nat → St → Hp → Prop, (∃ m, W 0 m σ H1) ∧ ∀ i m σ H, W i m σ H →
  (J.stop i H ∧ D.nx σ H) ∨ (J.go i H ∧ ∃ N : St → Hp → Prop, (∀ σ' H', N σ' H' → ∃ m', m' < m ∧ W (i + 1) m' σ' H') ∧ ∀ x H', J.yld i H x H' → g x σ H' fun σ2 H2 => tb { D with nx := N, ct := N, bk := D.nx } σ2 H2)
theorem tFor_eq (wi : TI) (g : TG) (tb : TS) : tFor wi g tb = fun D σ H => wi σ H fun J H1 => ForG J g tb D σ H1 := rfl
theorem for_g {J : It} {xs : List V} {C : Hp → Prop} (w : Wlk J xs C) {g : TG} {tb : TS} {D : Ends} {σ : St} {H : Hp} (Pv : Nat → St → Hp → Prop) (h0 : Pv 0 σ H) (hl : ∀ i σ H, Pv i σ H → C H)
    (hs : ∀ i x σ H, i < xs.length → xs[i]? = some x → Pv i σ H → g x σ H fun σ2 H2 => tb { D with nx := Pv (i + 1), ct := Pv (i + 1), bk := D.nx } σ2 H2) (hd : ∀ σ H, Pv xs.length σ H → D.nx σ H) : ForG J g tb D σ H :=
  for_wlk w Pv h0 hl hs hd
theorem comp_g {J : It} {xs : List V} {C : Hp → Prop} (w : Wlk J xs C) {g : TG} {tc : TT} {te : TE} {σ0 : St} {Q : VK} {H1 : Hp} {D : Addr} (Pv : Nat → List V → Hp → Prop) (h0 : Pv 0 [] (upd H1 D (.lst []))) (hl : ∀ i ys H, Pv i ys H → C H)
    (hs : ∀ i x ys H, i < xs.length → xs[i]? = some x → Pv i ys H → g x σ0 H fun σ2 H3 => tc σ2 H3 fun b H4 => if b = true then te σ2 H4 fun y H5 => H5 D = some (.lst ys) ∧ ys.length < sizeLine ∧ Pv (i + 1) (ys ++ [y]) (upd H5 D (.lst (ys ++ [y]))) else Pv (i + 1) ys H4)
    (hd : ∀ ys H, Pv xs.length ys H → Q (.ref D) H) : CompG J σ0 g tc te Q H1 D := comp_wlk w Pv h0 hl hs hd
theorem inner0 (js : List Nat) (σ : St) : inner 0 js σ = js.map fun j => (σ[j]?).join := rfl
theorem inner1 (js : List Nat) (σ : St) : inner 1 js σ = none :: js.map fun j => (σ[j]?).join := rfl
theorem inner2 (js : List Nat) (σ : St) : inner 2 js σ = none :: none :: js.map fun j => (σ[j]?).join := rfl
theorem inner3 (js : List Nat) (σ : St) : inner 3 js σ = none :: none :: none :: js.map fun j => (σ[j]?).join := rfl
theorem Same.upd_new {H H1 : Hp} {p : Addr} {o : HO} (s : Same H H1) (hp : H1 p = none) : Same H (upd H1 p o) := fun b u e => by
  have e1 := s b u e
  rw [upd_ne (ne_of_none e1 hp)]; exact e1
theorem Same.upd0 {H : Hp} {p : Addr} {o : HO} (hp : H p = none) : Same H (upd H p o) := (Same.refl H).upd_new hp
end L2
set_option Elab.async false
set_option linter.all false
set_option maxRecDepth 100000
namespace L2
open PySem PySem.Spec PyProof.Rows
end L2
namespace L2
open PySem PySem.Spec PyProof.Rows
section
variable {X : Cx} {x : Str} {pos : Pos}
end
end L2
set_option Elab.async false
set_option linter.all false
namespace L2
open PySem
end L2
set_option Elab.async false
set_option linter.all false
namespace L2
open PySem
noncomputable def smallB (c : Nat) : Bool := decide (97 ≤ c) && decide (c ≤ 122)
end L2
namespace L2
open PySem
end L2
namespace L2
open PySem
theorem str_len_append (a b : Str) : (a ++ b).length = a.length + b.length := by
  show (a ++ b).cps.size = a.cps.size + b.cps.size
  exact Array.size_append
end L2
set_option Elab.async false
set_option linter.all false
set_option maxRecDepth 100000
namespace L2
open PySem PySem.Spec PyProof.Rows
end L2
namespace L2
open PySem
theorem hu100 {A : Around} {k : Nat} (hr : Room k A) : A.units + 100 < cLine := by have := hr.un; omega
end L2
set_option Elab.async false
set_option linter.all false
set_option maxRecDepth 100000
namespace HT
open PySem PyProof.Rows
section
variable {prog : Program} {w : World} {A : Around} {E : Value → Shared → Prop} {s : Shared}
theorem cat_tup0 {t b : Addr} {vs ws : List Value} {Q : Value → Shared → Prop} (ht : IsTup s.heap t vs.toArray) (hb : IsTup s.heap b ws.toArray) (hv : vs = [])
    (h1 : Q (.ref b) s) : wpAny (model prog w) A (binaryOp .Add (.ref t) (.ref b)) Q E s := by
  obtain ⟨⟨cls, dd, data, sl⟩, ho, hc, n, hd⟩ := id ht
  obtain ⟨⟨cls2, dd2, data2, sl2⟩, ho2, hc2, n2, hd2⟩ := id hb
  simp only at hc hd hc2 hd2
  subst hc hd hc2 hd2
  exact concat_meets ⟨_, ho, rfl⟩ ⟨_, ho2, rfl⟩ noFill_tuple_add seq_tuple_add PySem.F.slot_tuple_add PySem.F.entry_tuple_add (PySem.F.args_tuple_add_2 _ _)
      (tuple_addW0 t b vs.toArray ws.toArray n n2 dd dd2 sl sl2 (by simp [hv])) ⟨ho, ho2, h1⟩
end
end HT
namespace L2
open PySem PySem.Spec PyProof.Rows
section
variable {X : Cx} {a b o e l : Expr} {es : List Expr} {ta tb to : TE} {t : TA} {pos : Pos} {tg : Expr}
noncomputable def rCT : R2 := fun x y H Q => ∃ l, x = .ref l ∧ ∃ b, y = .ref b ∧ ∃ xs, H l = some (.tup xs) ∧ ∃ ys, H b = some (.tup ys) ∧ xs.length + ys.length ≤ sizeLine ∧
  (xs = [] → Q (.ref b) H) ∧ (xs ≠ [] → ys = [] → Q (.ref l) H) ∧ (xs ≠ [] → ys ≠ [] → ∀ p, H p = none → Q (.ref p) (upd H p (.tup (xs ++ ys))))
theorem op_catTA : OpR X (binaryOp .Add) rCT := by
  intro pins s σ H x y v u Q I rx ry h
  obtain ⟨a, rfl, b, rfl, xs, ha, ys, hb, hz, q0, q1, q2⟩ := h
  by_cases hx : xs = []
  · cases rx
    cases ry
    obtain ⟨its, r1, p1, _⟩ := I.tuple (SqT.of ha)
    obtain ⟨its2, r2, p2, _⟩ := I.tuple (SqT.of hb)
    exact HT.cat_tup0 p1 p2 (r1.nil_iff.mpr hx) ⟨.ref b, H, I, rfl, q0 hx⟩
  · exact op_catT pins s σ H _ _ v u Q I rx ry ⟨a, b, xs, ys, rfl, rfl, .of ha, .of hb, hx, hz, q1 hx, q2 hx⟩
noncomputable def CDivW (i j : Int) : Prop := 0 < j ∧ j < 18446744073709551616
theorem op_fdivW : OpR X (binaryOp .FloorDiv) (rI CDivW fun i j => .int (i / j)) := opI fun i j _ _ _ _ _ hc q => by
  have h1 : (0 : Int) < j := hc.1
  have h2 : j < 18446744073709551616 := hc.2
  refine floordiv_int (by omega) (by rw [Int.fdiv_eq_ediv_of_nonneg i (by omega)]; exact q) (.inl (PyProof.noPylong_of_log2 ?_))
  have h3 : j.natAbs < 2 ^ 64 := by omega
  exact Nat.lt_trans ((Nat.log2_lt (by omega)).mpr h3) (by decide)
noncomputable abbrev RMS := Str → List V → Hp → VK → Prop
noncomputable def MtS (X : Cx) (id : String) (r : RMS) : Prop := MtR X id fun x vs H Q => ∃ p, x = .str p ∧ r p vs H Q
noncomputable def tMS (r : RMS) (to : TE) (t : TA) : TE := fun σ H Q => to σ H fun x H1 => ∃ p, x = .str p ∧ t σ H1 fun vs H2 => r p vs H2 Q
variable {name : Str} {id : String} {r : RMS} {apos cpos : Pos}
theorem pe_mS (slot : Slot "str" name id) (hty : typeOf (.builtin id) = pure (.type "method_descriptor")) (hm : MtS X id r) (ho : PE X o to) (ha : PA X (e :: es) t)
    (hbase : attributeBase o name X.env (eval o X.env) = eval o X.env := by rfl)
    (hfew : ((backTo cpos (starEach (e :: es) X.env)).all (fun x => !x.1) && (backToKw cpos (keywordEach [] X.env)).all (fun x => x.1.isSome)
      && decide ((e :: es).length + ([] : List Keyword).length + (if ([] : List Keyword).isEmpty then 0 else 1) < 30)) = true := by rfl)
    (hline : (apos.endLine == cpos.line) = true := by rfl) (hs : starEach (e :: es) X.env = (false, eval e X.env) :: starEach es X.env := by rfl) (hplain : (backTo cpos (starEach es X.env)).any (·.1) = false := by rfl) :
    PE X (.Call (.Attribute o name apos) (e :: es) [] cpos) (tMS r to t) := by
  intro pins s σ H Q I h
  refine wpAny_Call_method_late hbase hfew hline rfl (thn (ho pins s σ H _ I h) fun v s1 zr4442 => ?_)
  obtain ⟨x, H1, I1, r1, p, ex, q1⟩ := zr4442
  subst ex
  obtain ⟨h1, h2⟩ := tyV_is I1 r1 (show tyV X.K "str" (.str p) H1 from rfl)
  refine ⟨"str", id, PySem.F.plainAttrs_str, slot, hty, h1, h2, ?_⟩
  have hA := ha cpos pins s1 σ H1 _ I1 q1
  rw [hs] at hA ⊢
  refine Calls.callWith_builtin (by show (false || (backTo cpos (starEach es X.env)).any (·.1)) = false; rw [hplain] <;> rfl) (Calls.evalArgs_plain ?_)
  refine thn hA fun us s2 zr4449 => ?_
  obtain ⟨vs, H2, I2, rr, q2⟩ := zr4449
  exact hm pins s2 σ H2 (.str p) vs v us Q I2 r1 rr ⟨p, rfl, q2⟩
theorem strsAre_of {ns : List Str} : ∀ {us : List Value}, Vals (ns.map V.str) us → StrsAre us ns := by
  induction ns with
  | nil => intro us h; cases h; exact .nil
  | cons n ns ih =>
    intro us h
    cases h with
    | cons r1 r2 =>
      obtain ⟨t, rfl⟩ := r1
      exact .cons _ _ (ih r2)
noncomputable def rmJoin : RMS := fun z vs H Q => ∃ p, vs = [.ref p] ∧ ∃ ys : List Str, H p = some (.lst (ys.map V.str)) ∧ (ys.map (·.length)).sum + ys.length * z.length ≤ 16777216 ∧ Q (.str (Txt.join z ys)) H
theorem ms_join : MtS X "str.join" rmJoin := by
  intro pins s σ H x vs v us Q I rx rv h
  obtain ⟨z, rfl, p, rfl, ys, hp, hok, q⟩ := h
  obtain ⟨t, rfl⟩ := rx
  obtain ⟨u, rfl, ru⟩ := vals1 rv
  cases ru
  obtain ⟨its, r, pl, hz⟩ := I.list (SqL.of hp)
  exact join_list pl.isList (ys := ys) (by simpa using strsAre_of r) hok fun t' k => ⟨.str _, H, I.tok k, ⟨t', rfl⟩, q⟩
noncomputable def rmIndex : RMS := fun z vs H Q => ∃ y, vs = [.str y] ∧ ∃ i rest, Builtin.Str.occurrences z y 0 z.length 1 = i :: rest ∧ Q (.int (i : Nat)) H
theorem ms_index : MtS X "str.index" rmIndex := by
  intro pins s σ H x vs v us Q I rx rv h
  obtain ⟨z, rfl, y, rfl, i, rest, ho, q⟩ := h
  obtain ⟨t, rfl⟩ := rx
  obtain ⟨u, rfl, ru⟩ := vals1 rv
  obtain ⟨t', rfl⟩ := ru
  exact SC.index ho ⟨.int i, H, I.tok _, ⟨_, rfl⟩, q⟩
end
end L2
set_option Elab.async false
set_option linter.all false
set_option maxRecDepth 100000
namespace L2
open PySem PySem.Spec PyProof.Rows
theorem str_ext {a b : Str} (h : a.cps.toList = b.cps.toList) : a = b := by
  cases a; cases b; congr 1; exact Array.ext' h
theorem append_cps (a b : Str) : (a ++ b).cps.toList = a.cps.toList ++ b.cps.toList := by
  show (a.cps ++ b.cps).toList = _
  simp
theorem filterMap_range' (l : List Nat) (s : Nat) : ∀ n, s + n ≤ l.length → ((List.range n).map fun k => s + k).filterMap (fun i => l[i]?) = (l.drop s).take n
  | 0, _ => by simp
  | n + 1, h => by
    rw [List.range_succ, List.map_append, List.filterMap_append, filterMap_range' l s n (by omega), List.take_add_one]
    have e : l[s + n]? = some (l[s + n]'(by omega)) := by simp
    simp [e, List.getElem?_drop]
theorem sl_idx (lo hi : Option Int) (n : Nat) : Builtin.Str.strSliceIndices lo hi 1 n = (List.range (HT.sIx n n hi - HT.sIx n 0 lo)).map fun k => HT.sIx n 0 lo + k := by
  have clip : ∀ (v : Int) (d : Nat), (if (1 : Int) > 0 then max 0 (min (if v < 0 then v + (n : Int) else v) (n : Int)) else max (-1) (min (if v < 0 then v + (n : Int) else v) ((n : Int) - 1))) = ((HT.sIx n d (some v) : Nat) : Int) := fun v d => by
    rw [if_pos (by decide)]
    show max 0 (min (if v < 0 then v + (n : Int) else v) (n : Int)) = (((if v < 0 then (v + (n : Int)).toNat else min v.toNat n) : Nat) : Int)
    split <;> rw [Int.max_def, Int.min_def] <;> split <;> split <;> omega
  have base : ∀ (a b : Nat), sliceRange (a : Int) (b : Int) 1 = (List.range (b - a)).map fun k => a + k := fun a b => by
    unfold sliceRange
    simp only [show (1 : Int) > 0 by decide, if_true, Int.one_mul]
    have e : (if (a : Int) < (b : Int) then ((b : Int) - (a : Int) + 1 - 1) / 1 else 0).toNat = b - a := by
      split
      · rw [Int.ediv_one]; omega
      · show (0 : Int).toNat = b - a
        rw [Int.toNat_zero]; omega
    rw [e]
    refine List.map_congr_left fun k _ => ?_
    omega
  unfold Builtin.Str.strSliceIndices
  cases lo with
  | none => cases hi with
    | none => exact base 0 n
    | some v => simp only []; rw [clip v n]; exact base 0 _
  | some u => cases hi with
    | none => simp only []; rw [clip u 0]; exact base _ n
    | some v => simp only []; rw [clip u 0, clip v n]; exact base _ _
theorem slice_cps (x : Str) (lo hi : Option Int) : (Txt.slice x lo hi).cps.toList = (x.cps.toList.drop (HT.sIx x.length 0 lo)).take (HT.sIx x.length x.length hi - HT.sIx x.length 0 lo) := by
  have h1 := HT.sIx_le x.length x.length (Nat.le_refl _) hi
  have h0 := HT.sIx_le x.length 0 (Nat.zero_le _) lo
  have hl : x.cps.toList.length = x.length := by show x.cps.toList.length = x.cps.size; simp
  unfold Txt.slice
  rw [sl_idx]
  split
  · rename_i h
    simp only [beq_self_eq_true, Bool.true_and, List.length_map, List.length_range, beq_iff_eq] at h
    have e0 : HT.sIx x.length 0 lo = 0 := by omega
    rw [h, e0, List.drop_zero, ← hl, List.take_length]
  · show ((List.map _ _).filterMap (fun i => x.cps[i]?)).toArray.toList = _
    rw [List.toList_toArray]
    rw [← filterMap_range' _ _ _ (by omega)]
    refine congrArg (fun f => List.filterMap f _) (funext fun i => ?_)
    simp
theorem join_cps (ys : List Str) : (Txt.join (Str.ofString "") ys).cps.toList = ys.flatMap fun y => y.cps.toList := by
  have key : ∀ (l : List Str) (acc : Array Nat), (l.foldl (fun acc p => acc ++ (Str.ofString "").cps ++ p.cps) acc).toList = acc.toList ++ l.flatMap fun y => y.cps.toList := by
    intro l
    induction l with
    | nil => intro acc; simp
    | cons a l ih =>
      intro acc
      rw [List.foldl_cons, ih]
      have e : (Str.ofString "").cps = #[] := by decide +kernel
      simp [e]
  show ((ys.drop 1).foldl _ (ys.headD Str.empty).cps).toList = _
  rw [key]
  cases ys with
  | nil => simp; decide +kernel
  | cons a l => simp
structure IsNm (w : Str) : Prop where
  pos : 1 ≤ w.length
  le : w.length ≤ 8
  small : ∀ c ∈ w.cps.toList, smallB c = true
theorem len_cps (x : Str) : x.cps.toList.length = x.length := by show x.cps.toList.length = x.cps.size; simp
theorem IsNm.cons {w : Str} (h : IsNm w) : ∃ c cs, w.cps.toList = c :: cs ∧ smallB c = true ∧ (∀ x ∈ cs, smallB x = true) ∧ cs.length ≤ 7 := by
  have hl := len_cps w
  cases e : w.cps.toList with
  | nil => rw [e] at hl; have := h.pos; simp at hl; omega
  | cons c cs =>
    rw [e] at hl
    have := h.le
    exact ⟨c, cs, rfl, h.small c (by rw [e]; simp), fun x hx => h.small x (by rw [e]; simp [hx]), by simp at hl; omega⟩
theorem IsNm.of {w : Str} {c : Nat} {cs : List Nat} (e : w.cps.toList = c :: cs) (hc : smallB c = true) (hcs : ∀ x ∈ cs, smallB x = true) (hl : cs.length ≤ 7) : IsNm w := by
  have h := len_cps w
  rw [e] at h
  simp at h
  refine ⟨by omega, by omega, fun x hx => ?_⟩
  rw [e] at hx
  rcases List.mem_cons.mp hx with rfl | q
  · exact hc
  · exact hcs x q
theorem letters_at {r : Int} (h0 : 0 ≤ r) (h1 : r < 26) : atI (Str.ofString "abcdefghijklmnopqrstuvwxyz").cps.toList r = some (97 + r.toNat) := by
  obtain ⟨n, rfl⟩ := Int.eq_ofNat_of_zero_le h0
  rw [show (Str.ofString "abcdefghijklmnopqrstuvwxyz").cps.toList = List.range' 97 26 by decide +kernel]
  refine atI_nat ?_
  rw [List.getElem?_range' (by omega)]
  simp
theorem letters_len : (Str.ofString "abcdefghijklmnopqrstuvwxyz").length ≤ sizeLine := by decide +kernel
theorem letters_index {c : Nat} (h : smallB c = true) : Builtin.Str.occurrences (Str.ofString "abcdefghijklmnopqrstuvwxyz") ⟨#[c]⟩ 0 (Str.ofString "abcdefghijklmnopqrstuvwxyz").length 1 = (c - 97) :: [] := by
  have key : ∀ i : Fin 26, Builtin.Str.occurrences (Str.ofString "abcdefghijklmnopqrstuvwxyz") ⟨#[97 + i.1]⟩ 0 (Str.ofString "abcdefghijklmnopqrstuvwxyz").length 1 = [i.1] := by decide +kernel
  simp only [smallB, Bool.and_eq_true, decide_eq_true_eq] at h
  have := key ⟨c - 97, by omega⟩
  simp only [show 97 + (c - 97) = c by omega] at this
  exact this
noncomputable def nxtC (c : Nat) : Nat := 97 + (c - 97 + 1) % 26
noncomputable def nxtL : List Nat → List Nat
  | [] => []
  | c :: cs => nxtC c :: cs
noncomputable def nxtW (w : Str) : Str := ⟨(nxtL w.cps.toList).toArray⟩
noncomputable def nxtN : Nat → Str → Str
  | 0, w => w
  | n + 1, w => nxtN n (nxtW w)
theorem small_nxtC (c : Nat) : smallB (nxtC c) = true := by
  have := Nat.mod_lt (c - 97 + 1) (show 0 < 26 by decide)
  unfold smallB nxtC
  rw [Bool.and_eq_true, decide_eq_true_eq, decide_eq_true_eq]
  exact ⟨by omega, by omega⟩
theorem nxtW_nm {w : Str} (h : IsNm w) : IsNm (nxtW w) := by
  obtain ⟨c, cs, e, hc, hcs, hl⟩ := h.cons
  exact .of (c := nxtC c) (cs := cs) (by simp [nxtW, e, nxtL]) (small_nxtC c) hcs hl
theorem nxtN_cps {c : Nat} {cs : List Nat} : ∀ (n : Nat) {w : Str}, w.cps.toList = c :: cs → smallB c = true → (nxtN n w).cps.toList = (97 + (c - 97 + n) % 26) :: cs := by
  intro n
  induction n generalizing c with
  | zero =>
    intro w e hc
    simp only [smallB, Bool.and_eq_true, decide_eq_true_eq] at hc
    rw [nxtN, e]
    congr 1
    omega
  | succ n ih =>
    intro w e hc
    rw [nxtN, ih (c := nxtC c) (by simp [nxtW, e, nxtL]) (small_nxtC c)]
    congr 1
    simp only [nxtC]
    omega
theorem nodup_le {α : Type} [BEq α] [LawfulBEq α] : ∀ {xs ys : List α}, xs.Nodup → (∀ x ∈ xs, x ∈ ys) → xs.length ≤ ys.length
  | [], _, _, _ => by simp
  | x :: xs, ys, hn, h => by
    have hn' := List.nodup_cons.mp hn
    have hx := h x (by simp)
    have := nodup_le (xs := xs) (ys := ys.erase x) hn'.2 fun z hz => by
      have hne : z ≠ x := fun e => hn'.1 (e ▸ hz)
      exact (List.mem_erase_of_ne hne).mpr (h z (by simp [hz]))
    rw [List.length_erase_of_mem hx] at this
    have := List.length_pos_of_mem hx
    simp
    omega
theorem free_word {w : Str} (h : IsNm w) {F : List Str} (hF : F.length < 26) : ∃ n, nxtN n w ∉ F := by
  obtain ⟨c, cs, e, hc, hcs, hl⟩ := h.cons
  have hinj : ∀ i j, i < 26 → j < 26 → nxtN i w = nxtN j w → i = j := fun i j hi hj q => by
    have q2 := congrArg (fun z : Str => z.cps.toList) q
    simp only [nxtN_cps _ e hc] at q2
    have q3 := (List.cons.inj q2).1
    omega
  refine Classical.byContradiction fun hno => ?_
  have hall : ∀ n, nxtN n w ∈ F := fun n => Classical.byContradiction fun q => hno ⟨n, q⟩
  have hnd : ((List.range 26).map fun n => nxtN n w).Nodup := by
    refine List.pairwise_map.mpr (List.Pairwise.imp_of_mem (fun {i j} hi hj q e => q (hinj i j (List.mem_range.mp hi) (List.mem_range.mp hj) e)) (List.nodup_range (n := 26)))
  have := nodup_le (ys := F) hnd fun x hx => by
    obtain ⟨n, _, rfl⟩ := List.mem_map.mp hx
    exact hall n
  simp at this
  omega
theorem eqV_str (a b : Str) : eqV (.str a) (.str b) = decide (a = b) := by
  show (a == b) = decide (a = b)
  rw [Bool.eq_iff_iff]
  simp
theorem inV_strs (x : Str) (ys : List Str) : inV (.str x) (ys.map V.str) = decide (x ∈ ys) := by
  rw [Bool.eq_iff_iff]
  simp only [inV, List.any_map, List.any_eq_true, Function.comp, eqV_str, decide_eq_true_eq]
  constructor
  · rintro ⟨y, hy, rfl⟩; exact hy
  · exact fun h => ⟨x, h, rfl⟩
theorem flat_strs (ys : List Str) : (ys.map V.str).all flatV = true := by
  rw [List.all_eq_true]
  intro x hx
  obtain ⟨y, _, rfl⟩ := List.mem_map.mp hx
  rfl
noncomputable def marks4 : List Str := ["in", "from", "to", "end"]
structure NamesOk (ws : List Str) : Prop where
  nm : ∀ w ∈ ws, IsNm w
  nd : ws.Nodup
  nomark : ∀ w ∈ ws, w ∉ marks4
theorem NamesOk.nil : NamesOk [] := ⟨by simp, by simp, by simp⟩
theorem NamesOk.snoc {ws : List Str} {w : Str} (h : NamesOk ws) (hw : IsNm w) (hn : w ∉ ws) (hm : w ∉ marks4) : NamesOk (ws ++ [w]) := by
  refine ⟨fun x hx => ?_, ?_, fun x hx => ?_⟩
  · rcases List.mem_append.mp hx with q | q
    · exact h.nm x q
    · rw [List.mem_singleton.mp q]; exact hw
  · rw [List.nodup_append]
    refine ⟨h.nd, by simp, fun a ha b hb => ?_⟩
    rw [List.mem_singleton.mp hb]
    rintro rfl
    exact hn ha
  · rcases List.mem_append.mp hx with q | q
    · exact h.nomark x q
    · rw [List.mem_singleton.mp q]; exact hm
theorem atI_zero {α : Type} (x : α) (xs : List α) : atI (x :: xs) 0 = some x := atI_nat (j := 0) rfl
theorem edit_nm {z : Str} {r : Int} {c : Nat} (hz : IsNm z) (hc : smallB c = true) (r0 : 0 ≤ r) (r1 : r < z.length) : IsNm (Txt.slice z none (some r) ++ (Str.mk #[c]) ++ Txt.slice z (some (r + 1)) none) := by
  obtain ⟨n, rfl⟩ := Int.eq_ofNat_of_zero_le r0
  have hn : n < z.length := by omega
  have hl := len_cps z
  have e : (Txt.slice z none (some (n : Int)) ++ (Str.mk #[c]) ++ Txt.slice z (some ((n : Int) + 1)) none).cps.toList = z.cps.toList.take n ++ [c] ++ z.cps.toList.drop (n + 1) := by
    rw [append_cps, append_cps, slice_cps, slice_cps, HT.sIx_none, HT.sIx_nat, HT.sIx_none, show ((n : Int) + 1) = ((n + 1 : Nat) : Int) by omega, HT.sIx_nat, Nat.min_eq_left (by omega), Nat.min_eq_left (by omega)]
    rw [List.drop_zero, Nat.sub_zero, List.take_of_length_le (i := z.length - (n + 1)) (by rw [List.length_drop, hl]; omega)]
  have h8 := hz.le
  have hlen : (Txt.slice z none (some (n : Int)) ++ (Str.mk #[c]) ++ Txt.slice z (some ((n : Int) + 1)) none).length = z.length := by
    rw [← len_cps, e]
    simp only [List.length_append, List.length_take, List.length_drop, List.length_cons, List.length_nil, hl]
    omega
  refine ⟨by omega, by omega, fun x hx => ?_⟩
  rw [e] at hx
  rcases List.mem_append.mp hx with q | q
  · rcases List.mem_append.mp q with q | q
    · exact hz.small x (List.mem_of_mem_take q)
    · rw [List.mem_singleton.mp q]; exact hc
  · exact hz.small x (List.mem_of_mem_drop q)
theorem join_signs (cs : List Nat) : (Txt.join (Str.ofString "") (cs.map fun c => Str.mk #[c])).cps.toList = cs := by
  rw [join_cps]
  induction cs with
  | nil => rfl
  | cons c cs ih => simp [ih]
theorem sum_ones (cs : List Nat) : ((cs.map fun c => Str.mk #[c]).map fun x => x.length).sum = cs.length := by
  induction cs with
  | nil => rfl
  | cons c cs ih =>
    rw [List.map_cons, List.map_cons, List.sum_cons, ih]
    show 1 + cs.length = cs.length + 1
    omega
end L2
set_option Elab.async false
set_option linter.all false
set_option maxRecDepth 100000
namespace L2
open PySem PySem.Spec PyProof.Rows
section
variable {X : Cx}
noncomputable def rSTs : V → Option Int → Option Int → Hp → VK → Prop := fun x lo hi H Q => ∃ a, x = .ref a ∧ ∃ xs, H a = some (.tup xs) ∧ ∀ p H', H' p = some (.tup (cutV xs lo hi)) → Same H H' → Q (.ref p) H'
theorem sl_Ts : SlR X rSTs := sl_T.imp fun _ _ _ _ _ zq25 => by obtain ⟨a, e, xs, h, q⟩ := zq25; exact (⟨a, e, xs, h, fun hw => q a _ (by rw [hw]; exact h) (Same.refl _), fun p hp => q p _ upd_same (Same.upd0 hp)⟩)
noncomputable def rCTs : R2 := fun x y H Q => ∃ l, x = .ref l ∧ ∃ b, y = .ref b ∧ ∃ xs, H l = some (.tup xs) ∧ ∃ ys, H b = some (.tup ys) ∧ xs.length + ys.length ≤ sizeLine ∧ ∀ p H', H' p = some (.tup (xs ++ ys)) → Same H H' → Q (.ref p) H'
theorem op_catTs : OpR X (binaryOp .Add) rCTs := op_catTA.imp fun _ _ _ _ ⟨l, e, b, e2, xs, h, ys, h2, hl, q⟩ => ⟨l, e, b, e2, xs, h, ys, h2, hl,
  fun hx => q b _ (by rw [hx]; exact h2) (Same.refl _), fun _ hy => q l _ (by rw [hy, List.append_nil]; exact h) (Same.refl _), fun _ _ p hp => q p _ upd_same (Same.upd0 hp)⟩
end
theorem cut_map {α : Type} (f : α → V) (xs : List α) (n : Nat) : cutV (xs.map f) none (some (n : Int)) = (xs.take n).map f := by
  unfold cutV
  rw [HT.sIx_none, HT.sIx_nat, List.drop_zero, Nat.sub_zero, List.length_map, List.map_take]
  by_cases h : n ≤ xs.length
  · rw [Nat.min_eq_left h]
  · rw [Nat.min_eq_right (by omega), List.take_of_length_le (by simp), List.take_of_length_le (by simp; omega)]
theorem cut_map_from {α : Type} (f : α → V) (xs : List α) (n : Nat) : cutV (xs.map f) (some (n : Int)) none = (xs.drop n).map f := by
  unfold cutV
  rw [HT.sIx_none, HT.sIx_nat, List.length_map, List.map_drop]
  by_cases h : n ≤ xs.length
  · rw [Nat.min_eq_left h, List.take_of_length_le (by simp)]
  · rw [Nat.min_eq_right (by omega), List.drop_of_length_le (l := List.map f xs) (i := n) (by simp; omega)]
    simp
theorem atI0 {α : Type} (x : α) (xs : List α) : atI (x :: xs) 0 = some x := atI_nat (j := 0) rfl
theorem atI1 {α : Type} (x y : α) (xs : List α) : atI (x :: y :: xs) 1 = some y := atI_nat (j := 1) rfl
theorem atI2 {α : Type} (x y z : α) (xs : List α) : atI (x :: y :: z :: xs) 2 = some z := atI_nat (j := 2) rfl
theorem atI3 {α : Type} (x y z a : α) (xs : List α) : atI (x :: y :: z :: a :: xs) 3 = some a := atI_nat (j := 3) rfl
theorem atI4 {α : Type} (x y z a b : α) (xs : List α) : atI (x :: y :: z :: a :: b :: xs) 4 = some b := atI_nat (j := 4) rfl
theorem ofS_inj {a b : String} : (Str.ofString a = Str.ofString b) = (a = b) := by
  refine propext ⟨fun h => ?_, fun h => by rw [h]⟩
  rw [Str.ofString_eq_toList, Str.ofString_eq_toList] at h
  have h1 := congrArg (fun s : Str => s.cps.toList) h
  simp only [List.toList_toArray] at h1
  have key : ∀ (l1 l2 : List Char), l1.map Char.toNat = l2.map Char.toNat → l1 = l2 := by
    intro l1
    induction l1 with
    | nil => intro l2 h; cases l2 with
      | nil => rfl
      | cons a b => cases h
    | cons a b ih => intro l2 h; cases l2 with
      | nil => cases h
      | cons c d =>
        rw [List.map_cons, List.map_cons, List.cons.injEq] at h
        rw [ih d h.2, Char.toNat_inj.mp h.1]
  exact String.toList_injective (key _ _ h1)
section
variable {X : Cx} {pos : Pos}
theorem PG.imp {tg : Expr} {g g' : TG} (h : PG X tg g) (i : ∀ v σ H Q, g' v σ H Q → g v σ H Q) : PG X tg g' := fun pins s σ H v u Q I r q => h pins s σ H v u Q I r (i _ _ _ _ q)
noncomputable def gTupT (n : Nat) (t : TGs) : TG := fun v σ H Q => ∃ a, v = .ref a ∧ ∃ xs, H a = some (.tup xs) ∧ xs.length = n ∧ t xs σ H Q
theorem pg_tupT {es : List Expr} {k : Nat} {t : TGs} {n : Nat} (hc : X.calm = true) (h : PGs X es t)
    (hn : (assignEach es X.env).length = n := by rfl) (hst : (assignEach es X.env).findIdx? (·.1) = none := by rfl) : PG X (.Tuple es k pos) (gTupT n t) :=
  (pg_tup hc h hn hst).imp fun _ _ _ _ zq26 => by obtain ⟨a, e, xs, h, hl, q⟩ := zq26; exact (⟨a, xs, e, .of h, hl, q⟩)
end
end L2
set_option Elab.async false
set_option linter.all false
set_option maxRecDepth 100000
namespace L2
open PySem PySem.Spec PyProof.Rows
section
variable {X : Cx}
noncomputable def rDictD : List V → Hp → VK → Prop := fun xs H Q => ∃ p, xs = [.ref p] ∧ ∃ kvs, H p = some (.dK kvs) ∧ ∀ q, H q = none → Q (.ref q) (upd H q (.dK kvs))
theorem call_dictD : CallR X (.type "dict") rDictD := by
  intro pins s σ H xs us Q I r h
  obtain ⟨p, rfl, kvs, hp, q⟩ := h
  obtain ⟨u, rfl, ru⟩ := vals1 r
  cases ru
  obtain ⟨z, hd, vs, rel, dd⟩ := dk_of I.hok hp
  refine PySem.kt_call_dict hd dd (by rw [← rel.length]; exact z) fun h' dd' sb => ?_
  have hold : ∀ b o, s.heap.get? b = some o → h'.get? b = some o := fun b o e => sb.extBut b o (Nat.ne_of_lt (Heap.lt_size e)) (Heap.get?_push_of_some _ e)
  exact ⟨.ref s.heap.objs.size, _, I.laid (a := s.heap.objs.size) (o := .dK kvs) (t' := s.toks) hold (Nat.le_refl _) ⟨z, beq_eq_false_iff_ne.mpr (Ne.symm (Nat.ne_of_lt I.big)), vs, rel, dd'⟩, rfl, q _ (I.hok.fresh (Nat.le_refl _))⟩
noncomputable def plainV : V → Bool
  | .non => true
  | .bl _ => true
  | .int _ => true
  | .str _ => true
  | .ref _ => true
  | _ => false
theorem valV_mem {κ : Type} [DecidableEq κ] : ∀ {kvs : List (κ × V)} {k : κ} {v : V}, (kvs.map (·.1)).Nodup → (k, v) ∈ kvs → valV kvs k = some v
  | (a, b) :: r, k, v, hn, hm => by
    rw [List.map_cons, List.nodup_cons] at hn
    rcases List.mem_cons.mp hm with e | e
    · cases e
      exact valV_pos rfl
    · have hne : ¬ a = k := fun z => hn.1 (by subst z; exact List.mem_map.mpr ⟨(a, v), e, rfl⟩)
      rw [valV_neg hne]
      exact valV_mem hn.2 e
end
end L2
namespace L2
open PySem PySem.Spec PyProof.Rows
noncomputable def clsAt (mg : Str → Option Value) (x : Str) : Addr := match mg x with | some (.ref a) => a | _ => 0
theorem clsAt_of {mg : Str → Option Value} {x : Str} {C : Addr} (h : mg x = some (.ref C)) : clsAt mg x = C := by unfold clsAt; rw [h]
noncomputable def MtdL (K : PySem.W.Frag) (R : Addr → Prop) (x q : Str) (st : Stmt) (ps : List Str) : Prop := ∃ f fd, Fun K x q st f fd ∧ R f ∧ Binds K fd ps []
noncomputable def FnR (P : Program) (w : World) (K : PySem.W.Frag) (mg : Str → Option Value) (base : Heap) (R : Addr → Prop) (k : Nat) (ps : List Str) (sp : Sp) : Prop := ∃ f fd, FnOk P w K mg base CX0 k f fd ps sp ∧ R f ∧ Binds K fd ps []
section
variable {P : Program} {w : World} {K : PySem.W.Frag} {mg : Str → Option Value} {base : Heap} {R : Addr → Prop}
theorem MtdL.ok {x q : Str} {st : Stmt} {N ps : List Str} {k : Nat} {sp : Sp} (F : MtdL K R x q st ps) (S : FnScope N ps (defScope st)) (len : ∀ vs H Q E, sp vs H Q E → vs.length = ps.length)
    (hbody : ∀ (f : Addr) (cdv : Value) (A : Around) (outer : List Env) (s : Shared) (H : Hp) (vs : List V) (Q : VK) (E : XK), Room k (A.deeper (envOfC q (defScope st) s.heap.objs.size f cdv)) → sp vs H Q E →
      ∃ t, PSs (cxOf CX0 P w K mg base N q (defScope st) f cdv A outer s H E).nox (defBody st) t ∧ t { nx := fun _ H' => Q .non H', rt := Q } (start N vs) H) : FnR P w K mg base R (k + 1) ps sp := by
  obtain ⟨f, fd, F, r, b⟩ := F
  exact ⟨f, fd, F.ok S len (hbody f), r, b⟩
theorem mtdL_mk {x q : Str} {st : Stmt} {ps : List Str} {f : Addr} {oc : Value} {od an : Option Addr} {osl : Array (Option Value)} {kV doc pm cdv ct : Value} (r : R f)
    (l : K.lookup f = some ⟨oc, od, .func (PySem.W.fnOf x q (defArgs st) (defBody st) (defScope st) .none kV doc pm an cdv ct), osl⟩)
    (c : PySem.W.codeIn K cdv q = true) (k : PySem.W.keepIn K (.ref f) = true)
    (hb : ∀ (kV doc pm : Value) (an : Option Addr) (cdv ct : Value) (us : List Value), us.length = ps.length → bindArgs (PySem.W.fnOf x q (defArgs st) (defBody st) (defScope st) .none kV doc pm an cdv ct) ⟨us, []⟩ = pure (ps.zip us)) : MtdL K R x q st ps :=
  ⟨f, _, fun_mk l c k, r, (fun_mk l c k).binds hb⟩
end
noncomputable def tFldC (C : Addr) (ta : TE) (f : Str) : TE := fun σ H Q => ta σ H fun x H1 => ∃ a, x = .ref a ∧ ∃ dx fs, H1 a = some (.ins C dx fs) ∧ ∃ v, fs.lookup f = some v ∧ Q v H1
noncomputable def sFldC (C : Addr) (ta tv : TE) (f : Str) : TS := fun D σ H => tv σ H fun y H1 => ta σ H1 fun x H2 => ∃ a, x = .ref a ∧ ∃ dx fs, H2 a = some (.ins C dx fs) ∧ fs.length < 1000 ∧ D.nx σ (upd H2 a (.ins C dx (putF f y fs)))
noncomputable def tMethC (C : Addr) (m : Str) (sp : Sp) (ta : TE) (t : TA) : TE := fun σ H Q => ta σ H fun x H1 => ∃ a, x = .ref a ∧ ∃ dx fs, H1 a = some (.ins C dx fs) ∧ fs.lookup m = none ∧ t σ H1 fun vs H2 => sp (.ref a :: vs) H2 Q E0
noncomputable def tMakeC (C : Addr) (sp : Sp) (t : TA) : TE := fun σ H Q => t σ H fun vs H1 => ∀ x dx, H1 x = none → H1 dx = none → dx ≠ x → sp (.ref x :: vs) (upd (upd H1 dx (.own x)) x (.ins C dx [])) (fun v H2 => v = .non ∧ Q (.ref x) H2) E0
section
variable {X : Cx} {o e value : Expr} {es : List Expr} {f m x : Str} {p pos pos' apos : Pos} {ta tv : TE} {t : TA} {C : Addr} {k : Nat} {ps : List Str} {sp : Sp}
theorem pe_fldC (c : Cls X.K C) (n : NoAttr X.K C f) (he : PE X e ta) (hb : attributeBase e f X.env (eval e X.env) = eval e X.env := by rfl) : PE X (.Attribute e f pos) (tFldC C ta f) := by
  intro pins s σ H Q I h
  refine attr_of hb (thn (he pins s σ H _ I h) fun u s1 zr4830 => ?_)
  obtain ⟨x, H1, I1, rx, a, ex, dx, fs, ea, v, l, q⟩ := zr4830
  subst ex
  obtain rfl : u = Value.ref a := rx
  exact getattr_ok I1 ea c n l fun u' s2 I2 ru => ⟨v, H1, I2, ru, q⟩
theorem ps_fldC (c : Cls X.K C) (n : NoAttr X.K C f) (ha : PE X o ta) (hv : PE X value tv) (hs : swapsWith value (some (.Attribute o f pos')) pos.line X.env = pure false) : PS X (.Assign [.Attribute o f pos'] value pos) (sFldC C ta tv f) := by
  intro pins s σ H D I h
  refine plainObj_wpAny_Assign_Attribute (thn (hv pins s σ H _ I h) fun u s1 ⟨y, H1, I1, ry, q⟩ => thn (ha pins s1 σ H1 _ I1 q) fun ov s2 zr4836 => ?_) hs
  obtain ⟨x, H2, I2, rx, a, ex, dx, fs, ea, l, q2⟩ := zr4836
  subst ex
  obtain rfl : ov = Value.ref a := rx
  exact setattr_ok I2 ea c n l ry fun s3 I3 => ⟨σ, _, I3, q2⟩
theorem pe_methF {pl : Sem Bool} (c : Cls X.K C) (F : FnR X.prog X.w X.K X.mg X.base (Meth X.K C m) k ps sp) (hr : Room k X.A) (he : PE X o ta) (ha : PA X (e :: es) t)
    (hst : starEach (e :: es) X.env = (false, eval e X.env) :: starEach es X.env := by rfl) (hpl : (backTo pos (starEach es X.env)).any (·.1) = false := by rfl)
    (ht : eval (.Call (.Attribute o m apos) (e :: es) [] pos) X.env = (do
      let ov ← eval o X.env
      standAt apos.atName
      let (f, first) ← holding [ov] (getMethod ov m pl)
      callWith pos f first (backTo pos (starEach (e :: es) X.env)) (backToKw pos (keywordEach [] X.env))) := by rfl) :
    PE X (.Call (.Attribute o m apos) (e :: es) [] pos) (tMethC C m sp ta t) := by
  obtain ⟨f, fd, F, hm, b⟩ := F
  intro pins s σ H Q I h
  refine PySem.W.methodCall_KW (pl := pl) (thn (he pins s σ H _ I h) fun u s1 zr4850 => ?_) ht
  obtain ⟨x, H1, I1, rx, a, ex, dx, fs, ea, l, q⟩ := zr4850
  subst ex
  obtain rfl : u = Value.ref a := rx
  refine getmeth_ok I1 ea c hm l ?_
  refine PySem.W.callWith_K (first := [.ref a]) (h₀ := X.base) I.ok.mod.kin hm.kp (thn (ha pos pins s1 σ H1 _ I1 q) fun us s2 ⟨vs, H2, I2, r, q2⟩ => ⟨I2.kIn, ?_⟩) hst hpl
  exact run_fn (us := .ref a :: us) (vs := .ref a :: vs) F hr b .nil pass0 I2 (.cons rfl r) (by rw [List.append_nil]; exact q2)
theorem pe_makeF (F : FnR X.prog X.w X.K X.mg X.base (Mk X.K C) k ps sp) (hr : Room (k + 1) X.A) (hg : Gl X x) (hm : X.mg x = some (.ref C))
    (ha : PA X (e :: es) t) (hdb : (x == ("__debug__" : Str)) = false := by decide) (he : starEach (e :: es) X.env = (false, eval e X.env) :: starEach es X.env := by rfl) (hpl : (backTo pos (starEach es X.env)).any (·.1) = false := by rfl) :
    PE X (.Call (.Name x p) (e :: es) [] pos) (tMakeC C sp t) := by
  obtain ⟨f, fd, F, M, b⟩ := F
  intro pins s σ H Q I h
  refine wpAny_Call_Name_kw (ld_glob I hg hm ?_ hdb)
  refine PySem.W.callWith_K (h₀ := X.base) I.ok.mod.kin M.kp (thn (ha pos pins s σ H _ I h) fun us s1 ⟨vs, H1, I1, r, q⟩ => ⟨I1.kIn, ?_⟩) he hpl
  refine run_make M F hr b .nil pass0 I1 r ?_
  rw [List.append_nil]
  exact q
end
section
variable {X : Cx} {l tg : Expr} {tl : TE} {K : PySem.W.Frag}
theorem pi_LK (hK : X.K = K) (hl : PE X l tl) : PI X tg l (iL K tl) := by subst hK; exact pi_L hl
theorem pi_TK (hK : X.K = K) (hl : PE X l tl) : PI X tg l (iT K tl) := by subst hK; exact pi_T hl
end
theorem comp_filterS {J : It} {xs : List V} {C : Hp → Prop} (w : Wlk J xs C) {tc : TT} {te : TE} {σ0 : St} {Q : VK} {H1 : Hp} {D : Addr} (p : V → Bool) (f : V → V) (hD : H1 D = none) (hC : ∀ H', Same H1 H' → C H') (hn : xs.length ≤ 1000)
    (hc : ∀ (x : V) (H2 : Hp) (Q2 : Bool → Hp → Prop), x ∈ xs → Same H1 H2 → (∀ H3, Same H2 H3 → Q2 (p x) H3) → tc (σ0.set 0 (some x)) H2 Q2)
    (he : ∀ (x : V) (H2 : Hp) (Q2 : VK), x ∈ xs → p x = true → Same H1 H2 → (∀ H3, Same H2 H3 → Q2 (f x) H3) → te (σ0.set 0 (some x)) H2 Q2)
    (hd : ∀ H2, Same H1 H2 → H2 D = some (.lst ((xs.filter p).map f)) → Q (.ref D) H2) : CompG J σ0 (gName 0) tc te Q H1 D := by
  refine comp_g w (fun i ys H => ys = ((xs.take i).filter p).map f ∧ i ≤ xs.length ∧ Same H1 H ∧ H D = some (.lst ys)) ⟨by simp, Nat.zero_le _, Same.upd0 hD, upd_same⟩ (fun i ys H h => hC _ h.2.2.1) ?_ ?_
  · rintro i x ys H hi hx ⟨rfl, hle, sm, hd⟩
    refine hc x H _ (List.mem_of_getElem? hx) sm fun H3 s3 => ?_
    have hlen : ((xs.take i).filter p).length ≤ xs.length := Nat.le_trans (List.length_filter_le _ _) (by simp; omega)
    cases hp : p x with
    | true =>
      simp only [if_true]
      refine he x H3 _ (List.mem_of_getElem? hx) hp (sm.trans s3) fun H4 s4 => ⟨s4 _ _ (s3 _ _ hd), by simp; exact small1000 (by omega), ?_, hi, ?_, upd_same⟩
      · rw [List.take_add_one, hx]; simp [hp]
      · exact fun b o e => by rw [upd_ne (ne_of_none e hD)]; exact s4 _ _ (s3 _ _ (sm b o e))
    | false =>
      simp only [Bool.false_eq_true, if_false]
      exact ⟨by rw [List.take_add_one, hx]; simp [hp], hi, sm.trans s3, s3 _ _ hd⟩
  · rintro ys H ⟨rfl, _, sm, hd'⟩
    rw [List.take_length] at hd'
    exact hd H sm hd'
theorem eqV_int (a b : Int) : eqV (.int a) (.int b) = decide (a = b) := by
  show (a == b) = decide (a = b)
  rw [Bool.eq_iff_iff]
  simp
theorem inV_ints (x : Int) (ys : List Int) : inV (.int x) (ys.map V.int) = decide (x ∈ ys) := by
  rw [Bool.eq_iff_iff]
  simp only [inV, List.any_map, List.any_eq_true, Function.comp, eqV_int, decide_eq_true_eq]
  constructor
  · rintro ⟨y, hy, rfl⟩; exact hy
  · exact fun h => ⟨x, h, rfl⟩
theorem flat_ints (ys : List Int) : (ys.map V.int).all flatV = true := by
  rw [List.all_eq_true]
  intro x hx
  obtain ⟨y, _, rfl⟩ := List.mem_map.mp hx
  rfl
end L2
set_option Elab.async false
set_option linter.all false
set_option maxRecDepth 100000
namespace L2
open PySem PySem.Spec PyProof.Rows
section
variable {X : Cx}
variable {o i : Expr} {td ty : TE}
end
end L2
set_option Elab.async false
set_option linter.all false
set_option maxRecDepth 100000
namespace L2
open PySem PySem.Spec PyProof.Rows
end L2
set_option Elab.async false
set_option linter.all false
set_option maxRecDepth 100000
set_option maxHeartbeats 4000000
namespace PySem
open PyProof.Rows
section
variable {prog : Program} {w : World} {A : Around} {E : Value → Shared → Prop} {s : Shared}
end
end PySem
namespace L2
open PySem PySem.Spec PyProof.Rows
section
variable {X : Cx}
variable {o e : Expr} {es : List Expr} {m : Str} {pos apos : Pos} {ta : TE} {t : TA} {k : Nat} {ps : List Str} {Cs : List (Addr × Sp)}
end
end L2
set_option Elab.async false
set_option linter.all false
set_option maxRecDepth 100000
namespace PySem
open Sem (wp)
section
variable {prog : Program} {w : World} {A : Around} {E : Value → Shared → Prop} {s : Shared}
theorem nx_tup {J T : Addr} {i : Nat} {vs : Array Value} {v : Value} {Q : Value → Shared → Prop} (a : s.heap.IsTupleIter J T i) (b : s.heap.IsTuple T vs) (c : vs[i]? = some v)
    (k : ∀ g, g.IsTupleIter J T (i + 1) → Heap.SameBut J s.heap g → Q v { s with heap := g }) : wpAny (model prog w) A (Builtin.SmallTypes.nextOf (.ref J)) Q E s := by
  obtain ⟨oJ, a1, a2, a3⟩ := id a
  obtain ⟨oT, b1, _, bn, b2⟩ := b
  unfold Builtin.SmallTypes.nextOf
  refine wpAny_bind (wpAny_callSpecial?_slot (name := Str.ofString "__next__") a.typeIs F.slot_tuple_iterator_next (wpAny_call_entry F.slot_tuple_iterator_next a.typeIs F.entry_tuple_iterator_next ?_ (F.args_tuple_iterator_next_1 _)))
  change wpAny _ _ (field (.ref J) 0 >>= _) _ _ s
  refine wpAny_bind (wpAny_field a1 a3 (x := .ref T) rfl ?_)
  change wpAny _ _ (if (Value.ref T == Value.none) = true then _ else _) _ _ s
  rw [if_neg (show ¬ ((Value.ref T == Value.none) = true) from Bool.false_ne_true)]
  change wpAny _ _ (field (.ref J) 1 >>= _) _ _ s
  refine wpAny_bind (wpAny_field a1 a3 (x := .int i 0) rfl ?_)
  change wpAny _ _ (seqItems? (.ref T) >>= _) _ _ s
  refine wpAny_bind (wpAny_seqItems b1 b2 ?_)
  simp only [Int.toNat_natCast, c]
  refine wpAny_bind (wpAny_setField a1 a3 (by simp) (wpAny_pure ⟨v, rfl, wpAny_pure (k _ ⟨_, Heap.get?_update_self _ a1 (Obj.isFreed_of_fields (Obj.data_mapFields a3 _)), (Obj.cls_mapFields ..).trans a2, ?_⟩ (Heap.SameBut.update ..))⟩))
  rw [Obj.data_mapFields a3]; simp [rawInt]
theorem nx_tup_end {J T : Addr} {i : Nat} {vs : Array Value} {Q : Value → Shared → Prop} (hd : A.handled = none) (a : s.heap.IsTupleIter J T i) (b : s.heap.IsTuple T vs) (c : vs[i]? = none)
    (k : ∀ g e, Heap.ExtBut J s.heap g → (∃ o, g.get? e = some o ∧ o.cls = .type "StopIteration") → E (.ref e) { s with heap := g }) : wpAny (model prog w) A (Builtin.SmallTypes.nextOf (.ref J)) Q E s := by
  obtain ⟨oJ, a1, a2, a3⟩ := id a
  obtain ⟨oT, b1, _, bn, b2⟩ := b
  unfold Builtin.SmallTypes.nextOf
  refine wpAny_bind (wpAny_callSpecial?_slot (name := Str.ofString "__next__") a.typeIs F.slot_tuple_iterator_next (wpAny_call_entry F.slot_tuple_iterator_next a.typeIs F.entry_tuple_iterator_next ?_ (F.args_tuple_iterator_next_1 _)))
  change wpAny _ _ (field (.ref J) 0 >>= _) _ _ s
  refine wpAny_bind (wpAny_field a1 a3 (x := .ref T) rfl ?_)
  change wpAny _ _ (if (Value.ref T == Value.none) = true then _ else _) _ _ s
  rw [if_neg (show ¬ ((Value.ref T == Value.none) = true) from Bool.false_ne_true)]
  change wpAny _ _ (field (.ref J) 1 >>= _) _ _ s
  refine wpAny_bind (wpAny_field a1 a3 (x := .int i 0) rfl ?_)
  change wpAny _ _ (seqItems? (.ref T) >>= _) _ _ s
  refine wpAny_bind (wpAny_seqItems b1 b2 ?_)
  simp only [Int.toNat_natCast, c]
  refine wpAny_bind (wpAny_rule (wpAny_bind (wpAny_setField a1 a3 (by simp) ?_)))
  change wpAny _ _ (newExc (.type "StopIteration") [] >>= _) _ _ _
  refine wpAny_bind (by
    simp only [newExc, newTuple]
    refine wpAny_bind (wpAny_newObj_type ?_ (by size_fits))
    refine wpAny_bind (m := firstArgMember _ _) (wpAny_of_eq (a := Value.none) (by first | rfl | (simp only [firstArgMember]; rfl)) ?_)
    refine wpAny_newObj_type ?_ (by size_fits)
    (simp only [raiseNew]; refine wpAny_bind (wpAny_handled ?_))
    first | rw [show A.in1.handled = none from hd] | rw [hd]
    refine wpAny_bind (wpAny_pure (wpAny_throw (k _ _ (((Heap.SameBut.update ..).extBut.push _).push _) ⟨_, Heap.get?_push_size _ rfl, rfl⟩))))
structure ZTup (g : Heap) (z P O I J S T : Addr) (i : Nat) (f0 f1 : Value) : Prop where
  zz : g.get? z = some { cls := .type "zip", dict := none, data := .fields #[f0, f1, .bool false, .ref P, .ref O], slots := #[] }
  pp : IsPair g P (.ref I) (.ref J)
  oo : ∃ a b, IsPair g O a b
  ii : g.IsTupleIter I S i
  jj : g.IsTupleIter J T i
theorem ZTup.keep {g g' : Heap} {z P O I J S T : Addr} {i : Nat} {f0 f1 : Value} (h : ZTup g z P O I J S T i f0 f1) (k : ∀ b ∈ [z, P, O, I, J], ∀ o, g.get? b = some o → g'.get? b = some o) : ZTup g' z P O I J S T i f0 f1 := by
  obtain ⟨a, b, oo⟩ := h.oo
  exact ⟨k z (by simp) _ h.zz, k P (by simp) _ h.pp, ⟨a, b, k O (by simp) _ oo⟩, h.ii.at fun o e => k I (by simp) o e, h.jj.at fun o e => k J (by simp) o e⟩
noncomputable def ZOut (g : Heap) (n0 : Nat) (xs ys : Array Value) (ts : List Addr) : Prop := ts.Nodup ∧ ∀ (j : Nat) (t : Addr), ts[j]? = some t → ∃ x y, xs[j]? = some x ∧ ys[j]? = some y ∧ IsPair g t x y ∧ n0 ≤ t
theorem ZOut.keep {g g' : Heap} {n0 : Nat} {xs ys : Array Value} {ts : List Addr} (h : ZOut g n0 xs ys ts) (k : ∀ b o, n0 ≤ b → g.get? b = some o → g'.get? b = some o) : ZOut g' n0 xs ys ts := ⟨h.1, fun j t e => by
  obtain ⟨x, y, h1, h2, h3, h4⟩ := h.2 j t e
  exact ⟨x, y, h1, h2, k _ _ h4 h3, h4⟩⟩
end
end PySem
set_option Elab.async false
set_option linter.all false
set_option maxRecDepth 100000
namespace L2
open PySem PySem.Spec PyProof.Rows
section
variable {X : Cx} {pins : List (Addr × Obj)} {σ : St} {H : Hp} {s : Shared}
theorem Inv.turnedL {t' : Nat} {g : Heap} {fp : List Addr} (I : Inv X pins σ H s) (k : ∀ b o, b ∉ fp → s.heap.get? b = some o → g.get? b = some o) (hf : ∀ b ∈ fp, FpOk X pins H b) : Inv X pins σ H { s with heap := g, toks := t' } := by
  have nit : ∀ b u, H b = some u → b ∉ fp := fun b u e z => by rw [(hf b z).1] at e; cases e
  refine I.step (g' := s.gens) (d' := s.drawn) (ch := fp) (fun b hb => ⟨(hf b hb).2.2.2.1, (hf b hb).2.1, (hf b hb).2.2.2.2.1, (hf b hb).2.2.2.2.2⟩) (fun b o _ _ hc e _ => k b o hc e) (fun b o _ _ hc e _ => ⟨o.slots, k b o hc e⟩) (fun _ _ _ _ n => n)
    (fun b o hc e => ⟨o, k b o hc e⟩) (fun _ _ e => e) (fun _ _ _ e => e) (fun b ps e => ⟨#[], by rw [e]; simp⟩) (fun m hm => ?_) (fun b u e => ?_) I.bare
  · obtain ⟨o, es, ep, ho, r⟩ := hm
    exact ⟨o, es, ep, k _ o (fun z => (hf _ z).2.1 rfl) ho, r⟩
  · refine (I.hok b u e).stay (fun c v hc q => k c v ?_ q) (fun _ q => q) fun _ _ q => q
    rcases hc with z | z
    · rw [z]; exact nit b u e
    · exact nit c _ z
theorem Inv.turnedNew {t' : Nat} {g : Heap} {fp : List Addr} {a : Addr} {u0 : HO} (I : Inv X pins σ H s) (k : ∀ b o, b ∉ fp → s.heap.get? b = some o → g.get? b = some o) (hf : ∀ b ∈ fp, FpOk X pins H b) (ha : s.heap.objs.size ≤ a)
    (ok : ObjOk X.prog X.w (upd H a u0) g a u0) : Inv X pins σ (upd H a u0) { s with heap := g, toks := t' } := by
  have nit : ∀ b u, H b = some u → b ∉ fp := fun b u e z => by rw [(hf b z).1] at e; cases e
  have na : ∀ b o, s.heap.get? b = some o → b ≠ a := fun b o e z => by rw [z] at e; exact absurd (Nat.lt_of_lt_of_le (Heap.lt_size e) ha) (Nat.lt_irrefl _)
  have hn : H a = none := I.hok.fresh ha
  have nH : ∀ b u, H b = some u → b ≠ a := fun b u e z => by rw [z, hn] at e; cases e
  refine I.step (g' := s.gens) (d' := s.drawn) (ch := fp) (fun b hb => ⟨(hf b hb).2.2.2.1, (hf b hb).2.1, (hf b hb).2.2.2.2.1, (hf b hb).2.2.2.2.2⟩) (fun b o _ _ hc e _ => k b o hc e) (fun b o _ _ hc e _ => ⟨o.slots, k b o hc e⟩) (fun b o _ e n => by rw [upd_ne (na b o e)]; exact n)
    (fun b o hc e => ⟨o, k b o hc e⟩) (fun b xs e => by rw [upd_ne (nH b _ e)]; exact e) (fun b o u e => by rw [upd_ne (nH b _ e)]; exact e) (fun b ps e => ⟨#[], by rw [upd_ne (nH b _ e), e]; simp⟩) (fun m hm => ?_) (fun b u e => ?_) I.bare
  · obtain ⟨o, es, ep, ho, r⟩ := hm
    exact ⟨o, es, ep, k _ o (fun z => (hf _ z).2.1 rfl) ho, r⟩
  · by_cases hb : b = a
    · subst hb
      rw [upd_same] at e
      cases e
      exact ok
    · rw [upd_ne hb] at e
      refine (I.hok b u e).stay (fun c v hc q => k c v ?_ q) (fun c q => by rw [upd_ne (nH c _ q)]; exact q) fun c xs q => by rw [upd_ne (nH c _ q)]; exact q
      rcases hc with z | z
      · rw [z]; exact nit b u e
      · exact nit c _ z
end
section
variable {X : Cx} {K : PySem.W.Frag} {e1 e2 : Expr} {ta : TA} {p p2 pos pos2 pos' : Pos} {es : List Expr} {x1 : Nat}
end
end L2
set_option Elab.async false
set_option linter.all false
set_option maxRecDepth 100000
namespace PyProof.Rows
open PySem PySem.Spec
section
variable {prog : Program} {w : World} {A : Around} {E : Value → Shared → Prop} {s : Shared}
theorem collect_tup {t : Addr} {us : List Value} {Q : List Value → Shared → Prop} (ht : s.heap.IsTuple t us.toArray) (hn : us.length ≤ 1000)
    (k : Q us { s with heap := (s.heap.push (seqObj "list" #[] 0)).update s.heap.objs.size (Obj.mapSeq (· ++ us.toArray)) }) : wpAny (model prog w) A (collect (.ref t)) Q E s := by
  obtain ⟨ot, h1, h2, n, h3⟩ := id ht
  unfold collect
  refine wpAny_bind (wpAny_runValue (codeAny_builtin entry_proto_collect' ?_))
  change wpAny _ _ (do again (.builtin "list.__iadd__" ⟨[← newList [], .ref t], []⟩)) _ _ s
  refine wpAny_bind (wpAny_newList (wpAny_pure ⟨Code.quiet_builtin _ (by decide +kernel), codeAny_builtin entry_list_iadd' ?_⟩))
  change wpAny _ _ (Builtin.List.listExtendWith (.ref s.heap.objs.size) (.ref t) (.ref s.heap.objs.size)) _ _ { s with heap := s.heap.push (seqObj "list" #[] 0) }
  unfold Builtin.List.listExtendWith
  have h1' : (s.heap.push (seqObj "list" #[] 0)).get? t = some ot := Heap.get?_push_of_some _ h1
  refine wpAny_bind (wpAny_typeOf (T := "tuple") ⟨ot, h1', h2⟩ ?_)
  have q1 : (Value.type "tuple" == Value.type "tuple") = true := by rfl
  rw [if_pos (by rw [q1]; simp)]
  refine wpAny_bind (listItems_at h1' h3 (wpAny_bind (listItems_at (xs := #[]) (n := 0) (Heap.get?_push_size _ rfl) rfl ?_)))
  rw [if_neg (by simp)]
  have hz : us.length ≤ sizeLine := Nat.le_trans hn (by decide)
  refine wpAny_bind (listUpdate_at (xs := #[]) (n := 0) (Heap.get?_push_size _ rfl) rfl (wpAny_pure ?_) (Nat.zero_le _) (by show (#[] ++ us.toArray).size ≤ sizeLine + 1; simp only [Array.size_append, List.size_toArray, List.length_nil]; omega))
  refine wpAny_bind (m := load s.heap.objs.size) (wpAny_load (get?_update_seq (Heap.get?_push_size _ rfl) _) ?_)
  change wpAny _ _ (pure ((#[] : Array Value) ++ us.toArray).toList) Q E _
  rw [show ((#[] : Array Value) ++ us.toArray).toList = us by simp]
  exact wpAny_pure k
end
end PyProof.Rows
namespace L2
open PySem PySem.Spec PyProof.Rows
section
variable {X : Cx}
end
end L2
set_option Elab.async false
set_option linter.all false
set_option maxRecDepth 100000
namespace L2
open PySem PySem.Spec PyProof.Rows
section
variable {X : Cx}
noncomputable def inD (d : PyData) (ds : List PyData) : Bool := ds.any fun e => PyData.eqv e d
noncomputable def rInLD (K : PySem.W.Frag) (neg : Bool) : R2 := fun x y H Q => ∃ dx ds, Rep K H x dx ∧ Rep K H y (.list ds) ∧ dx.canLay0 = true ∧ PyData.canLayAll0 ds = true ∧ dx.depth ≤ 100 ∧ Q (.bl (if neg then !inD dx ds else inD dx ds)) H
theorem op_notInLD (hu : X.A.units + 102 < cLine) : OpR X (compareOp .NotIn) (rInLD X.K true) := by
  intro pins s σ H x y v u Q I rx ry h
  obtain ⟨dx, ds, h1, h2, h3, h4, h5, q⟩ := h
  obtain ⟨as, r1⟩ := I.reads h1 rx
  obtain ⟨bs, r2⟩ := I.reads h2 ry
  exact PySem.SeqAt.notIn_list_reads r2 r1 h4 h3 (by omega) ⟨.bl _, H, I, rfl, q⟩
theorem hu102 {A : Around} {k : Nat} (hr : Room k A) : A.units + 102 < cLine := by have := hr.un; omega
theorem lay_ints : ∀ ns : List Int, PyData.canLayAll0 (ns.map PyData.int) = true
  | [] => rfl
  | n :: ns => by
    rw [List.map_cons]
    unfold PyData.canLayAll0
    rw [lay_ints ns]
    rfl
theorem depth_ints : ∀ ns : List Int, PyData.depthAll (ns.map PyData.int) = 0
  | [] => rfl
  | n :: ns => by
    rw [List.map_cons]
    unfold PyData.depthAll
    rw [depth_ints ns]
    rfl
noncomputable def dRow (r : List Int) : PyData := .tuple (r.map PyData.int)
theorem lay_row (r : List Int) : (dRow r).canLay0 = true := by unfold dRow PyData.canLay0; exact lay_ints r
theorem depth_row (r : List Int) : (dRow r).depth ≤ 1 := by unfold dRow PyData.depth; rw [depth_ints]; decide
theorem eqvAll_ints : ∀ (a b : List Int), PyData.eqvAll (a.map PyData.int) (b.map PyData.int) = decide (a = b)
  | [], [] => rfl
  | [], _ :: _ => by simp [PyData.eqvAll]
  | _ :: _, [] => by simp [PyData.eqvAll]
  | x :: a, y :: b => by
    rw [List.map_cons, List.map_cons]
    unfold PyData.eqvAll
    rw [eqvAll_ints a b]
    have : PyData.eqv (.int x) (.int y) = decide (x = y) := by
      simp only [PyData.eqv]
      rw [Bool.eq_iff_iff]; simp
    rw [this]
    by_cases h : x = y <;> by_cases h2 : a = b <;> simp [h, h2]
theorem eqv_row (a b : List Int) : PyData.eqv (dRow a) (dRow b) = decide (a = b) := by
  unfold dRow
  unfold PyData.eqv
  exact eqvAll_ints a b
noncomputable def RowsV (H : Hp) (vs : List V) (rows : List (List Int)) : Prop := ∃ as : List (Addr × List Int), vs = as.map (fun x => V.ref x.1) ∧ rows = as.map (·.2) ∧ ∀ x ∈ as, H x.1 = some (.tup (x.2.map V.int))
theorem RowsV.nil {H : Hp} : RowsV H [] [] := ⟨[], rfl, rfl, fun x hx => by simp at hx⟩
theorem RowsV.keep {H H' : Hp} {vs : List V} {rows : List (List Int)} (h : RowsV H vs rows) (k : ∀ a xs, H a = some (.tup xs) → H' a = some (.tup xs)) : RowsV H' vs rows := by
  obtain ⟨as, h1, h2, h3⟩ := h
  exact ⟨as, h1, h2, fun x hx => k _ _ (h3 x hx)⟩
end
end L2
set_option Elab.async false
set_option linter.all false
set_option maxRecDepth 100000
namespace PySem
open Sem (wp)
open AutoSeq1 (wpAny_loadPart')
theorem Draws.tup {prog : Program} {w : World} {A : Around} (hd : A.handled = none) (J T : Addr) (hne : T ≠ J) (vs : Array Value) :
    Draws prog w A J [J, T] vs.size (fun i v => vs[i]? = some v) (fun i h => h.IsTupleIter J T i ∧ h.IsTuple T vs) where
  live := fun _ _ st => let ⟨o, ho, _⟩ := st.1; ⟨o, ho⟩
  frame := fun _ _ _ st hk => ⟨st.1.at fun o e => hk J (by simp) o e, st.2.at fun o e => hk T (by simp) o e⟩
  item := fun i s Q E hi st hQ => nx_tup st.1 st.2 (Array.getElem?_eq_getElem hi) fun g a b => hQ _ g s.toks (Array.getElem?_eq_getElem hi) ⟨a, st.2.at fun o e => (b.2 T hne).trans e⟩ b
  done := fun s Q E st hQ => nx_tup_end hd st.1 st.2 (Array.getElem?_eq_none (Nat.le_refl _)) hQ
section
variable {prog : Program} {w : World} {A : Around} {E : Value → Shared → Prop} {s : Shared}
theorem tup_norev : typeLookup (.type "tuple") "__reversed__" = pure none := by rw [typeLookup_type, builtinLookup_eq_fast]; kernel_rfl
theorem tup_getitem : typeLookup (.type "tuple") "__getitem__" = pure (some (.builtin "tuple.__getitem__")) := by rw [typeLookup_type, builtinLookup_eq_fast]; kernel_rfl
theorem tup_nodict : isSubtype (.type "tuple") (.type "dict") = pure false := by rw [isSubtype_type]; kernel_rfl
noncomputable def IsRevT (h : Heap) (z T : Addr) (i : Int) : Prop := h.get? z = some { cls := .type "reversed", dict := none, data := .fields #[.ref T, rawInt i], slots := #[] }
theorem rev_made (T : Addr) (vs : Array Value) : Meets (Builtin.«reversed.__new__» ⟨[.type "reversed", .ref T], []⟩) (fun _ R s => s.heap.IsTuple T vs ∧ (vs.size : Int) < 2 ^ 63 ∧
      ∀ tk, R (.ok (.ret (.ref s.heap.objs.size))) { s with heap := s.heap.push { cls := .type "reversed", data := .fields #[.ref T, rawInt ((vs.size : Int) - 1)] }, toks := tk }) :=
  .of_wp fun prog w A R s h => by
    obtain ⟨ht, hz, k⟩ := h
    have hty : s.TypeIs (.ref T) "tuple" := let ⟨o, h1, h2, _⟩ := ht; ⟨o, h1, h2⟩
    unfold Builtin.«reversed.__new__»
    refine wpAny_bind (wpAny_of_eq (newClass_reversed _) ?_)
    refine wpAny_bind (wpAny_of_eq (a := ()) (by first | rfl | kernel_rfl) ?_)
    refine wpAny_bind (wpAny_of_eq (a := ()) (by first | rfl | kernel_rfl) ?_)
    refine wpAny_bind (wpAny_specialOf hty tup_norev ?_)
    refine wpAny_bind (by
      change wpAny _ _ (isInstance (Value.ref T) (.type "dict") >>= _) _ _ _
      refine wpAny_bind (wpAny_isInstance (T := "tuple") (b := false) hty tup_nodict ?_)
      simp only [Bool.false_eq_true, if_false]
      refine wpAny_bind (wpAny_specialOf hty tup_getitem ?_)
      refine wpAny_pure ?_
      simp only [Bool.not_true, Bool.false_eq_true, if_false]
      refine wpAny_bind (PyProof.Rows.len_tuple ht hz (wpAny_bind (wpAny_of_eq (a := some ((vs.size : Nat) : Int)) (by rfl) (wpAny_bind ?_))))
      change wpAny _ _ (newObj (.type "reversed") (.fields #[Value.ref T, rawInt ((vs.size : Int) - 1)])) _ _ _
      exact wpAny_newObj_type (wpAny_pure ⟨_, rfl, k _⟩))
theorem rslot_init : Slot "reversed" "__init__" "object.__init__" :=
  .of (owner := "object") (n := "__init__") (by rw [typeLookup_type, builtinLookup_eq_fast]; kernel_rfl) (by decide +kernel) (by decide +kernel) (by decide +kernel) (by first | exact .inl (by decide +kernel) | exact .inr (by decide +kernel)) (by rw [isSubtype_type]; kernel_rfl)
theorem rslot_next : Slot "reversed" "__next__" "reversed.__next__" :=
  .of (owner := "reversed") (n := "__next__") (by rw [typeLookup_type, builtinLookup_eq_fast]; kernel_rfl) (by decide +kernel) (by decide +kernel) (by decide +kernel) (by first | exact .inl (by decide +kernel) | exact .inr (by decide +kernel)) (by rw [isSubtype_type]; kernel_rfl)
theorem rslot_iter : Slot "reversed" "__iter__" "reversed.__iter__" :=
  .of (owner := "reversed") (n := "__iter__") (by rw [typeLookup_type, builtinLookup_eq_fast]; kernel_rfl) (by decide +kernel) (by decide +kernel) (by decide +kernel) (by first | exact .inl (by decide +kernel) | exact .inr (by decide +kernel)) (by rw [isSubtype_type]; kernel_rfl)
theorem rentry_next : entryFor table "reversed.__next__" = some Builtin.«reversed.__next__» := entryFor_of_tree (by kernel_rfl)
theorem rentry_iter : entryFor table "reversed.__iter__" = some Builtin.«dict_keyiterator.__iter__» :=
  entryFor_alias (id' := "dict_keyiterator.__iter__") (by kernel_rfl) (by first | rfl | decide +kernel | (unfold String.splitOn; simp +decide [String.splitOnAux])) (by decide +kernel) (by kernel_rfl)
theorem rargs_next (a : Value) : argsOk "reversed.__next__" ⟨[a], []⟩ := by unfold argsOk; kernel_rfl
theorem rargs_iter (a : Value) : argsOk "reversed.__iter__" ⟨[a], []⟩ := by unfold argsOk; kernel_rfl
theorem called_rev : TypeCalled "reversed" "reversed.__new__" "object.__init__" :=
  ⟨by decide +kernel, by decide +kernel, ⟨_, _, F.mro_reversed⟩, F.made_reversed, by decide +kernel, F.sub_reversed_self, rslot_init⟩
theorem call_revT {T : Addr} {vs : Array Value} {Q : Value → Shared → Prop} (ht : s.heap.IsTuple T vs) (hz : (vs.size : Int) < 2 ^ 63)
    (k : ∀ g tk, IsRevT g s.heap.objs.size T ((vs.size : Int) - 1) → (∀ b o, s.heap.get? b = some o → g.get? b = some o) → Q (.ref s.heap.objs.size) { s with heap := g, toks := tk }) :
    wpAny (model prog w) A (call (.type "reversed") [.ref T]) Q E s := by
  refine callType_new called_rev (by decide) (F.typeCall_reversed_1 _) (F.newCall_reversed_1 _) (fun obj => F.args_object_init_2 obj _) F.entry_reversed_new (rev_made T vs) ⟨ht, hz, fun tk => ?_⟩
  have g1 : (s.heap.push { cls := .type "reversed", data := .fields #[.ref T, rawInt ((vs.size : Int) - 1)] }).get? s.heap.objs.size = some _ := Heap.get?_push_size _ rfl
  exact ⟨⟨_, g1, rfl⟩, k _ _ g1 fun b o e => Heap.get?_push_of_some _ e⟩
theorem rev_iter {z T : Addr} {i : Int} {Q : Value → Shared → Prop} (hz : IsRevT s.heap z T i) (h : Q (.ref z) s) : wpAny (model prog w) A (pyIter (.ref z)) Q E s := by
  have hT : s.TypeIs (.ref z) "reversed" := ⟨_, hz, rfl⟩
  refine wpAny_pyIter_slot hT rslot_iter (wpAny_call_entry rslot_iter hT rentry_iter (by
    show wpAny _ _ (ret (.ref z)) _ _ s
    exact wpAny_pure ⟨_, rfl, "reversed", _, hT, rslot_next.lookup, h⟩) (rargs_iter _))
theorem rev_next {z T : Addr} {i : Nat} {vs : Array Value} {x : Value} {Q : Option Value → Shared → Prop} (hz : IsRevT s.heap z T (i : Int)) (ht : s.heap.IsTuple T vs) (hx : vs[i]? = some x) (hsz : (vs.size : Int) < 2 ^ 62)
    (k : ∀ g tk, IsRevT g z T ((i : Int) - 1) → Heap.SameBut z s.heap g → Q (some x) { s with heap := g, toks := tk }) : wpAny (model prog w) A (pyNext (.ref z)) Q E s := by
  have hty : s.TypeIs (.ref z) "reversed" := ⟨_, hz, rfl⟩
  have htT : s.TypeIs (.ref T) "tuple" := let ⟨o, h1, h2, _⟩ := ht; ⟨o, h1, h2⟩
  have hi : i < vs.size := (Array.getElem?_eq_some_iff.mp hx).1
  unfold pyNext
  refine wpAny_bind (wpAny_attempt (wpAny_callSpecial?_slot (name := Str.ofString "__next__") hty rslot_next (wpAny_call_entry rslot_next hty rentry_next (by
    unfold Builtin.«reversed.__next__»
    refine wpAny_bind (wpAny_of_eq (a := (Value.ref z, [])) rfl ?_)
    change wpAny _ _ (field (.ref z) 0 >>= _) _ _ _
    refine wpAny_bind (wpAny_field hz rfl (x := .ref T) rfl ?_)
    change wpAny _ _ (field (.ref z) 1 >>= _) _ _ _
    refine wpAny_bind (wpAny_field hz rfl (x := rawInt (i : Int)) rfl ?_)
    change wpAny _ _ (if (i : Int) < 0 then _ else _) _ _ _
    rw [if_neg (by omega)]
    refine wpAny_bind (wpAny_specialOf htT tup_getitem ?_)
    simp only [Option.isNone_some, Bool.false_eq_true, if_false]
    refine wpAny_bind (wpAny_mkInt (wpAny_bind (wpAny_attempt ?_)))
    refine PyProof.Rows.getItem_tuple (s := { s with toks := s.toks + 1 }) ht (by omega) (by omega) (j := i) (seqIndex_of (by omega) (by omega)) hx ?_
    change wpAny _ _ (field (.ref z) 1 >>= _) _ _ _
    refine wpAny_bind (wpAny_field hz rfl (x := rawInt (i : Int)) rfl ?_)
    refine wpAny_bind (wpAny_setField_rec (s := { s with toks := s.toks + 1 }) hz (by simp) fun g g1 g2 => wpAny_pure ⟨_, rfl, wpAny_pure (k g _ g1 g2)⟩)) (rargs_next _))))
theorem rev_end {z T : Addr} {i : Int} {Q : Option Value → Shared → Prop} (hd : A.handled = none) (hz : IsRevT s.heap z T i) (hi : i < 0) (k : ∀ g, Heap.ExtBut z s.heap g → Q none { s with heap := g }) : wpAny (model prog w) A (pyNext (.ref z)) Q E s := by
  have hty : s.TypeIs (.ref z) "reversed" := ⟨_, hz, rfl⟩
  unfold pyNext
  refine wpAny_bind (wpAny_attempt (wpAny_callSpecial?_slot (name := Str.ofString "__next__") hty rslot_next (wpAny_call_entry rslot_next hty rentry_next (by
    unfold Builtin.«reversed.__next__»
    refine wpAny_bind (wpAny_of_eq (a := (Value.ref z, [])) rfl ?_)
    change wpAny _ _ (field (.ref z) 0 >>= _) _ _ _
    refine wpAny_bind (wpAny_field hz rfl (x := .ref T) rfl ?_)
    change wpAny _ _ (field (.ref z) 1 >>= _) _ _ _
    refine wpAny_bind (wpAny_field hz rfl (x := rawInt i) rfl ?_)
    change wpAny _ _ (if i < 0 then _ else _) _ _ _
    rw [if_pos hi]
    refine wpAny_bind (wpAny_rule (wpAny_bind ?_))
    change wpAny _ _ (setField (.ref z) 1 (rawInt (-1)) >>= fun _ => setField (.ref z) 0 .none) _ _ _
    refine wpAny_bind (wpAny_setField_rec hz (by simp) fun g1 z1 s1 => ?_)
    refine wpAny_setField_rec z1 (by simp) fun g2 z2 s2 => ?_
    first
    | change wpAny _ _ (newExc (.type "StopIteration") [] >>= _) _ _ _
    | (refine wpAny_bind ?_; change wpAny _ _ (newExc (.type "StopIteration") [] >>= _) _ _ _)
    refine wpAny_bind ?_
    simp only [newExc, newTuple]
    refine wpAny_bind (wpAny_newObj_type ?_ (by size_fits))
    refine wpAny_bind (m := firstArgMember _ _) (wpAny_of_eq (a := Value.none) (by first | rfl | (simp only [firstArgMember]; rfl)) ?_)
    refine wpAny_newObj_type ?_ (by size_fits)
    (simp only [raiseNew]; refine wpAny_bind (wpAny_handled ?_))
    first | rw [show A.in1.handled = none from hd] | rw [hd]
    refine wpAny_bind (wpAny_pure (wpAny_throw ?_))
    refine wpAny_bind (wpAny_isInstance (T := "StopIteration") (b := true) ⟨_, Heap.get?_push_size _ rfl, rfl⟩ isSubtype_stop ?_)
    exact wpAny_pure (k _ fun b o hb e => Heap.get?_push_of_some _ (Heap.get?_push_of_some _ (s2.extBut _ _ hb (s1.extBut _ _ hb e))))) (rargs_next _))))
end
end PySem
namespace L2
open PySem PySem.Spec PyProof.Rows
section
variable {X : Cx} {K : PySem.W.Frag}
theorem boot_enum' : bootBuiltins "enumerate" = some (.type "enumerate") := by decide +kernel
noncomputable def Itv (K : PySem.W.Frag) (a : Addr) (n : Nat) : It :=
  ⟨fun i H => ∃ xs x, SqT K H a xs ∧ xs.length = n ∧ i < n ∧ xs[n - 1 - i]? = some x,
   fun i H v H' => H' = H ∧ ∀ xs, SqT K H a xs → xs[n - 1 - i]? = some v,
   fun i H => n ≤ i⟩
theorem turn_revT {P : Program} {w : World} {K : PySem.W.Frag} {tg : Expr} (a z : Addr) (n : Nat) :
    Turn P w K tg (Itv K a n) [z] z (fun i h => IsRevT h z a ((n : Int) - 1 - i)) where
  mem := by simp
  obj := fun i h st c hc => by
    rw [List.mem_singleton.mp hc]
    exact ⟨_, st, fun v z => by cases z⟩
  keep := fun i h h' st k => k z (by simp) _ st
  item := by
    intro X hP hw hK hc i pins s σ H E In hf st hg
    subst hP hw hK
    obtain ⟨xs, x, hq, hn, hi, hx⟩ := hg
    obtain ⟨its, rv, p, hz⟩ := In.tuple hq
    obtain ⟨u, hu, ru⟩ := rv.get hx
    have hl := rv.length
    have h63 : sizeLine = 16777216 := rfl
    have e1 : (n : Int) - 1 - i = ((n - 1 - i : Nat) : Int) := by omega
    rw [e1] at st
    obtain ⟨f0, f1, f2, f3, f4, f5⟩ := hf z (by simp)
    refine rev_next st (show s.heap.IsTuple a its.toArray from p) (x := u) (by simpa using hu) (by simp only [List.size_toArray]; omega) fun g tk g1 g2 => ?_
    have I1 : Inv X pins σ H { s with heap := g, toks := tk } := In.turned (t' := tk) (fun b o hb e => (g2.2 b hb).trans e) f0 f1 f3 f4 f5
    refine ⟨u, rfl, go_of (s := { s with heap := g, toks := tk }) g1 rfl rfl (by decide) ⟨x, H, I1, ru, ⟨rfl, fun ys hy => by rw [In.tuple_inj hy hq]; exact hx⟩, ?_, fun b hb => (hf b hb).1⟩⟩
    have e2 : ((n - 1 - i : Nat) : Int) - 1 = (n : Int) - 1 - ((i + 1 : Nat) : Int) := by omega
    rw [← e2]
    exact g1
  done := by
    intro X hP hw hK hc i pins s σ H E In hf st hg
    subst hP hw hK
    have hg : n ≤ i := hg
    obtain ⟨f0, f1, f2, f3, f4, f5⟩ := hf z (by simp)
    exact rev_end (In.ok.hd hc) st (by omega) fun g hk => ⟨rfl, In.turned (t' := s.toks) (fun b o hb e => hk b o hb e) f0 f1 f3 f4 f5⟩
  self := fun _ _ _ _ _ st h => rev_iter st h
noncomputable def iV (K : PySem.W.Frag) (ta : TA) : TI := fun σ H R => ta σ H fun vs H1 => ∃ a, vs = [.ref a] ∧ ∃ xs, H1 a = some (.tup xs) ∧ R (Itv K a xs.length) H1
theorem boot_rev' : bootBuiltins "reversed" = some (.type "reversed") := by decide +kernel
theorem pi_revT {e1 tg : Expr} {ta : TA} {p pos : Pos} (hK : X.K = K) (hg : Gl X "reversed") (hm : X.mg "reversed" = none) (ha : PA X [e1] ta) (hs : starEach [e1] X.env = [(false, eval e1 X.env)] := by rfl) :
    PI X tg (.Call (.Name "reversed" p) [e1] [] pos) (iV K ta) := by
  subst hK
  intro pins s σ H R I h
  refine Call_ (ld_blt I hg hm boot_rev' (PyProof.Rows.callWith_type1 (thn (ha pos pins s σ H _ I h) fun us s1 ⟨vs, H1, I1, r1, q1⟩ => ?_) (by rw [hs]; rfl) rfl))
  obtain ⟨a, e, xs, hxs, q⟩ := q1
  subst e
  obtain ⟨u, rfl, ru⟩ := vals1 r1
  cases ru
  obtain ⟨its, rv, pl, hz⟩ := I1.tuple (SqT.of hxs)
  have hl := rv.length
  have h63 := line63
  refine call_revT (show s1.heap.IsTuple a its.toArray from pl) (by simp only [List.size_toArray]; omega) fun g tk gr kg => ?_
  simp only [List.size_toArray] at gr
  rw [← hl] at gr
  have hfr : H1 s1.heap.objs.size = none := I1.hok.fresh (Nat.le_refl _)
  refine rev_iter (s := { s1 with heap := g, toks := tk }) gr ⟨s1.heap.objs.size, [s1.heap.objs.size], _, _, H1, rfl, I1.kept (t' := tk) kg, turn_revT a s1.heap.objs.size xs.length, by simpa using gr, fun c hc => ?_, q⟩
  rw [List.mem_singleton.mp hc]
  exact I1.fpOk (Nat.le_refl _) hfr
theorem wlk_rev {a : Addr} {xs : List V} : Wlk (Itv K a xs.length) xs.reverse (fun H => SqT K H a xs) :=
  ⟨fun i H h hi => by
    have hi : i < xs.length := by simpa using hi
    exact ⟨xs, xs[xs.length - 1 - i], h, rfl, hi, by simp⟩, fun i H x H' h hi y => ⟨by
    have hi : i < xs.length := by simpa using hi
    rw [List.getElem?_reverse hi]; exact y.2 xs h, y.1⟩, fun i H h hi => (by simpa using hi : xs.length ≤ i)⟩
end
end L2
set_option Elab.async false
set_option linter.all false
set_option maxRecDepth 100000
namespace PySem
open Sem (wp)
section
variable {M : Model} {A : Around} {E : Value → Shared → Prop} {s : Shared}
end
end PySem
namespace L2
open PySem PySem.Spec PyProof.Rows
section
variable {X : Cx}
end
end L2
set_option Elab.async false
set_option linter.all false
set_option maxRecDepth 100000
namespace PySem.W
open PySem PySem.Calls PyProof.Rows
noncomputable def KasT.All {α : Type} (n : Nat) (P : α → Prop) : KasT α → Prop
  | .ret a => P a
  | .ask i j k => i < n ∧ j < n ∧ ∀ b, (k b).All n P
theorem KasT.All.bind {α β : Type} {n : Nat} {P : α → Prop} {R : β → Prop} {f : α → KasT β} : ∀ {t : KasT α}, t.All n P → (∀ a, P a → (f a).All n R) → (t.bind f).All n R
  | .ret a, h, hf => hf a h
  | .ask i j k, h, hf => ⟨h.1, h.2.1, fun b => KasT.All.bind (h.2.2 b) hf⟩
theorem KasT.All.wp {α : Type} {n : Nat} {P : α → Prop} {Q : α → Shared → Prop} {s : Shared} {cmp : Nat → Nat → (Bool → Shared → Prop) → Shared → Prop}
    (hc : ∀ i j C, i < n → j < n → (∀ b, C b s) → cmp i j C s) (hq : ∀ a, P a → Q a s) : ∀ {t : KasT α}, t.All n P → t.kasWp cmp Q s
  | .ret a, h => hq a h
  | .ask i j k, h => hc i j _ h.1 h.2.1 fun b => KasT.All.wp hc hq (h.2.2 b)
noncomputable def PermR (n : Nat) (p : Array Nat) : Prop := p.toList.Perm (List.range n)
theorem PermR.lt {n : Nat} {p : Array Nat} (h : PermR n p) (hn : 0 < n) (i : Nat) : p.getD i 0 < n := by
  by_cases hi : i < p.size
  · have e : p.getD i 0 = p[i] := by simp [Array.getD, hi]
    rw [e]
    have : p[i] ∈ p.toList := by simp
    exact List.mem_range.mp (h.mem_iff.mp this)
  · have e : p.getD i 0 = 0 := by simp [Array.getD, hi]
    rw [e]; exact hn
theorem PermR.rev {n : Nat} {p : Array Nat} (h : PermR n p) (i j : Nat) : PermR n (kas_rev p i j) := (Array.perm_iff_toList_perm.mp (mirror_perm p i j _)).trans h
theorem PermR.bub {n : Nat} {p : Array Nat} (h : PermR n p) (i j : Nat) : PermR n (bubble p i j) := (Array.perm_iff_toList_perm.mp (bubble_perm p i j)).trans h
section
variable {n : Nat} (hn : 0 < n)
include hn
theorem kas_asc_all {p : Array Nat} (h : PermR n p) : ∀ (f m : Nat), (kas_asc p f m).All n fun _ => True
  | 0, m => trivial
  | f + 1, m => ⟨h.lt hn _, h.lt hn _, fun b => by cases b <;> simp <;> first | trivial | exact kas_asc_all h f (m + 1)⟩
theorem kas_desc_all : ∀ (f : Nat) (p : Array Nat) (m q : Nat), PermR n p → (kas_desc f p m q).All n fun r => PermR n r.1
  | 0, p, m, q, h => h
  | f + 1, p, m, q, h => by
    refine ⟨h.lt hn _, h.lt hn _, fun b => ?_⟩
    cases b with
    | true =>
      simp only [if_true]
      split
      · exact kas_desc_all f _ _ _ (h.rev _ _)
      · exact kas_desc_all f _ _ _ h
    | false =>
      simp only [Bool.false_eq_true, if_false]
      refine ⟨h.lt hn _, h.lt hn _, fun d => ?_⟩
      cases d with
      | true => simp only [if_true]; exact h
      | false => simp only [Bool.false_eq_true, if_false]; exact kas_desc_all f _ _ _ h
theorem kas_tail3_all {p : Array Nat} {m k : Nat} (h : PermR n p) : (kas_tail3 m k p).All n fun r => PermR n r.2 :=
  (kas_asc_all hn (h.rev 0 m) _ _).bind fun _ _ => h.rev 0 m
theorem kas_descPart_all {p : Array Nat} {m k : Nat} (h : PermR n p) : (kas_descPart m k p).All n fun r => PermR n r.2 := by
  refine (kas_desc_all hn _ p _ _ h).bind fun r hr => ?_
  split
  · exact kas_tail3_all hn (PermR.rev hr _ _)
  · exact kas_tail3_all hn hr
theorem kas_count_all {p : Array Nat} {k : Nat} (h : PermR n p) : (kas_count k p).All n fun r => PermR n r.2 := by
  refine (kas_asc_all hn h _ _).bind fun m _ => ?_
  split
  · exact h
  · split
    · refine ⟨h.lt hn _, h.lt hn _, fun b => ?_⟩
      cases b with
      | true => simp only [if_true]; exact h
      | false => simp only [Bool.false_eq_true, if_false]; exact kas_descPart_all hn (h.rev _ _)
    · exact kas_descPart_all hn h
theorem kas_place_all {p : Array Nat} {k : Nat} (h : PermR n p) : ∀ (f l r : Nat), (kas_place p k f l r).All n fun _ => True
  | 0, l, r => trivial
  | f + 1, l, r => by
    unfold kas_place
    split
    · trivial
    · refine ⟨h.lt hn _, h.lt hn _, fun b => ?_⟩
      cases b with
      | true => simp only [if_true]; exact kas_place_all h f _ _
      | false => simp only [Bool.false_eq_true, if_false]; exact kas_place_all h f _ _
theorem kas_bin_all : ∀ (f : Nat) (p : Array Nat) (k : Nat), PermR n p → (kas_bin f p k).All n (PermR n)
  | 0, p, k, h => h
  | f + 1, p, k, h => (kas_place_all hn h _ _ _).bind fun l _ => kas_bin_all f _ _ (h.bub _ _)
theorem kas_sort_all : (kas_sort n).All n (PermR n) := by
  refine (kas_count_all hn (p := List.toArray (List.range n)) (by show (List.range n).toArray.toList.Perm _; simp)).bind fun r hr => ?_
  split
  · exact kas_bin_all hn _ _ _ hr
  · exact hr
end
theorem permR_items {vs : List Value} {p : Array Nat} (h : PermR vs.length p) : (p.toList.map fun i => vs.getD i Value.none).Perm vs := by
  have e : ((List.range vs.length).map fun i => vs.getD i Value.none) = vs := by
    apply List.ext_getElem? 
    intro i
    by_cases hi : i < vs.length
    · simp [hi]
    · simp [hi]
  have := h.map fun i => vs.getD i Value.none
  rwa [e] at this
section
variable {prog : Program} {w : World} {A : Around} {E : Value → Shared → Prop} {s : Shared}
theorem list_sort_some {a : Addr} {vs : List Value} {n : Nat} {κ : SortKind} {P : PySem.Fin → Shared → Prop} (ho : s.heap.get? a = some (seqObj "list" vs.toArray n)) (h64 : vs.length < 64)
    (hk : 2 ≤ vs.length → ∀ (h' : Heap) (Q : SortKind → Shared → Prop), (∀ b o, b ≠ a → s.heap.get? b = some o → h'.get? b = some o) → Q κ { s with heap := h' } → wpAny (model prog w) A (keyKind' vs.toArray) Q (fun _ _ => False) { s with heap := h' })
    (hc : ∀ (h' : Heap) (x y : Value) (Q : Bool → Shared → Prop), (∀ b o, b ≠ a → s.heap.get? b = some o → h'.get? b = some o) → x ∈ vs → y ∈ vs → (∀ b, Q b { s with heap := h' }) → wpAny (model prog w) A (keyLt' κ x y) Q (fun _ _ => False) { s with heap := h' })
    (h : ∀ (out : Array Value), out.toList.Perm vs → P (.done (.ret .none)) { s with heap := sortedHeap s.heap a vs out }) :
    wpAny (model prog w) A (Builtin.«list.sort» ⟨[.ref a], []⟩) P E s := by
  rw [list_sort_plain]
  have ha : a < s.heap.objs.size := Heap.lt_size ho
  refine wpAny_bind (listItems_at ho rfl ?_)
  refine wpAny_bind (listUpdate_at ho rfl ?_ (by rw [List.size_toArray, sizeLine_eq]; omega) (Nat.zero_le _))
  obtain ⟨e1, ho1⟩ : ∃ e1, (s.heap.update a (Obj.mapSeq fun _ => (#[] : Array Value))).get? a = some (seqObj "list" #[] e1) := ⟨_, get?_update_seq ho (fun _ => #[])⟩
  refine wpAny_bind (seqEpoch_at ho1 rfl ?_)
  refine wpAny_bind (wpAny_newTuple ?_ (by show vs.length ≤ _; rw [sizeLine_eq]; omega))
  refine wpAny_bind (wpAny_newList ?_ (Nat.zero_le _))
  refine wpAny_holding ?_
  have ho6 : (((s.heap.update a (Obj.mapSeq fun _ => (#[] : Array Value))).push (seqObj "tuple" vs.toArray 0)).push (seqObj "list" #[] 0)).get? a = some (seqObj "list" #[] e1) := by
    rw [Heap.get?_push_ne _ _ _ (by rw [size_push', Heap.size_update]; exact Nat.ne_of_lt (Nat.lt_succ_of_lt ha)), Heap.get?_push_ne _ _ _ (by rw [Heap.size_update]; exact Nat.ne_of_lt ha)]
    exact ho1
  have hold : ∀ b o, b ≠ a → s.heap.get? b = some o → (((s.heap.update a (Obj.mapSeq fun _ => (#[] : Array Value))).push (seqObj "tuple" vs.toArray 0)).push (seqObj "list" #[] 0)).get? b = some o := fun b o hb e =>
    Heap.get?_push_of_some _ (Heap.get?_push_of_some _ (by rw [Heap.get?_update_ne _ _ _ _ hb]; exact e))
  show wpAny (model prog w) A _ P E { s with heap := ((s.heap.update a (Obj.mapSeq fun _ => (#[] : Array Value))).push (seqObj "tuple" vs.toArray 0)).push (seqObj "list" #[] 0) }
  dsimp only
  by_cases h2 : vs.toArray.size < 2
  · rw [if_pos h2, if_pos h2]
    refine wpAny_bind (wpAny_pure ?_)
    rw [StateT.run_pure]
    refine wpAny_bind (wpAny_pure ?_)
    dsimp only
    refine wpAny_bind (seqEpoch_at ho6 rfl ?_)
    refine wpAny_bind (listUpdate_at ho6 rfl ?_ (hsz2 := by rw [Array.size_map]; show (pairsOf vs).size ≤ _; rw [pairsOf_size, sizeLine_eq]; omega))
    simp only [bne_self_eq_false, Bool.false_eq_true, if_false]
    refine wpAny_pure (h _ ?_)
    have e : (Array.map (fun (x : Value × Value) => x.2) (vs.toArray.zip vs.toArray)).toList = vs := by
      rw [Array.toList_map, Array.toList_zip]
      exact List.map_snd_zip (Nat.le_refl _)
    show (Array.map (fun (x : Value × Value) => x.2) (vs.toArray.zip vs.toArray)).toList.Perm vs
    rw [e]
  · rw [if_neg h2, if_neg h2]
    have h2' : 2 ≤ vs.length := by rw [List.size_toArray] at h2; omega
    refine wpAny_bind (wpAny_mono (hk h2' _ (fun κ' s' => κ' = κ ∧ s' = { s with heap := ((s.heap.update a (Obj.mapSeq fun _ => (#[] : Array Value))).push (seqObj "tuple" vs.toArray 0)).push (seqObj "list" #[] 0) }) hold ⟨rfl, rfl⟩) (fun κ' s0 hk' => ?_) fun _ _ x => x.elim)
    obtain ⟨rfl, rfl⟩ := hk'
    refine wpAny_bind (wpAny_mono (kat_run (ks := vs) (vs := vs) (Q := fun st' s' => ∃ p : Array Nat, p.size = vs.length ∧ arrOf st' = p.map (kas_item (vs.toArray.zip vs.toArray)) ∧ failedOf st' = none ∧ PermR vs.length p ∧ s' = { s with heap := ((s.heap.update a (Obj.mapSeq fun _ => (#[] : Array Value))).push (seqObj "tuple" vs.toArray 0)).push (seqObj "list" #[] 0) })
      (G := fun p s' => PermR vs.length p ∧ s' = { s with heap := ((s.heap.update a (Obj.mapSeq fun _ => (#[] : Array Value))).push (seqObj "tuple" vs.toArray 0)).push (seqObj "list" #[] 0) })
      rfl h2' h64 (fun p' st' s' a1 a2 a3 a4 => ⟨p', a1, a2, a3, a4⟩) (KasT.All.wp (n := vs.length) (P := PermR vs.length) (fun i j C hi hj hC => ?_) (fun p hp => ⟨hp, rfl⟩) (kas_sort_all (by omega)))) ?_ fun _ _ e => e)
    · unfold kas_ask
      have e1 : vs.getD i Value.none ∈ vs := by simp [hi]
      have e2 : vs.getD j Value.none ∈ vs := by simp [hj]
      exact hc _ _ _ _ hold e1 e2 hC
    · rintro ⟨⟨⟩, st'⟩ s' ⟨p, hp, har, hf, hperm, rfl⟩
      dsimp only
      have hout := kat_snds (ks := vs) (vs := vs) rfl har
      have hsz : (List.toArray (p.toList.map fun i => vs.getD i Value.none)).size = vs.length := by rw [List.size_toArray, List.length_map, Array.length_toList, hp]
      rw [hout]
      refine wpAny_bind (seqEpoch_at ho6 rfl ?_)
      refine wpAny_bind (listUpdate_at ho6 rfl ?_ (Nat.zero_le _) (Nat.le_trans (Nat.le_of_eq hsz) (by rw [sizeLine_eq]; omega)))
      rw [hf]
      simp only [bne_self_eq_false, Bool.false_eq_true, if_false]
      exact wpAny_pure (h _ (by simpa using permR_items hperm))
theorem sorted_some {l : Addr} {vs : List Value} {κ : SortKind} {Q : Value → Shared → Prop} (hl : s.heap.IsList l vs.toArray) (h64 : vs.length < 64)
    (hk : 2 ≤ vs.length → ∀ (h' : Heap) (Q : SortKind → Shared → Prop), (∀ b o, s.heap.get? b = some o → h'.get? b = some o) → Q κ { s with heap := h' } → wpAny (model prog w) A.in1.in1 (keyKind' vs.toArray) Q (fun _ _ => False) { s with heap := h' })
    (hc : ∀ (h' : Heap) (x y : Value) (Q : Bool → Shared → Prop), (∀ b o, s.heap.get? b = some o → h'.get? b = some o) → x ∈ vs → y ∈ vs → (∀ b, Q b { s with heap := h' }) → wpAny (model prog w) A.in1.in1 (keyLt' κ x y) Q (fun _ _ => False) { s with heap := h' })
    (h : ∀ (out : Array Value), out.toList.Perm vs → Q (.ref (s.heap.objs.size + 1)) { s with heap := sortedAll s.heap vs out }) :
    wpAny (model prog w) A (call (.builtin "sorted") [.ref l]) Q E s := by
  refine Calls.call_function_entry kind_sorted plain_sorted entry_sorted (args_sorted1 _) ?_
  unfold Builtin.«sorted»
  refine wpAny_bind (m := checkCount "sorted" 1 1 _) (wpAny_pure ?_)
  refine wpAny_bind (collect_list hl ?_ (by rw [sizeLine_eq]; omega))
  refine wpAny_bind (wpAny_newList ?_ (by rw [sizeLine_eq]; omega))
  have hsz : ((s.heap.push (seqObj "list" #[] 0)).update s.heap.objs.size (Obj.mapSeq (· ++ vs.toArray))).objs.size = s.heap.objs.size + 1 := by
    rw [Heap.size_update, size_push']
  have hoL : (((s.heap.push (seqObj "list" #[] 0)).update s.heap.objs.size (Obj.mapSeq (· ++ vs.toArray))).push (seqObj "list" vs.toArray 0)).get? (s.heap.objs.size + 1) = some (seqObj "list" vs.toArray 0) := by
    rw [← hsz]; exact Heap.get?_push_size _ rfl
  have keep : ∀ b o, s.heap.get? b = some o → (((s.heap.push (seqObj "list" #[] 0)).update s.heap.objs.size (Obj.mapSeq (· ++ vs.toArray))).push (seqObj "list" vs.toArray 0)).get? b = some o := fun b o q => by
    have hlt : b < s.heap.objs.size := Heap.lt_size q
    rw [Heap.get?_push_ne _ _ _ (by rw [hsz]; exact Nat.ne_of_lt (Nat.lt_succ_of_lt hlt)), Heap.get?_update_ne _ _ _ _ (Nat.ne_of_lt hlt), Heap.get?_push_ne _ _ _ (Nat.ne_of_lt hlt)]
    exact q
  show wpAny _ _ _ _ _ { s with heap := ((s.heap.push (seqObj "list" #[] 0)).update s.heap.objs.size (Obj.mapSeq (· ++ vs.toArray))).push (seqObj "list" vs.toArray 0) }
  rw [hsz]
  refine wpAny_bind (wpAny_holding (wpAny_call_entry slot_list_sort ⟨_, hoL, rfl⟩ entry_list_sort (list_sort_some (κ := κ) hoL h64 (fun h2 h' Q hold hq => hk h2 h' Q (fun b o e => hold b o (Nat.ne_of_lt (Nat.lt_succ_of_lt (Heap.lt_size e))) (keep b o e)) hq)
    (fun h' x y Q hold hx hy hq => hc h' x y Q (fun b o e => hold b o (Nat.ne_of_lt (Nat.lt_succ_of_lt (Heap.lt_size e))) (keep b o e)) hx hy hq) fun out a1 => ⟨_, rfl, ?_⟩) (args_list_sort _)))
  exact wpAny_pure ⟨_, rfl, h out a1⟩
end
end PySem.W
namespace L2
open PySem PySem.Spec PyProof.Rows
noncomputable def Row3 (h : Heap) (a : Addr) : Prop := ∃ o x y z t1 t2 t3 n, h.get? a = some o ∧ o.cls = .type "tuple" ∧ o.data = .seq #[.str x t1, .str y t2, .int z t3] n
theorem Row3.keep {h h' : Heap} {a : Addr} (r : Row3 h a) (k : ∀ b o, h.get? b = some o → h'.get? b = some o) : Row3 h' a := by
  obtain ⟨o, x, y, z, t1, t2, t3, n, e, c, d⟩ := r
  exact ⟨o, x, y, z, t1, t2, t3, n, k _ _ e, c, d⟩
theorem row3_lt {prog : Program} {w : World} {A : Around} {E : Value → Shared → Prop} {s : Shared} {a b : Addr} {Q : Bool → Shared → Prop} (ra : Row3 s.heap a) (rb : Row3 s.heap b) (h : ∀ c, Q c s) :
    wpAny (model prog w) A (keyLt' (tuples' true) (.ref a) (.ref b)) Q E s := by
  obtain ⟨o, x, y, z, t1, t2, t3, n, e, c, d⟩ := ra
  obtain ⟨o', x', y', z', t1', t2', t3', n', e', c', d'⟩ := rb
  refine PySem.W.kat_lt e d e' d' ?_
  refine PySem.W.kat_cons (wpAny_eqBool_str (PySem.W.kat_go (fun _ => PySem.W.kat_yes ?_) (fun _ => PySem.W.kat_no ?_)))
  · refine PySem.W.kat_cons (wpAny_eqBool_str (PySem.W.kat_go (fun _ => PySem.W.kat_yes ?_) (fun _ => PySem.W.kat_no ?_)))
    · refine PySem.W.kat_cons (wpAny_eqBool_int (PySem.W.kat_go (fun _ => PySem.W.kat_yes (PySem.W.kat_nil (h _))) (fun _ => PySem.W.kat_no ?_)))
      exact PySem.W.kat_one _ _ (lt_int (h _))
    · exact PySem.W.kat_one _ _ (PyProof.Rows.lt_str (h _))
  · exact oneLt_str (h _)
theorem row3_tups {h : Heap} : ∀ {as : List Addr}, (∀ a ∈ as, Row3 h a) → ∃ fs : List Value, fs.length = as.length ∧ PySem.W.KatTups h (as.map Value.ref) fs ∧ ∀ f ∈ fs, ∃ x t, f = .str x t
  | [], _ => ⟨[], rfl, PySem.W.KatTups.nil, fun f hf => by simp at hf⟩
  | a :: as, hr => by
    obtain ⟨fs, hl, ht, hf⟩ := row3_tups (as := as) fun b hb => hr b (List.mem_cons_of_mem _ hb)
    obtain ⟨o, x, y, z, t1, t2, t3, n, e, c, d⟩ := hr a List.mem_cons_self
    refine ⟨.str x t1 :: fs, by simp [hl], PySem.W.KatTups.cons e c d rfl ht, fun f hf' => ?_⟩
    rcases List.mem_cons.mp hf' with q | q
    · exact ⟨x, t1, q⟩
    · exact hf f q
noncomputable def adr : Value → Addr | .ref a => a | _ => 0
theorem refs_perm {as : List Addr} {us : List Value} (h : us.Perm (as.map Value.ref)) : ∃ bs : List Addr, us = bs.map Value.ref ∧ bs.Perm as := by
  refine ⟨us.map adr, ?_, ?_⟩
  · rw [List.map_map]
    have : ∀ u ∈ us, (Value.ref ∘ adr) u = u := fun u hu => by
      obtain ⟨a, _, e⟩ := List.mem_map.mp (h.mem_iff.mp hu)
      rw [← e]; rfl
    rw [List.map_congr_left this]
    simp
  · have := h.map adr
    rw [List.map_map] at this
    have e : (adr ∘ Value.ref) = id := by funext a; rfl
    rwa [e, List.map_id] at this
theorem valsRefs : ∀ (as : List Addr), Vals (as.map V.ref) (as.map Value.ref)
  | [] => .nil
  | a :: as => .cons rfl (valsRefs as)
theorem valsRefs_of : ∀ {as : List Addr} {us : List Value}, Vals (as.map V.ref) us → us = as.map Value.ref
  | [], us, r => by cases r; rfl
  | a :: as, us, r => by
    cases r with
    | cons r1 r2 =>
      have e1 : _ = Value.ref a := r1
      rw [e1, valsRefs_of r2]
      rfl
section
variable {X : Cx}
noncomputable def rSortedR : List V → Hp → VK → Prop := fun xs H Q => ∃ p, xs = [.ref p] ∧ ∃ as : List Addr, H p = some (.lst (as.map V.ref)) ∧ as.length < 64 ∧ (∀ a ∈ as, ∃ x y z, H a = some (.tup [.str x, .str y, .int z])) ∧ ∀ (q : Addr) (bs : List Addr), H q = none → bs.Perm as → Q (.ref q) (upd H q (.lst (bs.map V.ref)))
theorem call_sortedR : CallR X (.builtin "sorted") rSortedR := by
  intro pins s σ H xs us Q I r h
  obtain ⟨p, rfl, as, hp, hl, hr, q⟩ := h
  obtain ⟨u, rfl, ru⟩ := vals1 r
  cases ru
  obtain ⟨its, rv, pl, hz⟩ := I.list (SqL.of hp)
  have hits := valsRefs_of rv
  subst hits
  have rows : ∀ a ∈ as, Row3 s.heap a := fun a ha => by
    obtain ⟨x, y, z, e⟩ := hr a ha
    obtain ⟨ws, rw', ⟨o, eo, ec, n, ed⟩, _⟩ := I.tuple (SqT.of e)
    cases rw' with
    | cons r1 r2 => cases r2 with
      | cons r2 r3 => cases r3 with
        | cons r3 r4 =>
          cases r4
          obtain ⟨t1, rfl⟩ := r1
          obtain ⟨t2, rfl⟩ := r2
          obtain ⟨t3, rfl⟩ := r3
          exact ⟨o, x, y, z, t1, t2, t3, n, eo, ec, ed⟩
  refine PySem.W.sorted_some (κ := tuples' true) pl.isList (by simpa using hl) (fun h2 h' Q' hk hq => ?_) (fun h' x y Q' hk hx hy hq => ?_) fun out hperm => ?_
  · obtain ⟨fs, hfl, ht, hf⟩ := row3_tups (h := h') fun a ha => (rows a ha).keep hk
    refine PySem.W.kat_kind (T := .type "str") ht (by rw [hfl]; rw [List.length_map] at h2; omega) (fun v hv => ?_) (by decide) hq
    obtain ⟨x, t, rfl⟩ := hf v hv
    exact PySem.W.Looks.of_pure rfl
  · obtain ⟨a, ha, rfl⟩ := List.mem_map.mp hx
    obtain ⟨b, hb, rfl⟩ := List.mem_map.mp hy
    exact row3_lt ((rows a ha).keep hk) ((rows b hb).keep hk) hq
  · obtain ⟨e, he⟩ := sortedAll_at s.heap (as.map Value.ref) out
    obtain ⟨bs, hbs, hbp⟩ := refs_perm hperm
    refine ⟨.ref (s.heap.objs.size + 1), _, I.laid (a := s.heap.objs.size + 1) (o := .lst (bs.map V.ref)) (t' := s.toks) (fun b o e => sortedAll_old e) (Nat.le_succ _) ⟨?_, out.toList, e, by rw [hbs]; exact valsRefs bs, ?_⟩, rfl, q _ bs (I.hok.fresh (Nat.le_succ _)) hbp⟩
    · rw [List.length_map, hbp.length_eq]; exact Nat.le_of_lt (small1000 (by omega))
    · rw [he]
end
end L2
set_option Elab.async false
set_option linter.all false
set_option maxRecDepth 100000
namespace L2
open PySem PySem.Spec PyProof.Rows
section
variable {X : Cx}
noncomputable def AlikeD (K : PySem.W.Frag) (H : Hp) (l kvs : List (Key × V)) : Prop := ∀ p ∈ l, ∃ v, valV kvs p.1 = some v ∧ ∃ d, Rep K H p.2 d ∧ Rep K H v d ∧ d.canLay0 = true ∧ d.depth ≤ 50 ∧ PyData.eqv d d = true
theorem hits_alike {pins : List (Addr × Obj)} {σ : St} {H : Hp} {s : Shared} {A : Around} {kvs : List (Key × V)} {vb : List (Key × Value)} (I : Inv X pins σ H s) (hu : A.units + 50 < cLine) (rb : KV kvs vb) : ∀ {l : List (Key × V)} {la : List (Key × Value)}, KV l la → AlikeD X.K H l kvs → PySem.W.KeqHits A s vb la true := by
  intro l la r
  unfold KV at r
  induction r with
  | nil => intro _; exact .nil
  | @cons p q ps qs h _ ih =>
    intro hall
    obtain ⟨k, v⟩ := p
    obtain ⟨k', u⟩ := q
    obtain ⟨e, ru⟩ := h
    dsimp only at e ru
    subst e
    obtain ⟨v', h1, d, r1, r2, hl, hd, he⟩ := hall (k, v) (by simp)
    dsimp only at h1 r1
    obtain ⟨y, hy, ry⟩ := RelO.some_of (v := v') (o := valueAt vb k) (by rw [← h1]; exact rb.val k)
    obtain ⟨as, g1⟩ := I.reads r1 ru
    obtain ⟨bs, g2⟩ := I.reads r2 ry
    have ea : SeqAt.EqAt A s u y true := by
      have := SeqAt.eqAt_reads d d A s u y as bs g1 g2 hl hl (by rw [Nat.min_self]; omega)
      rwa [he] at this
    exact PySem.W.KeqHits.hit (e := true) (b := true) hy ea (ih fun p hp => hall p (by simp [hp]))
noncomputable def rEqDA (K : PySem.W.Frag) (b : Bool) : R2 := fun x y H Q => ∃ a, x = .ref a ∧ ∃ c, y = .ref c ∧ ∃ l kvs, H a = some (.dK l) ∧ H c = some (.dK kvs) ∧ l.length = kvs.length ∧ AlikeD K H l kvs ∧ Q (.bl b) H
theorem op_eqDA (hu : X.A.units + 102 < cLine) : OpR X (compareOp .Eq) (rEqDA X.K true) := by
  intro pins s σ H x y v u Q I rx ry h
  obtain ⟨a, rfl, b, rfl, l, kvs, ha, hb, hlen, hal, q⟩ := h
  cases rx
  cases ry
  obtain ⟨z, hd, vs, rel, dd⟩ := dk_of I.hok ha
  obtain ⟨z2, hd2, vs2, rel2, dd2⟩ := dk_of I.hok hb
  refine PySem.W.keq_eq (r := true) hd hd2 dd dd2 (by omega) (fun _ => hits_alike I (by show X.A.units + 1 + 50 < cLine; omega) rel2 rel hal) ?_
  rw [← rel.length, ← rel2.length, hlen, beq_self_eq_true]
  exact ⟨.bl true, H, I, rfl, q⟩
theorem op_neDA (hu : X.A.units + 102 < cLine) : OpR X (compareOp .NotEq) (rEqDA X.K false) := by
  intro pins s σ H x y v u Q I rx ry h
  obtain ⟨a, rfl, b, rfl, l, kvs, ha, hb, hlen, hal, q⟩ := h
  cases rx
  cases ry
  obtain ⟨z, hd, vs, rel, dd⟩ := dk_of I.hok ha
  obtain ⟨z2, hd2, vs2, rel2, dd2⟩ := dk_of I.hok hb
  refine PySem.W.keq_ne (r := true) hd hd2 dd dd2 (by omega) (fun _ => hits_alike I (by show X.A.units + 1 + 50 < cLine; omega) rel2 rel hal) ?_
  rw [← rel.length, ← rel2.length, hlen, beq_self_eq_true]
  exact ⟨.bl false, H, I, rfl, q⟩
noncomputable def rNeNA (K : PySem.W.Frag) : R2 := fun x y H Q => (x = .non ∧ y = .non ∧ Q (.bl false) H) ∨ rEqDA K false x y H Q
theorem op_neNA (hu : X.A.units + 102 < cLine) : OpR X (compareOp .NotEq) (rNeNA X.K) := by
  intro pins s σ H x y v u Q I rx ry h
  rcases h with ⟨rfl, rfl, q⟩ | h
  · exact op_neD (by omega) pins s σ H _ _ v u Q I rx ry ⟨.none, .none, .non, .non, rfl, rfl, by decide, q⟩
  · exact op_neDA hu pins s σ H x y v u Q I rx ry h
noncomputable abbrev L3 := Str × Str × Int
noncomputable def l3V (x : L3) : List V := [.str x.1, .str x.2.1, .int x.2.2]
noncomputable def l3D (x : L3) : PyData := .tuple [.str x.1, .str x.2.1, .int x.2.2]
noncomputable def Rows3 (H : Hp) (vs : List V) (ls : List L3) : Prop := ∃ as : List (Addr × L3), vs = as.map (fun x => V.ref x.1) ∧ ls = as.map (·.2) ∧ ∀ x ∈ as, H x.1 = some (.tup (l3V x.2))
theorem Rows3.nil {H : Hp} : Rows3 H [] [] := ⟨[], rfl, rfl, fun x hx => by simp at hx⟩
theorem Rows3.keep {H H' : Hp} {vs : List V} {ls : List L3} (h : Rows3 H vs ls) (k : ∀ a xs, H a = some (.tup xs) → H' a = some (.tup xs)) : Rows3 H' vs ls := by
  obtain ⟨as, h1, h2, h3⟩ := h
  exact ⟨as, h1, h2, fun x hx => k _ _ (h3 x hx)⟩
theorem Rows3.snoc {H : Hp} {vs : List V} {ls : List L3} {t : Addr} {l : L3} (h : Rows3 H vs ls) (ht : H t = some (.tup (l3V l))) : Rows3 H (vs ++ [.ref t]) (ls ++ [l]) := by
  obtain ⟨as, h1, h2, h3⟩ := h
  refine ⟨as ++ [(t, l)], by simp [h1], by simp [h2], fun x hx => ?_⟩
  rcases List.mem_append.mp hx with z | z
  · exact h3 x z
  · rw [List.mem_singleton.mp z]; exact ht
theorem Rows3.length {H : Hp} {vs : List V} {ls : List L3} (h : Rows3 H vs ls) : vs.length = ls.length := by
  obtain ⟨as, h1, h2, h3⟩ := h
  rw [h1, h2, List.length_map, List.length_map]
theorem Rows3.get {H : Hp} {vs : List V} {ls : List L3} (h : Rows3 H vs ls) {i : Nat} {v : V} (hv : vs[i]? = some v) : ∃ t l, v = .ref t ∧ ls[i]? = some l ∧ H t = some (.tup (l3V l)) := by
  obtain ⟨as, h1, h2, h3⟩ := h
  rw [h1, List.getElem?_map] at hv
  cases e : as[i]? with
  | none => rw [e] at hv; cases hv
  | some x =>
    rw [e] at hv
    cases hv
    exact ⟨x.1, x.2, rfl, by rw [h2, List.getElem?_map, e]; rfl, h3 x (List.mem_of_getElem? e)⟩
theorem Rows3.perm {H : Hp} {ls : List L3} {as bs : List Addr} (h : Rows3 H (as.map V.ref) ls) (hp : bs.Perm as) : ∃ ms, ms.Perm ls ∧ Rows3 H (bs.map V.ref) ms := by
  obtain ⟨xs, h1, h2, h3⟩ := h
  have e : as = xs.map (·.1) := by
    have := congrArg (List.map fun v => match v with | V.ref a => a | _ => 0) h1
    simpa [Function.comp_def] using this
  have key : ∀ {bs cs : List Addr}, bs.Perm cs → ∀ xs : List (Addr × L3), cs = xs.map (·.1) → ∃ ys : List (Addr × L3), ys.Perm xs ∧ bs = ys.map (·.1) := by
    intro bs cs hp
    induction hp with
    | nil => intro xs e; exact ⟨[], by cases xs with | nil => exact .refl _ | cons x xs => simp at e, rfl⟩
    | cons a _ ih =>
      intro xs e
      cases xs with
      | nil => simp at e
      | cons x xs =>
        rw [List.map_cons] at e
        injection e with e1 e2
        obtain ⟨ys, y1, y2⟩ := ih xs e2
        exact ⟨x :: ys, y1.cons x, by rw [List.map_cons, y2, e1]⟩
    | swap a b l =>
      intro xs e
      match xs, e with
      | x :: y :: xs, e =>
        simp only [List.map_cons, List.cons.injEq] at e
        exact ⟨y :: x :: xs, .swap _ _ _, by simp only [List.map_cons]; rw [e.1, e.2.1, e.2.2]⟩
      | [x], e => simp at e
      | [], e => simp at e
    | trans _ _ i1 i2 =>
      intro xs e
      obtain ⟨ys, y1, y2⟩ := i2 xs e
      obtain ⟨zs, z1, z2⟩ := i1 ys y2
      exact ⟨zs, z1.trans y1, z2⟩
  obtain ⟨ys, y1, y2⟩ := key hp xs e
  exact ⟨ys.map (·.2), by rw [h2]; exact y1.map _, ys, by rw [y2, List.map_map]; rfl, rfl, fun x hx => h3 x (y1.mem_iff.mp hx)⟩
theorem Rows3.reps {K : PySem.W.Frag} {H : Hp} {vs : List V} {ls : List L3} (h : Rows3 H vs ls) : Reps K H vs (ls.map l3D) := by
  obtain ⟨as, rfl, rfl, h3⟩ := h
  induction as with
  | nil => exact .nil
  | cons x as ih => exact .cons (.tup (.of (h3 x (by simp))) (.cons (.str _) (.cons (.str _) (.cons (.int _) .nil)))) (ih fun y hy => h3 y (by simp [hy]))
noncomputable def okL3 (x : L3) : Prop := PyData.strOk x.1 = true ∧ PyData.strOk x.2.1 = true
theorem lay_l3 {x : L3} (h : okL3 x) : (l3D x).canLay0 = true := by simp [l3D, PyData.canLay0, PyData.canLayAll0]; exact h
theorem lay_l3s : ∀ ls : List L3, (∀ x ∈ ls, okL3 x) → PyData.canLayAll0 (ls.map l3D) = true
  | [], _ => rfl
  | x :: ls, h => by
    rw [List.map_cons]
    unfold PyData.canLayAll0
    rw [lay_l3s ls fun y hy => h y (List.mem_cons_of_mem _ hy), lay_l3 (h x List.mem_cons_self)]
    rfl
theorem depth_l3 (x : L3) : (l3D x).depth ≤ 1 := by simp [l3D, PyData.depth, PyData.depthAll]
end
end L2
set_option Elab.async false
set_option linter.all false
set_option maxRecDepth 100000
namespace L2
open PySem PySem.Spec PyProof.Rows
noncomputable def RisingT (t : SetTable) : Prop := t.place.toList.Pairwise (· < ·)
noncomputable def kOf (e : Int × Value) : Int := match e.2 with | .int i _ => i | _ => 0
noncomputable def SetW (w : World) (a : Addr) (L : List Int) (h : Heap) : Prop := ∃ o es ep t, h.get? a = some o ∧ o.ExactSet ∧ o.data = .set es ep t ∧ (∀ e ∈ es.toList, ∃ i tk, e = (hashInt i, Value.int i tk)) ∧ (es.toList.map kOf).Perm L ∧
  es.size < scanBound ∧ t.fits es.size = true ∧ RisingT t ∧ t.led = !w.params.followText "set-order"
section
variable {prog : Program} {w : World} {A : Around} {E : Value → Shared → Prop} {s : Shared}
end
theorem SetW.keep {w : World} {a : Addr} {L : List Int} {h h' : Heap} (x : SetW w a L h) (k : ∀ o, h.get? a = some o → h'.get? a = some o) : SetW w a L h' := by
  obtain ⟨o, es, ep, t, ho, r⟩ := x
  exact ⟨o, es, ep, t, k o ho, r⟩
section
variable {prog : Program} {w : World} {A : Around} {R : Result → Shared → Prop} {I : Addr} {fp wr : List Addr} {G : Array GenState → Array GenState → Prop} {n : Nat} {P : Nat → Value → Prop} {St : Nat → Shared → Prop}
end
end L2
namespace PySem
open L2 PyProof.Rows
section
variable {prog : Program} {w : World} {A : Around} {E : Value → Shared → Prop} {s : Shared}
end
end PySem
set_option Elab.async false
set_option linter.all false
set_option maxRecDepth 100000
namespace PySem
open L2 PyProof.Rows PySem.Calls
section
variable {prog : Program} {w : World} {A : Around} {E : Value → Shared → Prop} {s : Shared} {a : Addr} {o : Obj} {es : Array (Int × Value)} {ep : Nat} {t : SetTable}
noncomputable def SetIt (h : Heap) (I : Addr) (f : Value) (i : Nat) (a : Addr) (n ep : Nat) : Prop := ∃ o, h.get? I = some o ∧ o.cls = .type "set_iterator" ∧ o.data = .fields #[f, .int i 0, .ref a, .int n 0, .int ep 0]
end
end PySem
set_option Elab.async false
set_option linter.all false
set_option maxRecDepth 100000
namespace PySem
open L2 PyProof.Rows PySem.Calls
section
variable {prog : Program} {w : World} {A : Around} {E : Value → Shared → Prop} {s : Shared} {a : Addr} {o : Obj} {es : Array (Int × Value)} {ep : Nat} {t : SetTable}
theorem SetIt.keep {h h' : Heap} {I : Addr} {f : Value} {i n : Nat} (x : SetIt h I f i a n ep) (k : ∀ o, h.get? I = some o → h'.get? I = some o) : SetIt h' I f i a n ep := let ⟨o, ho, r⟩ := x; ⟨o, k o ho, r⟩
end
end PySem
set_option Elab.async false
set_option linter.all false
set_option maxRecDepth 100000
namespace PySem
open L2 PyProof.Rows PySem.Calls
section
variable {prog : Program} {w : World} {A : Around} {E : Value → Shared → Prop} {s : Shared} {a : Addr} {o : Obj} {es : Array (Int × Value)} {ep : Nat} {t : SetTable} {L : List Int}
end
end PySem
namespace L2
open PySem PySem.Spec PyProof.Rows
section
variable {X : Cx}
variable {e : Expr} {te : TE} {tk : TO} {stp : Expr} {p2 pos : Pos}
end
end L2
set_option Elab.async false
set_option linter.all false
set_option maxRecDepth 100000
namespace PySem
open L2 PyProof.Rows PySem.Calls
section
variable {prog : Program} {w : World} {A : Around} {E : Value → Shared → Prop} {s : Shared}
end
end PySem
set_option Elab.async false
set_option linter.all false
set_option maxRecDepth 100000
namespace L2
open PySem PySem.Spec PyProof.Rows
section
variable {P : Program} {w : World} {H : Hp} {h : Heap} {a : Addr} {o : Obj} {ks : List (Option Int)}
end
section
variable {X : Cx} {oe ie : Expr} {value : Expr} {pos pos' : Pos} {td ty tv : TE}
end
end L2
set_option Elab.async false
set_option linter.all false
set_option maxRecDepth 100000
namespace L2
open PySem PySem.Spec PyProof.Rows
section
variable {X : Cx} {pins : List (Addr × Obj)} {σ : St} {H : Hp} {s : Shared} {a b : Addr} {A : Around} {E : Value → Shared → Prop}
end
end L2
namespace L2
open PySem PySem.Spec PyProof.Rows
section
variable {X : Cx} {P : Program} {w : World} {oe ie value e l tg : Expr} {pos pos' : Pos} {td ty tv te tl : TE}
end
end L2
namespace L2
open PySem PySem.Spec PyProof.Rows
end L2
set_option Elab.async false
set_option linter.all false
set_option maxRecDepth 100000
namespace L2
open PySem PySem.Spec PyProof.Rows
section
variable {X : Cx} {K : PySem.W.Frag}
noncomputable def Itel (K : PySem.W.Frag) (a : Addr) : It :=
  ⟨fun i H => ∃ xs x, SqL K H a xs ∧ xs[i]? = some x,
   fun i H v H' => ∃ t x, H t = none ∧ v = .ref t ∧ H' = upd H t (.tup [.int (i : Nat), x]) ∧ ∀ xs, SqL K H a xs → xs[i]? = some x,
   fun i H => ∃ xs, SqL K H a xs ∧ xs.length = i⟩
theorem turn_enumL {P : Program} {w : World} {K : PySem.W.Frag} {es : List Expr} {x1} {pos : Pos} (a e J : Addr) (hne : e ≠ J) :
    Turn P w K (.Tuple es x1 pos) (Itel K a) [e, J] e (fun i h => (∃ old, IsEnum h e J i old) ∧ h.IsListIter J a i) where
  mem := by simp
  obj := fun i h st c hc => by
    obtain ⟨⟨old, he⟩, oi, i1, i2, i3⟩ := st
    simp only [List.mem_cons, List.not_mem_nil, or_false] at hc
    rcases hc with rfl | rfl
    · exact ⟨_, he, fun v z => by cases z⟩
    · exact ⟨oi, i1, fun v z => by rw [i3] at z; cases z⟩
  keep := fun i h h' st k => by
    obtain ⟨⟨old, he⟩, hi⟩ := st
    exact ⟨⟨old, k e (by simp) _ he⟩, hi.at fun o q => k J (by simp) o q⟩
  item := by
    intro X hP hw hK hc i pins s σ H E In hf st hg
    subst hP hw hK
    obtain ⟨xs, x, hq, hx⟩ := hg
    obtain ⟨its, rv, p, hz⟩ := In.list hq
    obtain ⟨u, hu, ru⟩ := rv.get hx
    obtain ⟨⟨old, he⟩, hi⟩ := st
    have pl : s.heap.IsList a its.toArray := p.isList
    have hJa : a ≠ J := fun z => by
      obtain ⟨o1, q1, q2, _⟩ := hi
      obtain ⟨o2, q3, q4, _⟩ := id pl
      rw [← z, q3] at q1
      cases q1
      rw [q4] at q2
      exact absurd q2 (by simp)
    have hea : e ∉ [J, a] := fun hm => by
      rcases List.mem_cons.mp hm with z | z
      · exact hne z
      · have z := List.mem_singleton.mp z
        obtain ⟨o2, q3, q4, _⟩ := id pl
        rw [← z, he] at q3
        cases q3
        exact absurd q4 (by simp)
    have hil : i < its.toArray.size := by simpa using (List.getElem?_eq_some_iff.mp hu).1
    refine wpAny_pyNext_enum_itemD (Draws.list (A := X.A.in1) (show X.A.in1.handled = none from In.ok.hd hc) J a hJa its.toArray) he ⟨hi, pl⟩ hil hne hea fun v g tk hv ho hst ht hs hk => ?_
    have evu : v = u := by
      simp only [List.getElem?_toArray] at hv
      rw [hu] at hv
      exact (Option.some.inj hv).symm
    subst evu
    refine ⟨_, rfl, wpAny_letOwnedTupleGo_enum (s := { s with heap := g, toks := tk + 1 }) ho fun g2 he2 s2 => ?_⟩
    have hel : e < s.heap.objs.size := Heap.lt_size he
    have hJl : J < s.heap.objs.size := by obtain ⟨o1, q1, _⟩ := hi; exact Heap.lt_size q1
    have hnew : H s.heap.objs.size = none := In.hok.fresh (Nat.le_refl _)
    have I2 : Inv X pins σ (upd H s.heap.objs.size (.tup [.int (i : Nat), x])) { s with heap := g2, toks := tk + 1 } := In.turnedNew (t' := tk + 1) (fp := [e, J]) (fun c o hc q => by
        simp only [List.mem_cons, List.not_mem_nil, or_false, not_or] at hc
        exact (s2.2 c hc.1).trans (hk c o hc.1 hc.2 q)) hf (Nat.le_refl _)
      ⟨by show 2 ≤ sizeLine; decide, [.int i tk, v], .cons ⟨tk, rfl⟩ (.cons ru .nil), ⟨_, (s2.2 _ (Nat.ne_of_gt hel)).trans ht, rfl, _, rfl⟩⟩
    refine ⟨.ref s.heap.objs.size, _, I2, rfl, ⟨_, x, hnew, rfl, rfl, fun zs hzs => by rw [In.list_inj hzs hq]; exact hx⟩, ⟨⟨v, by simpa using he2⟩, hst.1.at fun o q => (s2.2 J hne.symm).trans q⟩, fun c hc => ?_⟩
    simp only [List.mem_cons, List.not_mem_nil, or_false] at hc
    rcases hc with rfl | rfl
    · rw [upd_ne (Nat.ne_of_lt hel)]; exact (hf _ (by simp)).1
    · rw [upd_ne (Nat.ne_of_lt hJl)]; exact (hf _ (by simp)).1
  done := by
    intro X hP hw hK hc i pins s σ H E In hf st hg
    subst hP hw hK
    obtain ⟨xs, hq, hx⟩ := hg
    obtain ⟨its, rv, p, hz⟩ := In.list hq
    obtain ⟨⟨old, he⟩, hi⟩ := st
    have pl : s.heap.IsList a its.toArray := p.isList
    have hJa : a ≠ J := fun z => by
      obtain ⟨o1, q1, q2, _⟩ := hi
      obtain ⟨o2, q3, q4, _⟩ := id pl
      rw [← z, q3] at q1
      cases q1
      rw [q4] at q2
      exact absurd q2 (by simp)
    have hn : its.toArray.size = i := by have := rv.length; simp; omega
    subst hn
    refine wpAny_pyNext_enum_endD (Draws.list (A := X.A.in1) (show X.A.in1.handled = none from In.ok.hd hc) J a hJa its.toArray) he ⟨hi, pl⟩ fun g hk => ⟨rfl, In.turnedL (t' := s.toks) (fp := [e, J]) (fun c o hc q => hk c o (fun z => hc (by simp [z])) q) hf⟩
  self := fun _ _ _ _ _ st h => by
    obtain ⟨⟨old, he⟩, _⟩ := st
    exact wpAny_pyIter_enum he h
noncomputable def iEl (K : PySem.W.Frag) (ta : TA) : TI := fun σ H R => ta σ H fun vs H1 => ∃ a, vs = [.ref a] ∧ ∃ xs, H1 a = some (.lst xs) ∧ R (Itel K a) H1
theorem pi_enumL {e1 : Expr} {ta : TA} {p pos pos' : Pos} {es : List Expr} {x1} (hK : X.K = K) (hg : Gl X "enumerate") (hm : X.mg "enumerate" = none) (ha : PA X [e1] ta) (hs : starEach [e1] X.env = [(false, eval e1 X.env)] := by rfl) :
    PI X (.Tuple es x1 pos') (.Call (.Name "enumerate" p) [e1] [] pos) (iEl K ta) := by
  subst hK
  intro pins s σ H R I h
  refine Call_ (ld_blt I hg hm boot_enum' (PyProof.Rows.callWith_type1 (thn (ha pos pins s σ H _ I h) fun us s1 ⟨vs, H1, I1, r1, q1⟩ => ?_) (by rw [hs]; rfl) rfl))
  obtain ⟨a, e, xs, hxs, q⟩ := q1
  subst e
  obtain ⟨u, rfl, ru⟩ := vals1 r1
  cases ru
  obtain ⟨its, rv, pl, hz⟩ := I1.list (SqL.of hxs)
  refine call_enumerate_list (show s1.heap.IsList a its.toArray from pl.isList) fun g he hJ _ kg => ?_
  generalize he1 : s1.heap.objs.size + 1 = e at he
  generalize hj1 : s1.heap.objs.size = J at he hJ
  have hne : e ≠ J := by omega
  have l1 : s1.heap.objs.size ≤ e := by omega
  have l2 : s1.heap.objs.size ≤ J := by omega
  refine wpAny_pyIter_enum (s := { s1 with heap := g }) he ⟨e, [e, J], _, _, H1, rfl, I1.kept (t' := s1.toks) kg, turn_enumL a e J hne, ⟨⟨_, he⟩, hJ⟩, fun c hc => ?_, q⟩
  simp only [List.mem_cons, List.not_mem_nil, or_false] at hc
  rcases hc with rfl | rfl
  · exact I1.fpOk l1 (I1.hok.fresh l1)
  · exact I1.fpOk l2 (I1.hok.fresh l2)
theorem for_egl {a : Addr} {xs : List V} {g : TG} {tb : TS} {D : Ends} {σ : St} {H : Hp} (Pv : Nat → St → Hp → Prop) (h0 : Pv 0 σ H) (hl : ∀ i σ H, Pv i σ H → SqL K H a xs)
    (hs : ∀ (i : Nat) (x : V) (σ : St) (H : Hp) (t : Addr), xs[i]? = some x → Pv i σ H → H t = none → g (.ref t) σ (upd H t (.tup [.int (i : Nat), x])) fun σ2 H2 => tb { D with nx := Pv (i + 1), ct := Pv (i + 1), bk := D.nx } σ2 H2)
    (hd : ∀ σ H, Pv xs.length σ H → D.nx σ H) : ForG (Itel K a) g tb D σ H := by
  refine ⟨fun i m σ H => Pv i σ H ∧ i ≤ xs.length ∧ m = xs.length - i, ⟨_, h0, Nat.zero_le _, rfl⟩, ?_⟩
  rintro i m σ H ⟨hp, hi, rfl⟩
  have sa := hl i σ H hp
  by_cases hin : i = xs.length
  · left
    subst hin
    exact ⟨⟨xs, sa, rfl⟩, hd σ H hp⟩
  · right
    have h1 : i < xs.length := by omega
    refine ⟨⟨xs, xs[i], sa, by simp [h1]⟩, fun σ' H' => Pv (i + 1) σ' H', fun σ' H' h => ⟨_, by omega, h, by omega, rfl⟩, ?_⟩
    rintro v H' ⟨t, x, ht, rfl, rfl, e1⟩
    exact hs i x σ H t (e1 xs sa) hp ht
end
end L2
set_option Elab.async false
set_option linter.all false
set_option maxRecDepth 100000
namespace PySem
section
variable {prog : Program} {w : World} {K : Type} [DecidableEq K] {knd : HeapKind prog w K} {A : Around} {E : Value → Shared → Prop} {s : Shared} {d a : Addr} {k : K} {xs : List (K × Addr × Value)}
noncomputable def withoutH (xs : List (K × Addr × Value)) (k : K) : List (K × Addr × Value) := xs.filter fun x => decide (x.1 ≠ k)
theorem withoutH_not {k : K} : ∀ {xs : List (K × Addr × Value)}, ¬ k ∈ xs.map (·.1) → withoutH xs k = xs := fun {xs} h => List.filter_eq_self.mpr fun x hx => decide_eq_true fun e => h (List.mem_map.mpr ⟨x, hx, e⟩)
theorem eraseIdx_mp {α β : Type} (f : α → β) : ∀ (l : List α) (j : Nat), (l.map f).eraseIdx j = (l.eraseIdx j).map f
  | [], _ => rfl
  | _ :: _, 0 => rfl
  | x :: r, j + 1 => by show f x :: (r.map f).eraseIdx j = f x :: (r.eraseIdx j).map f; rw [eraseIdx_mp f r j]
theorem eraseIdx_keys {k : K} {p : Addr × Value} : ∀ {xs : List (K × Addr × Value)} {j : Nat}, (xs.map (·.1)).Nodup → xs[j]? = some (k, p) → xs.eraseIdx j = withoutH xs k
  | [], j, _, h => by simp at h
  | x :: r, 0, hn, h => by
    simp only [List.getElem?_cons_zero, Option.some.injEq] at h
    subst h
    rw [List.map_cons, List.nodup_cons] at hn
    show r = _
    unfold withoutH
    rw [List.filter_cons, if_neg (by simp)]
    exact (withoutH_not hn.1).symm
  | x :: r, j + 1, hn, h => by
    rw [List.map_cons, List.nodup_cons] at hn
    simp only [List.getElem?_cons_succ] at h
    have hm : k ∈ r.map (·.1) := List.mem_map.mpr ⟨_, List.mem_of_getElem? h, rfl⟩
    have hne : x.1 ≠ k := fun e => hn.1 (e ▸ hm)
    show x :: r.eraseIdx j = _
    rw [eraseIdx_keys hn.2 h]
    unfold withoutH
    rw [List.filter_cons, if_pos (by simpa using hne)]
theorem wpAny_dictSetDefault_heap {dflt : Value} {Q : Value → Shared → Prop} (hu : knd.room A) (hkey : knd.is s.heap k a) (hm : s.heap.DictOfH knd d xs)
    (h1 : ∀ p, atKey xs k = some p → Q p.2 { s with toks := s.toks + knd.draws k })
    (h2 : atKey xs k = none → ∀ h', h'.DictOfH knd d (storedH xs k a dflt) → Heap.SameBut d s.heap h' → Q dflt { s with heap := h', toks := s.toks + knd.draws k })
    (hsz : xs.length ≤ sizeLine) : wpAny (model prog w) A (dictSetDefault d (.ref a) dflt) Q E s := by
  obtain ⟨o, es, ep, ho, hc, hd, he, his, hn⟩ := hm
  unfold dictSetDefault
  try with_reducible refine wpAny_holding ?_
  refine wpAny_bind (knd.pyHash hu hkey (wpAny_bind (wpAny_dictFind_heap (s := { s with toks := s.toks + knd.draws k }) hu hkey ho hd he his hn ?_ ?_)))
  · intro hno
    have hnot : k ∉ xs.map (·.1) := not_mem_keys_of_get hno
    refine wpAny_bind (wpAny_rule (wpAny_bind (wpAny_updateDictKeys (hz := by have e := size_of_entries he; omega) (s := { s with toks := s.toks + knd.draws k }) ho hd (wpAny_pure (h2 (atKey_none_of_get hno) _ ⟨_, _, ep + 1, Heap.get?_update_self _ ho (Obj.isFreed_of_dict (Obj.data_mapDictKeys hd _)),
      hc.mapDictKeys _, Obj.data_mapDictKeys hd _, ?_, ?_, ?_⟩ (Heap.SameBut.update ..))))))
    · rw [storedH_new (atKey_none_of_get hno)]
      simp [he, entryOfKey]
    · rw [storedH_new (atKey_none_of_get hno)]
      intro x hx
      rcases List.mem_append.mp hx with hx | hx
      · exact knd.keeps (his x hx) ho hd (Heap.SameBut.update ..)
      · simp only [List.mem_singleton] at hx
        subst hx
        exact knd.keeps hkey ho hd (Heap.SameBut.update ..)
    · rw [storedH_new (atKey_none_of_get hno)]
      rw [List.map_append, List.nodup_append]
      refine ⟨hn, by simp, ?_⟩
      intro x hx y hy
      simp only [List.map_cons, List.map_nil, List.mem_singleton] at hy
      subst hy
      exact fun e => hnot (e ▸ hx)
  · intro j p hj
    refine wpAny_bind (wpAny_dictEntries (s := { s with toks := s.toks + knd.draws k }) ho hd ?_)
    rw [entry_at he j, hj]
    exact wpAny_bind (wpAny_rule (wpAny_pure (h1 p (atKey_of_get hn hj))))
theorem wpAny_takeOut_heap {Q : Option DictEntry → Shared → Prop} (hu : knd.room A) (hkey : knd.is s.heap k a) (hm : s.heap.DictOfH knd d xs)
    (h1 : ∀ p, atKey xs k = some p → ∀ h', h'.DictOfH knd d (withoutH xs k) → Heap.SameBut d s.heap h' → Q (some ⟨knd.hash k, .ref p.1, p.2⟩) { s with heap := h', toks := s.toks + knd.draws k })
    (h2 : atKey xs k = none → Q none { s with toks := s.toks + knd.draws k })
    (hsz : xs.length ≤ sizeLine) : wpAny (model prog w) A (Builtin.Dict.takeOut d (.ref a)) Q E s := by
  obtain ⟨o, es, ep, ho, hc, hd, he, his, hn⟩ := hm
  unfold Builtin.Dict.takeOut
  try with_reducible refine wpAny_holding ?_
  refine wpAny_bind (knd.pyHash hu hkey (wpAny_bind (wpAny_dictFind_heap (s := { s with toks := s.toks + knd.draws k }) hu hkey ho hd he his hn ?_ ?_)))
  · intro hno
    exact wpAny_pure (h2 (atKey_none_of_get hno))
  · intro j p hj
    refine wpAny_bind (wpAny_dictEntries (s := { s with toks := s.toks + knd.draws k }) ho hd ?_)
    rw [entry_at he j, hj]
    refine wpAny_bind (wpAny_updateDictKeys (hz := by have e := size_of_entries he; omega) (s := { s with toks := s.toks + knd.draws k }) ho hd (wpAny_pure (h1 p (atKey_of_get hn hj) _ ⟨_, _, ep + 1, Heap.get?_update_self _ ho (Obj.isFreed_of_dict (Obj.data_mapDictKeys hd _)),
      hc.mapDictKeys _, Obj.data_mapDictKeys hd _, ?_, ?_, ?_⟩ (Heap.SameBut.update ..))))
    · rw [← eraseIdx_keys hn hj]
      have : (es.eraseIdxIfInBounds j).toList = es.toList.eraseIdx j := by simp
      rw [this, he, eraseIdx_mp]
    · intro x hx
      exact knd.keeps (his x (List.mem_filter.mp hx).1) ho hd (Heap.SameBut.update ..)
    · exact hn.sublist ((List.filter_sublist).map _)
end
section
variable {prog : Program} {w : World} {K : Type} [DecidableEq K] (knd : HeapKind prog w K) (d a : Addr)
theorem meetsH_dict_setdefault (hd : (d == sysModules) = false) (dflt : Value) :
    MeetsIn prog w (Builtin.«dict.setdefault» ⟨[.ref d, .ref a, dflt], []⟩) (fun A R s => knd.room A.in1 ∧ ∃ k xs, knd.is s.heap k a ∧ s.heap.DictOfH knd d xs ∧ xs.length ≤ sizeLine ∧
      (∀ p, atKey xs k = some p → R (.ok (.ret p.2)) { s with toks := s.toks + knd.draws k }) ∧
      (atKey xs k = none → ∀ h', h'.DictOfH knd d (storedH xs k a dflt) → Heap.SameBut d s.heap h' → R (.ok (.ret dflt)) { s with heap := h', toks := s.toks + knd.draws k })) :=
  .of_wp fun A R s ⟨hu, k, xs, hkey, hm, hz, h1, h2⟩ => by
    unfold Builtin.«dict.setdefault»
    refine wpAny_bind ?_
    unfold Builtin.Dict.keyAndDefault
    refine wpAny_bind (wpAny_notOrdered_dict hm.typeIs ?_)
    show wpAny _ _ (pure (d, Value.ref a, some dflt)) _ _ s
    refine wpAny_pure ?_
    show wpAny _ _ (if (d == sysModules) = true then _ else (dictSetDefault d (.ref a) dflt >>= _)) _ _ s
    rw [if_neg (by rw [hd]; exact Bool.false_ne_true)]
    exact wpAny_bind (wpAny_dictSetDefault_heap (hsz := hz) hu hkey hm (fun p hp => wpAny_pure ⟨p.2, rfl, h1 p hp⟩) fun hn h' hm' hs' => wpAny_pure ⟨dflt, rfl, h2 hn h' hm' hs'⟩)
theorem meetsH_dict_pop (hd : (d == sysModules) = false) (dflt : Value) :
    MeetsIn prog w (Builtin.«dict.pop» ⟨[.ref d, .ref a, dflt], []⟩) (fun A R s => knd.room A.in1 ∧ ∃ k xs, knd.is s.heap k a ∧ s.heap.DictOfH knd d xs ∧ xs.length ≤ sizeLine ∧
      (∀ p, atKey xs k = some p → ∀ h' tk, h'.DictOfH knd d (withoutH xs k) → Heap.SameBut d s.heap h' → R (.ok (.ret p.2)) { s with heap := h', toks := tk }) ∧
      (atKey xs k = none → ∀ tk, R (.ok (.ret dflt)) { s with toks := tk })) :=
  .of_wp fun A R s ⟨hu, k, xs, hkey, hm, hz, h1, h2⟩ => by
    unfold Builtin.«dict.pop»
    refine wpAny_bind ?_
    unfold Builtin.Dict.keyAndDefault
    refine wpAny_bind (wpAny_notOrdered_dict hm.typeIs ?_)
    show wpAny _ _ (pure (d, Value.ref a, some dflt)) _ _ s
    refine wpAny_pure ?_
    obtain ⟨o, es, ep, ho, hc, hda, he, his, hn⟩ := id hm
    simp only [show (keyPart (Value.ref a)).isSome = false from rfl, Bool.false_eq_true, if_false]
    refine wpAny_bind (wpAny_dictEntries ho hda (wpAny_bind (wpAny_pure ?_)))
    by_cases hemp : es.isEmpty = true
    · simp only [hemp, if_true]
      have hx : xs = [] := by
        have e1 := size_of_entries he
        have e2 : es.size = 0 := by simpa using hemp
        exact List.eq_nil_of_length_eq_zero (by omega)
      refine wpAny_bind (wpAny_rule (wpAny_bind (wpAny_pure ?_)))
      simp only [Option.isNone_none, if_true]
      refine wpAny_bind (wpAny_missedRemoval_other hd ?_)
      exact wpAny_bind (wpAny_rule (wpAny_pure ⟨dflt, rfl, h2 (by subst hx; rfl) _⟩))
    · simp only [hemp, if_false]
      refine wpAny_bind (wpAny_takeOut_heap (hsz := hz) hu hkey hm (fun p hp h' hm' hs' => ?_) fun hno => ?_)
      · simp only [Option.isNone_some, Bool.false_eq_true, if_false]
        exact wpAny_bind (wpAny_letGo (wpAny_pure ⟨p.2, rfl, h1 p hp h' _ hm' hs'⟩))
      · simp only [Option.isNone_none, if_true]
        refine wpAny_bind (wpAny_missedRemoval_other hd ?_)
        exact wpAny_bind (wpAny_rule (wpAny_pure ⟨dflt, rfl, h2 hno _⟩))
end
end PySem
namespace L2
open PySem PySem.Spec PyProof.Rows
theorem KT.drop {H : Hp} {kvs : List (List Key × V)} {xs : List (List Key × Addr × Value)} (r : KT H kvs xs) (k : List Key) : KT H (dropK kvs k) (withoutH xs k) := by
  unfold KT at r ⊢
  unfold dropK withoutH
  induction r with
  | nil => exact .nil
  | @cons p q ps qs h t ih =>
    rw [List.filter_cons, List.filter_cons]
    by_cases e : p.1 = k
    · rw [if_neg (by simp [e]), if_neg (by simp [← h.1, e])]; exact ih
    · rw [if_pos (by simp [e]), if_pos (by simp [← h.1, e])]; exact .cons h ih
section
variable {X : Cx} {pins : List (Addr × Obj)} {σ : St} {H : Hp} {s : Shared} {a b : Addr} {kvs : List (List Key × V)} {k : List Key} {z : V} {r : Value} {A : Around} {E : Value → Shared → Prop}
theorem dt_write {h' : Heap} {t' : Nat} {kvs' : List (List Key × V)} {ys : List (List Key × Addr × Value)} (I : Inv X pins σ H s) (e : H a = some (.dT kvs)) (hs : Heap.SameBut a s.heap h') (hd : (a == sysModules) = false) (hl : kvs'.length ≤ sizeLine) (rel : KT H kvs' ys) (dd : h'.DictOfH (tupleKind (mixKind X.prog X.w)) a ys) :
    Inv X pins σ (upd H a (.dT kvs')) { s with heap := h', toks := t' } := by
  obtain ⟨q, es, ep, hq, h2, h3, h4, _, h5⟩ := dd
  refine d_write I (by rw [e]; exact True.intro) hs ⟨q, hq⟩ ⟨hl, hd, _, rel.keeps fun c ys ec => ?_, q, es, ep, hq, h2, h3, h4, h5⟩
  rw [upd_ne (ne_of ec e (fun z => nomatch z))]
  exact ec
theorem d_setDefT {Q : Value → Shared → Prop} (hu : A.units + 1 < cLine) (I : Inv X pins σ H s) (e : H a = some (.dT kvs)) (eb : H b = some (.tup (k.map kV))) (hl : kvs.length < sizeLine) (rz : RelV z r)
    (h1 : ∀ v w' s', valV kvs k = some v → Inv X pins σ H s' → RelV v w' → Q w' s') (h2 : valV kvs k = none → ∀ s', Inv X pins σ (upd H a (.dT (putK kvs k z))) s' → Q r s') :
    wpAny (model X.prog X.w) A (call (.builtin "dict.setdefault") [.ref a, .ref b, r]) Q E s := by
  obtain ⟨z0, hd, xs, rel, dd⟩ := dt_of I.hok e
  have hz : xs.length ≤ sizeLine := by rw [← Paired.length rel]; exact z0
  refine call_meetsIn PySem.F.slot_dict_setdefault dd.typeIs PySem.F.entry_dict_setdefault (PySem.F.args_dict_setdefault_3 _ _ _) (meetsH_dict_setdefault (tupleKind (mixKind X.prog X.w)) a b hd r) ⟨tupleKind_room_in1 hu, k, xs, key_of I.hok eb, dd, hz, fun p hp => ?_, fun hn h' dd' hs => ?_⟩
  · have q := rel.val k
    rw [hp] at q
    cases l : valV kvs k with
    | none => rw [l] at q; exact absurd q (by intro z; cases z)
    | some v => rw [l] at q; exact h1 v _ _ l (I.tok _) q
  · have q := rel.val k
    rw [hn] at q
    have l : valV kvs k = none := by
      cases l : valV kvs k with
      | none => rfl
      | some v => rw [l] at q; exact absurd q (by intro z; cases z)
    exact h2 l _ (dt_write I e hs hd (by have := length_putK kvs k z; omega) (rel.put k eb rz) dd')
theorem d_popT {Q : Value → Shared → Prop} (hu : A.units + 1 < cLine) (I : Inv X pins σ H s) (e : H a = some (.dT kvs)) (eb : H b = some (.tup (k.map kV)))
    (h1 : ∀ v w' s', valV kvs k = some v → Inv X pins σ (upd H a (.dT (dropK kvs k))) s' → RelV v w' → Q w' s') (h2 : valV kvs k = none → ∀ s', Inv X pins σ H s' → Q r s') :
    wpAny (model X.prog X.w) A (call (.builtin "dict.pop") [.ref a, .ref b, r]) Q E s := by
  obtain ⟨z, hd, xs, rel, dd⟩ := dt_of I.hok e
  have hz : xs.length ≤ sizeLine := by rw [← Paired.length rel]; exact z
  refine call_meetsIn PySem.F.slot_dict_pop dd.typeIs PySem.F.entry_dict_pop (PySem.F.args_dict_pop_3 _ _ _) (meetsH_dict_pop (tupleKind (mixKind X.prog X.w)) a b hd r) ⟨tupleKind_room_in1 hu, k, xs, key_of I.hok eb, dd, hz, fun p hp h' tk dd' hs => ?_, fun hn tk => ?_⟩
  · have q := rel.val k
    rw [hp] at q
    cases l : valV kvs k with
    | none => rw [l] at q; exact absurd q (by intro z; cases z)
    | some v => rw [l] at q; exact h1 v _ _ l (dt_write I e hs hd (Nat.le_trans (dropK_le kvs k) z) (rel.drop k) dd') q
  · have q := rel.val k
    rw [hn] at q
    have l : valV kvs k = none := by
      cases l : valV kvs k with
      | none => rfl
      | some v => rw [l] at q; exact absurd q (by intro z; cases z)
    exact h2 l _ (I.tok _)
end
noncomputable def tDSetDT (td ty tx : TE) : TE := fun σ H Q => td σ H fun x H1 => ∃ a, x = .ref a ∧ (∃ kvs, H1 a = some (.dT kvs)) ∧ ty σ H1 fun y H2 => tx σ H2 fun z H3 => ∃ kvs, H3 a = some (.dT kvs) ∧ ∃ b, y = .ref b ∧ ∃ k : List Key, H3 b = some (.tup (k.map kV)) ∧ kvs.length < sizeLine ∧
  (∀ v, valV kvs k = some v → Q v H3) ∧ (valV kvs k = none → Q z (upd H3 a (.dT (putK kvs k z))))
noncomputable def tDPopT (td ty tx : TE) : TE := fun σ H Q => td σ H fun x H1 => ∃ a, x = .ref a ∧ (∃ kvs, H1 a = some (.dT kvs)) ∧ ty σ H1 fun y H2 => tx σ H2 fun z H3 => ∃ kvs, H3 a = some (.dT kvs) ∧ ∃ b, y = .ref b ∧ ∃ k : List Key, H3 b = some (.tup (k.map kV)) ∧
  (∀ v, valV kvs k = some v → Q v (upd H3 a (.dT (dropK kvs k)))) ∧ (valV kvs k = none → Q z H3)
section
variable {X : Cx} {o e f : Expr} {apos cpos : Pos} {td ty tx : TE}
theorem pe_dsetdT (hu : X.A.units + 1 < cLine) (ho : PE X o td) (he : PE X e ty) (hf : PE X f tx) (m : M2 X o "setdefault" apos e f cpos) : PE X (.Call (.Attribute o "setdefault" apos) [e, f] [] cpos) (tDSetDT td ty tx) := by
  intro pins s σ H Q I h
  refine wpAny_Call_method m.base m.few m.line PySem.F.plainAttrs_dict PySem.F.slot_dict_setdefault PySem.F.type_dict_setdefault (thn (ho pins s σ H _ I h) fun u s1 ⟨x, H1, I1, rx, a, ex, ⟨kv0, d⟩, q1⟩ => ?_)
  subst ex
  obtain rfl : u = Value.ref a := rx
  obtain ⟨t1, t2, _⟩ := isD_at I1 (.inr ⟨_, .inl d⟩)
  refine ⟨t1, t2, ?_⟩
  rw [m.trees]
  refine Calls.callWith_builtin rfl (Calls.evalArgs_plain (Calls.spliced_cons (thn (he pins s1 σ H1 _ I1 q1) fun iv s2 ⟨y, H2, I2, ry, q2⟩ =>
    Calls.spliced_cons (thn (hf pins s2 σ H2 _ I2 q2) fun fv s3 ⟨z, H3, I3, rz, kvs, ea, b, ey, k, eb, hl, q3, q4⟩ => Calls.spliced_nil ?_))))
  subst ey
  obtain rfl : iv = Value.ref b := ry
  exact d_setDefT hu I3 ea eb hl rz (fun v w' s4 l I4 rw' => ⟨v, H3, I4, rw', q3 v l⟩) fun l s4 I4 => ⟨z, _, I4, rz, q4 l⟩
theorem pe_dpopT (hu : X.A.units + 1 < cLine) (ho : PE X o td) (he : PE X e ty) (hf : PE X f tx) (m : M2 X o "pop" apos e f cpos) : PE X (.Call (.Attribute o "pop" apos) [e, f] [] cpos) (tDPopT td ty tx) := by
  intro pins s σ H Q I h
  refine wpAny_Call_method m.base m.few m.line PySem.F.plainAttrs_dict PySem.F.slot_dict_pop PySem.F.type_dict_pop (thn (ho pins s σ H _ I h) fun u s1 ⟨x, H1, I1, rx, a, ex, ⟨kv0, d⟩, q1⟩ => ?_)
  subst ex
  obtain rfl : u = Value.ref a := rx
  obtain ⟨t1, t2, _⟩ := isD_at I1 (.inr ⟨_, .inl d⟩)
  refine ⟨t1, t2, ?_⟩
  rw [m.trees]
  refine Calls.callWith_builtin rfl (Calls.evalArgs_plain (Calls.spliced_cons (thn (he pins s1 σ H1 _ I1 q1) fun iv s2 ⟨y, H2, I2, ry, q2⟩ =>
    Calls.spliced_cons (thn (hf pins s2 σ H2 _ I2 q2) fun fv s3 ⟨z, H3, I3, rz, kvs, ea, b, ey, k, eb, q3, q4⟩ => Calls.spliced_nil ?_))))
  subst ey
  obtain rfl : iv = Value.ref b := ry
  exact d_popT hu I3 ea eb (fun v w' s4 l I4 rw' => ⟨v, _, I4, rw', q3 v l⟩) fun l s4 I4 => ⟨z, H3, I4, rz, q4 l⟩
end
end L2
set_option Elab.async false
set_option linter.all false
set_option maxRecDepth 100000
namespace L2
open PySem PySem.Spec PyProof.Rows
end L2
namespace PySem.SeqAt
open AutoSeq1 (wpAny_loadPart')
open MeetsSeq MeetsSeq2 MeetsSeq3 SeqRoads2
end PySem.SeqAt
namespace L2
open PySem PySem.Spec PyProof.Rows
end L2
namespace L2
open PySem PySem.Spec PyProof.Rows
theorem op_neDK {X : Cx} {K : PySem.W.Frag} (hK : X.K = K) (hu : X.A.units + 100 < cLine) : OpR X (compareOp .NotEq) (rNeD K) := by
  subst hK
  exact op_neD hu
end L2
set_option Elab.async false
set_option linter.all false
set_option maxRecDepth 100000
namespace PySem
open L2 PyProof.Rows PySem.Calls
section
variable {prog : Program} {w : World} {A : Around} {E : Value → Shared → Prop} {s : Shared} {K : Type} [DecidableEq K] {knd : KeyKind prog w K} {d : Addr} {kvs : List (K × Value)} {ep : Nat}
end
end PySem
namespace L2
open PySem PySem.Spec PyProof.Rows
section
variable {X : Cx}
end
end L2
set_option Elab.async false
set_option linter.all false
set_option maxRecDepth 100000
namespace L2
open PySem PySem.Spec PyProof.Rows
section
variable {X : Cx}
noncomputable def RowsD (H : Hp) (l kvs : List (Key × V)) (ra rb : Key → List Int) : Prop := ∀ p ∈ l, ∃ x1 x2, p.2 = .ref x1 ∧ H x1 = some (.tup ((ra p.1).map V.int)) ∧ valV kvs p.1 = some (.ref x2) ∧ H x2 = some (.tup ((rb p.1).map V.int))
theorem hits_rows {pins : List (Addr × Obj)} {σ : St} {H : Hp} {s : Shared} {A : Around} {kvs : List (Key × V)} {vb : List (Key × Value)} {ra rb : Key → List Int} (I : Inv X pins σ H s) (hu : A.units + 50 < cLine) (rl : KV kvs vb) : ∀ {l : List (Key × V)} {la : List (Key × Value)}, KV l la → RowsD H l kvs ra rb → PySem.W.KeqHits A s vb la (l.all fun p => decide (ra p.1 = rb p.1)) := by
  intro l la r
  unfold KV at r
  induction r with
  | nil => intro _; exact .nil
  | @cons p q ps qs h _ ih =>
    intro hall
    obtain ⟨k, v⟩ := p
    obtain ⟨k', u⟩ := q
    obtain ⟨e, ru⟩ := h
    dsimp only at e ru
    subst e
    obtain ⟨x1, x2, e1, t1, e2, t2⟩ := hall (k, v) (by simp)
    dsimp only at e1 t1 e2 t2
    subst e1
    obtain ⟨y, hy, ry⟩ := RelO.some_of (v := .ref x2) (o := valueAt vb k) (by rw [← e2]; exact rl.val k)
    obtain ⟨as, g1⟩ := I.reads (.tup (.of t1) (Reps.ints (ra k))) ru
    obtain ⟨bs, g2⟩ := I.reads (.tup (.of t2) (Reps.ints (rb k))) ry
    have ea : SeqAt.EqAt A s u y (decide (ra k = rb k)) := by
      have := SeqAt.eqAt_reads (dRow (ra k)) (dRow (rb k)) A s u y as bs g1 g2 (lay_row _) (lay_row _) (by
        have h1 := depth_row (ra k)
        have : min (dRow (ra k)).depth (dRow (rb k)).depth ≤ (dRow (ra k)).depth := Nat.min_le_left _ _
        omega)
      rwa [eqv_row] at this
    exact PySem.W.KeqHits.hit hy ea (ih fun p hp => hall p (by simp [hp]))
noncomputable def rNeDG : R2 := fun x y H Q => ∃ a, x = .ref a ∧ ∃ c, y = .ref c ∧ ∃ l kvs, H a = some (.dK l) ∧ H c = some (.dK kvs) ∧ ((l.length ≠ kvs.length ∧ Q (.bl true) H) ∨ (l.length = kvs.length ∧ ∃ ra rb, RowsD H l kvs ra rb ∧ Q (.bl (!l.all fun p => decide (ra p.1 = rb p.1))) H))
theorem op_neDG (hu : X.A.units + 102 < cLine) : OpR X (compareOp .NotEq) rNeDG := by
  intro pins s σ H x y v u Q I rx ry h
  obtain ⟨a, rfl, b, rfl, l, kvs, ha, hb, h⟩ := h
  cases rx
  cases ry
  obtain ⟨z, hd, vs, rel, dd⟩ := dk_of I.hok ha
  obtain ⟨z2, hd2, vs2, rel2, dd2⟩ := dk_of I.hok hb
  rcases h with ⟨hne, q⟩ | ⟨hlen, ra, rb, hr, q⟩
  · refine PySem.W.keq_ne (r := true) hd hd2 dd dd2 (by omega) (fun e => absurd e (by rw [← rel.length, ← rel2.length]; exact hne)) ?_
    rw [← rel.length, ← rel2.length, beq_eq_false_iff_ne.mpr hne]
    exact ⟨.bl true, H, I, rfl, q⟩
  · refine PySem.W.keq_ne hd hd2 dd dd2 (by omega) (fun _ => hits_rows I (by show X.A.units + 1 + 50 < cLine; omega) rel2 rel hr) ?_
    rw [← rel.length, ← rel2.length, hlen, beq_self_eq_true, Bool.true_and]
    exact ⟨.bl _, H, I, rfl, q⟩
end
end L2
set_option Elab.async false
set_option linter.all false
set_option maxRecDepth 100000
namespace PySem.W
open PySem PySem.Spec PyProof.Rows
section
variable {prog : Program} {w : World} {A : Around} {E : Value → Shared → Prop} {s : Shared}
theorem sorted_someT {l : Addr} {vs : List Value} {κ : SortKind} {Q : Value → Shared → Prop} (hl : s.heap.IsTuple l vs.toArray) (h64 : vs.length < 64)
    (hk : 2 ≤ vs.length → ∀ (h' : Heap) (Q : SortKind → Shared → Prop), (∀ b o, s.heap.get? b = some o → h'.get? b = some o) → Q κ { s with heap := h' } → wpAny (model prog w) A.in1.in1 (keyKind' vs.toArray) Q (fun _ _ => False) { s with heap := h' })
    (hc : ∀ (h' : Heap) (x y : Value) (Q : Bool → Shared → Prop), (∀ b o, s.heap.get? b = some o → h'.get? b = some o) → x ∈ vs → y ∈ vs → (∀ b, Q b { s with heap := h' }) → wpAny (model prog w) A.in1.in1 (keyLt' κ x y) Q (fun _ _ => False) { s with heap := h' })
    (h : ∀ (out : Array Value), out.toList.Perm vs → Q (.ref (s.heap.objs.size + 1)) { s with heap := sortedAll s.heap vs out }) :
    wpAny (model prog w) A (call (.builtin "sorted") [.ref l]) Q E s := by
  refine Calls.call_function_entry kind_sorted plain_sorted entry_sorted (args_sorted1 _) ?_
  unfold Builtin.«sorted»
  refine wpAny_bind (m := checkCount "sorted" 1 1 _) (wpAny_pure ?_)
  refine wpAny_bind (collect_tup hl (by omega) ?_)
  refine wpAny_bind (wpAny_newList ?_ (by rw [sizeLine_eq]; omega))
  have hsz : ((s.heap.push (seqObj "list" #[] 0)).update s.heap.objs.size (Obj.mapSeq (· ++ vs.toArray))).objs.size = s.heap.objs.size + 1 := by
    rw [Heap.size_update, size_push']
  have hoL : (((s.heap.push (seqObj "list" #[] 0)).update s.heap.objs.size (Obj.mapSeq (· ++ vs.toArray))).push (seqObj "list" vs.toArray 0)).get? (s.heap.objs.size + 1) = some (seqObj "list" vs.toArray 0) := by
    rw [← hsz]; exact Heap.get?_push_size _ rfl
  have keep : ∀ b o, s.heap.get? b = some o → (((s.heap.push (seqObj "list" #[] 0)).update s.heap.objs.size (Obj.mapSeq (· ++ vs.toArray))).push (seqObj "list" vs.toArray 0)).get? b = some o := fun b o q => by
    have hlt : b < s.heap.objs.size := Heap.lt_size q
    rw [Heap.get?_push_ne _ _ _ (by rw [hsz]; exact Nat.ne_of_lt (Nat.lt_succ_of_lt hlt)), Heap.get?_update_ne _ _ _ _ (Nat.ne_of_lt hlt), Heap.get?_push_ne _ _ _ (Nat.ne_of_lt hlt)]
    exact q
  show wpAny _ _ _ _ _ { s with heap := ((s.heap.push (seqObj "list" #[] 0)).update s.heap.objs.size (Obj.mapSeq (· ++ vs.toArray))).push (seqObj "list" vs.toArray 0) }
  rw [hsz]
  refine wpAny_bind (wpAny_holding (wpAny_call_entry slot_list_sort ⟨_, hoL, rfl⟩ entry_list_sort (list_sort_some (κ := κ) hoL h64 (fun h2 h' Q hold hq => hk h2 h' Q (fun b o e => hold b o (Nat.ne_of_lt (Nat.lt_succ_of_lt (Heap.lt_size e))) (keep b o e)) hq)
    (fun h' x y Q hold hx hy hq => hc h' x y Q (fun b o e => hold b o (Nat.ne_of_lt (Nat.lt_succ_of_lt (Heap.lt_size e))) (keep b o e)) hx hy hq) fun out a1 => ⟨_, rfl, ?_⟩) (args_list_sort _)))
  exact wpAny_pure ⟨_, rfl, h out a1⟩
end
end PySem.W
namespace L2
open PySem PySem.Spec PyProof.Rows
section
variable {X : Cx}
noncomputable def rSortedRT : List V → Hp → VK → Prop := fun xs H Q => ∃ p, xs = [.ref p] ∧ ∃ as : List Addr, H p = some (.tup (as.map V.ref)) ∧ as.length < 64 ∧ (∀ a ∈ as, ∃ x y z, H a = some (.tup [.str x, .str y, .int z])) ∧ ∀ (q : Addr) (bs : List Addr), H q = none → bs.Perm as → Q (.ref q) (upd H q (.lst (bs.map V.ref)))
theorem call_sortedRT : CallR X (.builtin "sorted") rSortedRT := by
  intro pins s σ H xs us Q I r h
  obtain ⟨p, rfl, as, hp, hl, hr, q⟩ := h
  obtain ⟨u, rfl, ru⟩ := vals1 r
  cases ru
  obtain ⟨its, rv, pl, hz⟩ := I.tuple (SqT.of hp)
  have hits := valsRefs_of rv
  subst hits
  have rows : ∀ a ∈ as, Row3 s.heap a := fun a ha => by
    obtain ⟨x, y, z, e⟩ := hr a ha
    obtain ⟨ws, rw', ⟨o, eo, ec, n, ed⟩, _⟩ := I.tuple (SqT.of e)
    cases rw' with
    | cons r1 r2 => cases r2 with
      | cons r2 r3 => cases r3 with
        | cons r3 r4 =>
          cases r4
          obtain ⟨t1, rfl⟩ := r1
          obtain ⟨t2, rfl⟩ := r2
          obtain ⟨t3, rfl⟩ := r3
          exact ⟨o, x, y, z, t1, t2, t3, n, eo, ec, ed⟩
  refine PySem.W.sorted_someT (κ := tuples' true) (show s.heap.IsTuple p _ from pl) (by simpa using hl) (fun h2 h' Q' hk hq => ?_) (fun h' x y Q' hk hx hy hq => ?_) fun out hperm => ?_
  · obtain ⟨fs, hfl, ht, hf⟩ := row3_tups (h := h') fun a ha => (rows a ha).keep hk
    refine PySem.W.kat_kind (T := .type "str") ht (by rw [hfl]; rw [List.length_map] at h2; omega) (fun v hv => ?_) (by decide) hq
    obtain ⟨x, t, rfl⟩ := hf v hv
    exact PySem.W.Looks.of_pure rfl
  · obtain ⟨a, ha, rfl⟩ := List.mem_map.mp hx
    obtain ⟨b, hb, rfl⟩ := List.mem_map.mp hy
    exact row3_lt ((rows a ha).keep hk) ((rows b hb).keep hk) hq
  · obtain ⟨e, he⟩ := sortedAll_at s.heap (as.map Value.ref) out
    obtain ⟨bs, hbs, hbp⟩ := refs_perm hperm
    refine ⟨.ref (s.heap.objs.size + 1), _, I.laid (a := s.heap.objs.size + 1) (o := .lst (bs.map V.ref)) (t' := s.toks) (fun b o e => sortedAll_old e) (Nat.le_succ _) ⟨?_, out.toList, e, by rw [hbs]; exact valsRefs bs, ?_⟩, rfl, q _ bs (I.hok.fresh (Nat.le_succ _)) hbp⟩
    · rw [List.length_map, hbp.length_eq]; exact Nat.le_of_lt (small1000 (by omega))
    · rw [he]
noncomputable def rEqNA (K : PySem.W.Frag) : R2 := fun x y H Q => (x = .non ∧ y = .non ∧ Q (.bl true) H) ∨ rEqDA K true x y H Q
theorem op_eqNA (hu : X.A.units + 102 < cLine) : OpR X (compareOp .Eq) (rEqNA X.K) := by
  intro pins s σ H x y v u Q I rx ry h
  rcases h with ⟨rfl, rfl, q⟩ | h
  · exact op_eqD (by omega) pins s σ H _ _ v u Q I rx ry ⟨.none, .none, .non, .non, rfl, rfl, by decide, q⟩
  · exact op_eqDA hu pins s σ H x y v u Q I rx ry h
noncomputable def tDClear (td : TE) : TE := fun σ H Q => td σ H fun x H1 => ∃ a, x = .ref a ∧ ∃ kvs, H1 a = some (.dK kvs) ∧ Q .non (upd H1 a (.dK []))
theorem pe_dclear {o : Expr} {td : TE} {apos cpos : Pos} (ho : PE X o td) (hbase : attributeBase o "clear" X.env (eval o X.env) = eval o X.env := by rfl) (hline : (apos.endLine == cpos.line) = true := by rfl) : PE X (.Call (.Attribute o "clear" apos) [] [] cpos) (tDClear td) := by
  intro pins s σ H Q I h
  refine wpAny_Call_method0_late hbase hline (thn (ho pins s σ H _ I h) fun v s1 zr6349 => ?_)
  obtain ⟨x, H1, I1, r1, a, ex, kvs, e, q⟩ := zr6349
  subst ex
  cases r1
  obtain ⟨t1, t2, _⟩ := isD_at I1 (.inl ⟨_, .inl e⟩)
  exact ⟨"dict", "dict.clear", PySem.F.plainAttrs_dict, PySem.F.slot_dict_clear, PySem.F.type_dict_clear, t1, t2, Calls.callWith_builtin rfl (PySem.evalArgs_none (d_clear I1 e fun s' I' => ⟨.non, _, I', rfl, q⟩))⟩
end
end L2
set_option Elab.async false
set_option linter.all false
set_option maxRecDepth 100000
namespace PyProof.Rows
open PySem PySem.Spec
section
variable {prog : Program} {w : World} {A : Around} {E : Value → Shared → Prop} {s : Shared}
theorem draw_listL {it t : Addr} {items : Array Value} (hne : t ≠ it) : ∀ (n i : Nat) (s : Shared) (Q : List Value → Shared → Prop), s.heap.IsListIter it t i → s.heap.IsList t items → i + n ≤ items.size →
    (∀ h', h'.IsListIter it t (i + n) → Heap.SameBut it s.heap h' → Q ((items.toList.drop i).take n) { s with heap := h' }) → wpAny (model prog w) A (draw (.ref it) n) Q E s
  | 0, i, s, Q, hit, _, _, hQ => by
    show wpAny _ _ (pure []) Q E s
    exact wpAny_pure (by simpa using hQ s.heap hit (Heap.SameBut.refl ..))
  | n + 1, i, s, Q, hit, ht, hle, hQ => by
    have hlt : i < items.size := by omega
    show wpAny _ _ (pyNext (.ref it) >>= _) Q E s
    refine wpAny_bind (wpAny_pyNext_list_item hit ht (x := items[i]) (by simp [hlt]) fun h₁ hit₁ hs₁ => ?_)
    refine wpAny_bind (wpAny_holding (draw_listL hne n (i + 1) _ _ hit₁ (ht.extBut hs₁.extBut hne) (by omega) fun h₂ hit₂ hs₂ => wpAny_pure ?_))
    have hd : items.toList.drop i = items[i] :: items.toList.drop (i + 1) := by simp [List.drop_eq_getElem_cons, hlt]
    have := hQ h₂ (by rw [show i + (n + 1) = i + 1 + n by omega]; exact hit₂) (hs₁.trans hs₂)
    rw [hd, List.take_succ_cons] at this
    exact this
theorem unpackItems_listL {t : Addr} {items : Array Value} {Q : List Value → Shared → Prop} (hh : A.handled = none) (ht : s.heap.IsList t items)
    (hQ : ∀ h', Heap.ExtBut s.heap.objs.size s.heap h' → Q items.toList { s with heap := h' }) : wpAny (model prog w) A (unpackItems (.ref t) items.size none) Q E s := by
  have hlt : t ≠ s.heap.objs.size := by obtain ⟨o, ho, _⟩ := ht; exact Nat.ne_of_lt (Heap.lt_size ho)
  unfold unpackItems
  refine wpAny_bind ?_
  · unfold notIterableAtAll
    refine wpAny_bind (wpAny_specialOf ht.typeIs slot_list_iter.lookup ?_)
    refine wpAny_pure ?_
    simp only [Bool.false_eq_true, if_false]
    refine wpAny_bind (wpAny_holding (wpAny_pyIter_list ht ?_))
    refine wpAny_bind (wpAny_holding (draw_listL hlt items.size 0 _ _ ⟨_, Heap.get?_push_size _ rfl, rfl, rfl⟩ (ht.push _) (by omega) fun h₁ hit₁ hs₁ => ?_))
    have hall : List.take items.size (List.drop 0 items.toList) = items.toList := by
      rw [List.drop_zero]; exact List.take_of_length_le (by simp)
    rw [hall]
    rw [if_neg (by simp)]
    have ht₁ : h₁.IsList t items := (ht.push _).extBut hs₁.extBut hlt
    refine wpAny_bind (wpAny_holding (wpAny_pyNext_list_end hh hit₁ ht₁ (by simp) fun h₂ he₂ => ?_))
    simp only [Option.isSome_none, Bool.false_eq_true, if_false]
    refine wpAny_pure (hQ h₂ fun b o hb e => he₂ b o hb (hs₁.extBut b o hb (Heap.get?_push_of_some _ e)))
theorem assign_Tuple_listL {env : Env} {elts : List Expr} {x1} {pos : Pos} {t : Addr} {items : Array Value} {Q : Unit → Shared → Prop} (hh : A.handled = none) (ht : s.heap.IsList t items)
    (hn : (assignEach elts env).length = items.size) (hstar : (assignEach elts env).findIdx? (·.1) = none)
    (h : ∀ h', Heap.ExtBut s.heap.objs.size s.heap h' → wpAny (model prog w) A (assignInOrder ((assignEach elts env).map (·.2)) items.toList) Q E { s with heap := h' }) :
    wpAny (model prog w) A (assign (.Tuple elts x1 pos) env (.ref t)) Q E s := by
  rw [assign_Tuple]
  refine wpAny_bind (wpAny_standAt ?_)
  unfold unpack
  rw [hn, hstar]
  exact wpAny_bind (wpAny_holding (unpackItems_listL hh ht h))
end
end PyProof.Rows
namespace L2
open PySem PySem.Spec PyProof.Rows
section
variable {X : Cx} {pos : Pos}
noncomputable def gTupL (n : Nat) (t : TGs) : TG := fun v σ H Q => ∃ a, v = .ref a ∧ ∃ xs, H a = some (.lst xs) ∧ xs.length = n ∧ t xs σ H Q
theorem pg_tupL {es : List Expr} {k : Nat} {t : TGs} {n : Nat} (hc : X.calm = true) (h : PGs X es t)
    (hn : (assignEach es X.env).length = n := by rfl) (hst : (assignEach es X.env).findIdx? (·.1) = none := by rfl) : PG X (.Tuple es k pos) (gTupL n t) := by
  intro pins s σ H v u Q I r hw
  obtain ⟨a, e1, xs, hq, hl, hw⟩ := hw
  subst e1
  cases r
  obtain ⟨its, rv, ht, hz⟩ := I.list (SqL.of hq)
  refine assign_Tuple_listL (I.ok.hd hc) ht.isList (by simp [hn, ← hl, rv.length]) hst fun h' hx => ?_
  have I1 : Inv X pins σ H { s with heap := h' } := I.kept (t' := s.toks) fun b o e => hx b o (Nat.ne_of_lt (Heap.lt_size e)) e
  exact h pins _ σ H xs _ Q I1 (by simpa using rv) hw
end
end L2
set_option Elab.async false
set_option linter.all false
set_option maxRecDepth 100000
namespace L2
open PySem PySem.Spec PyProof.Rows
noncomputable def tVarM (i : Nat) : TE := fun σ H Q => match σ[i]? with | some (some v) => Q v H | _ => False
theorem tVarM_of {i : Nat} {σ : St} {H : Hp} {Q : VK} (h : tVarM i σ H Q) : tVar i σ H Q := by
  unfold tVarM at h
  split at h
  · exact ⟨_, by assumption, h⟩
  · exact h.elim
theorem pvM {X : Cx} (i : Nat) {x : Str} {pos : Pos} (hN : X.N[i]? = some x := by rfl) (hv : Vis X.env.scope x := by first | exact Or.inl rfl | exact Or.inr (Or.inl rfl) | exact Or.inr (Or.inr rfl)) (hd : (x == ("__debug__" : Str)) = false := by decide)
    (hcd : (x == ("__classdict__" : Str)) = false := by decide) : PE X (.Name x pos) (tVarM i) := fun pins s σ H Q I h => pe_var hN hv hd hcd pins s σ H Q I (tVarM_of h)
end L2
set_option Elab.async false
set_option linter.all false
set_option maxRecDepth 100000
set_option maxHeartbeats 4000000
namespace Lw
open PySem L2
local macro_rules | `(tactic| ctx_has vcx $ids*) => `(tactic| ((try dsimp only [tVarM, List.map, List.append_eq, List.set, L2.start, List.length_cons, List.length_nil, List.replicate, List.cons_append, List.nil_append, Nat.reduceAdd, Nat.reduceSub, Nat.zero_add, Nat.add_zero, tYes, iRng1, rSum, tSeq, tNext, tIfS, tRet, tRetN, tDrop, tAsg, gName, tVar, tC, tOp, tUn, tTest, tB, tAnd, tOr, tNot, tAndV, tOrV, tNotV, tIf, tCB, tCall, tCons, tNil, tLst, tTup, tDG, sDP, rI0, rI, rU, rEq, rNe, rLenL, rLenT, rIL, rIT, rIS, rSL, rSQ, rST, rSlS, iL, iT, tML, tMS, rmJoin, rmIndex, rCT, rCTs, rSTs, tFldC, sFldC, tMethC, tMakeC, rDictD, tDNewK, iV, tIsN, gTupT, gCons, gNil, rmAppend, rmExtend, rmPop, rInL, rInT, rListL, rTupL, rCS, rLenS, tListRev, tDisp, tPairs, tSl, tNoPart, tPart, tDClear, tNotN, List.set_cons_zero, List.set_cons_succ, List.getElem?_cons_zero, List.getElem?_cons_succ, List.map_cons, List.map_nil]); (simp only [tVarM, cxK, cpK, tComp_eq, tFor_eq, inner0, inner1, inner2, inner3, Option.join_some, tYes, iRng1, rSum, tSeq, tNext, tIfS, tRet, tRetN, tDrop, tAsg, gName, tVar, tC, tOp, tUn, tTest, tB, tAnd, tOr, tNot, tAndV, tOrV, tNotV, tIf, tCB, tCall, tCons, tNil, tLst, tTup, tDG, sDP, ex_kS, ex_kI, rI0, rI, rU, rEq, rNe, scal_ii, scal_ss, scal_bb, scal_nn, scal_in, scal_si, rLenL, rLenT, rIL, rIT, rIS, rSL, rSQ, rST, rSlS, iL, iT, tML, tMS, rmJoin, rmIndex, rCT, rCTs, rSTs, tFldC, sFldC, tMethC, tMakeC, rDictD, tDNewK, iV, tIsN, gTupT, gCons, gNil, atI0, atI1, atI2, atI3, atI4, ofS_inj, rmAppend, rmExtend, rmPop, rInL, rInT, rListL, rTupL, rCS, rLenS, tListRev, tDisp, tPairs, HO.dK.injEq, HO.lst.injEq, HO.tup.injEq, HO.ins.injEq, tSl, tNoPart, tPart, L2.start, List.map_cons, List.map_nil, List.length_cons, List.length_nil, List.replicate, List.cons_append, List.nil_append, List.append_nil, List.getElem?_cons_zero, List.getElem?_cons_succ, List.set_cons_zero, List.set_cons_succ, Option.some.injEq, V.int.injEq, V.ref.injEq, V.str.injEq, V.bl.injEq, V.ty.injEq, List.cons.injEq, and_assoc, and_true, true_and, and_self, exists_eq_left, exists_eq_left', exists_eq_right, exists_eq_right', exists_and_left, exists_eq, exists_eq', reduceCtorEq, false_and, and_false, false_or, or_false, exists_false, decide_eq_true_eq, String.reduceEq, String.reduceBEq, Bool.or_true, Bool.true_or, Bool.or_false, Bool.false_or, or_true, true_or, if_true, if_false, Bool.not_eq_true', Nat.reduceAdd, Nat.reduceSub, Nat.zero_add, $[$ids:ident],*])))
noncomputable def top (i : Nat) : Stmt := PySem.Challenge.pw_seekhall_k24_units_to_a_standstill.main.body.getD i (.Pass ⟨0, 0, 0, 0⟩)
noncomputable abbrev s_room_against : Stmt := top 2
noncomputable abbrev s_is_untrue : Stmt := top 4
noncomputable abbrev s_opposite_of : Stmt := top 5
noncomputable abbrev s_newly_untrue : Stmt := top 6
noncomputable abbrev s_make_true : Stmt := top 7
noncomputable abbrev s_Watch___init__ : Stmt := inClass (top 8) 0
noncomputable abbrev s_Watch_beside : Stmt := inClass (top 8) 1
noncomputable abbrev s_Watch_instead_of : Stmt := inClass (top 8) 2
noncomputable abbrev s_Watch_put_instead_of : Stmt := inClass (top 8) 3
noncomputable abbrev s_Units___init__ : Stmt := inClass (top 9) 0
noncomputable abbrev s_Units_set_watch : Stmt := inClass (top 9) 1
noncomputable abbrev s_Units_go_by : Stmt := inClass (top 9) 2
noncomputable abbrev s_Units_lives_with : Stmt := inClass (top 9) 4
noncomputable abbrev s_Units_last_ones : Stmt := inClass (top 9) 5
noncomputable abbrev s_by_units : Stmt := top 10
noncomputable abbrev s__law_deal : Stmt := top 12
noncomputable abbrev s__law_draw : Stmt := top 13
noncomputable abbrev s__law_names : Stmt := top 14
noncomputable abbrev s__law_pool : Stmt := top 15
noncomputable abbrev s__law_rooms : Stmt := top 16
noncomputable abbrev s__law_clause : Stmt := top 17
noncomputable abbrev s__law_open : Stmt := top 19
noncomputable abbrev s__law_units : Stmt := top 20
noncomputable abbrev s__law_clauses : Stmt := top 21
noncomputable abbrev s__law_row : Stmt := top 22
noncomputable abbrev s__law_names_of_row : Stmt := top 23
noncomputable abbrev s__law_value_by_value : Stmt := top 24
noncomputable abbrev s__law_long : Stmt := top 25
noncomputable abbrev s_law : Stmt := top 26
theorem sc_room_against : FnScope ["literal", "room"] ["literal", "room"] (defScope s_room_against) := ⟨rfl, rfl, rfl, by decide +kernel, rfl, by decide +kernel, by decide +kernel⟩
theorem sc_is_untrue : FnScope ["literal", "rooms", "room"] ["literal", "rooms"] (defScope s_is_untrue) := ⟨rfl, rfl, rfl, by decide +kernel, rfl, by decide +kernel, by decide +kernel⟩
theorem sc_opposite_of : FnScope ["literal"] ["literal"] (defScope s_opposite_of) := ⟨rfl, rfl, rfl, by decide +kernel, rfl, by decide +kernel, by decide +kernel⟩
theorem sc_newly_untrue : FnScope ["cell", "before", "now", "literals"] ["cell", "before", "now"] (defScope s_newly_untrue) := ⟨rfl, rfl, rfl, by decide +kernel, rfl, by decide +kernel, by decide +kernel⟩
theorem sc_make_true : FnScope ["literal", "rooms", "cell", "before"] ["literal", "rooms"] (defScope s_make_true) := ⟨rfl, rfl, rfl, by decide +kernel, rfl, by decide +kernel, by decide +kernel⟩
theorem sc_Watch___init__ : FnScope ["self", "clause", "one", "other"] ["self", "clause", "one", "other"] (defScope s_Watch___init__) := ⟨rfl, rfl, rfl, by decide +kernel, rfl, by decide +kernel, by decide +kernel⟩
theorem sc_Watch_beside : FnScope ["self", "literal"] ["self", "literal"] (defScope s_Watch_beside) := ⟨rfl, rfl, rfl, by decide +kernel, rfl, by decide +kernel, by decide +kernel⟩
theorem sc_Watch_instead_of : FnScope ["self", "literal", "rooms", "partner", "another"] ["self", "literal", "rooms"] (defScope s_Watch_instead_of) := ⟨rfl, rfl, rfl, by decide +kernel, rfl, by decide +kernel, by decide +kernel⟩
theorem sc_Watch_put_instead_of : FnScope ["self", "literal", "another"] ["self", "literal", "another"] (defScope s_Watch_put_instead_of) := ⟨rfl, rfl, rfl, by decide +kernel, rfl, by decide +kernel, by decide +kernel⟩
theorem sc_Units___init__ : FnScope ["self", "rooms"] ["self", "rooms"] (defScope s_Units___init__) := ⟨rfl, rfl, rfl, by decide +kernel, rfl, by decide +kernel, by decide +kernel⟩
theorem sc_Units_set_watch : FnScope ["self", "literal", "watch"] ["self", "literal", "watch"] (defScope s_Units_set_watch) := ⟨rfl, rfl, rfl, by decide +kernel, rfl, by decide +kernel, by decide +kernel⟩
theorem sc_Units_go_by : FnScope ["self", "clause", "left", "watch"] ["self", "clause"] (defScope s_Units_go_by) := ⟨rfl, rfl, rfl, by decide +kernel, rfl, by decide +kernel, by decide +kernel⟩
theorem sc_Units_lives_with : FnScope ["self", "literals", "rooms", "ahead", "literal", "lost"] ["self", "literals", "rooms"] (defScope s_Units_lives_with) := ⟨rfl, rfl, rfl, by decide +kernel, rfl, by decide +kernel, by decide +kernel⟩
theorem sc_Units_last_ones : FnScope ["self", "literal", "rooms", "staying", "lasts", "watch", "another"] ["self", "literal", "rooms"] (defScope s_Units_last_ones) := ⟨rfl, rfl, rfl, by decide +kernel, rfl, by decide +kernel, by decide +kernel⟩
theorem sc_by_units : FnScope ["rooms", "clauses", "units", "clause"] ["rooms", "clauses"] (defScope s_by_units) := ⟨rfl, rfl, rfl, by decide +kernel, rfl, by decide +kernel, by decide +kernel⟩
theorem sc__law_deal : FnScope ["_law_script", "_law_start", "_law_cells", "_law_number", "_law_cell"] ["_law_script", "_law_start"] (defScope s__law_deal) := ⟨rfl, rfl, rfl, by decide +kernel, rfl, by decide +kernel, by decide +kernel⟩
theorem sc__law_draw : FnScope ["_law_deal_here", "_law_many", "_law_number", "_law_one", "_law_other"] ["_law_deal_here", "_law_many"] (defScope s__law_draw) := ⟨rfl, rfl, rfl, by decide +kernel, rfl, by decide +kernel, by decide +kernel⟩
theorem sc__law_names : FnScope ["_law_deal_here", "_law_many", "_law_letters", "_law_names_here", "_law_k", "_law_word", "_law_place"] ["_law_deal_here", "_law_many"] (defScope s__law_names) := ⟨rfl, rfl, rfl, by decide +kernel, rfl, by decide +kernel, by decide +kernel⟩
theorem sc__law_pool : FnScope ["_law_deal_here", "_law_value", "_law_pool_here", "_law_k"] ["_law_deal_here"] (defScope s__law_pool) := ⟨rfl, rfl, rfl, by decide +kernel, rfl, by decide +kernel, by decide +kernel⟩
theorem sc__law_rooms : FnScope ["_law_deal_here", "_law_names_here", "_law_pool_here", "_law_most", "_law_rooms_here", "_law_name", "_law_some"] ["_law_deal_here", "_law_names_here", "_law_pool_here", "_law_most"] (defScope s__law_rooms) := ⟨rfl, rfl, rfl, by decide +kernel, rfl, by decide +kernel, by decide +kernel⟩
theorem sc__law_clause : FnScope ["_law_deal_here", "_law_names_here", "_law_pool_here", "_law_most", "_law_found", "_law_k", "_law_literal"] ["_law_deal_here", "_law_names_here", "_law_pool_here", "_law_most"] (defScope s__law_clause) := ⟨rfl, rfl, rfl, by decide +kernel, rfl, by decide +kernel, by decide +kernel⟩
theorem sc__law_open : FnScope ["_law_rooms_here", "_law_clause_here", "_law_found", "_law_cell", "_law_word", "_law_value"] ["_law_rooms_here", "_law_clause_here"] (defScope s__law_open) := ⟨rfl, rfl, rfl, by decide +kernel, rfl, by decide +kernel, by decide +kernel⟩
theorem sc__law_units : FnScope ["_law_rooms_here", "_law_clauses_here", "_law_before", "_law_clause_here", "_law_some", "_law_cell", "_law_word", "_law_value"] ["_law_rooms_here", "_law_clauses_here"] (defScope s__law_units) := ⟨rfl, rfl, rfl, by decide +kernel, rfl, by decide +kernel, by decide +kernel⟩
theorem sc__law_clauses : FnScope ["_law_deal_here", "_law_names_here", "_law_pool_here", "_law_rooms_here", "_law_clauses_here", "_law_ahead", "_law_k", "_law_name", "_law_both"] ["_law_deal_here", "_law_names_here", "_law_pool_here", "_law_rooms_here"] (defScope s__law_clauses) := ⟨rfl, rfl, rfl, by decide +kernel, rfl, by decide +kernel, by decide +kernel⟩
theorem sc__law_row : FnScope ["_law_deal_here", "_law_names_here", "_law_rooms_here", "_law_clauses_here", "_law_k", "_law_name", "_law_literal"] ["_law_deal_here", "_law_names_here"] (defScope s__law_row) := ⟨rfl, rfl, rfl, by decide +kernel, rfl, by decide +kernel, by decide +kernel⟩
theorem sc__law_names_of_row : FnScope ["_law_many", "_law_letters"] ["_law_many"] (defScope s__law_names_of_row) := ⟨rfl, rfl, rfl, by decide +kernel, rfl, by decide +kernel, by decide +kernel⟩
theorem sc__law_value_by_value : FnScope ["_law_deal_here", "_law_names_here", "_law_rooms_here", "_law_clauses_here", "_law_before", "_law_name", "_law_value", "_law_due"] ["_law_deal_here", "_law_names_here"] (defScope s__law_value_by_value) := ⟨rfl, rfl, rfl, by decide +kernel, rfl, by decide +kernel, by decide +kernel⟩
theorem sc__law_long : FnScope ["_law_deal_here", "_law_rooms_here", "_law_clauses_here", "_law_due"] ["_law_deal_here"] (defScope s__law_long) := ⟨rfl, rfl, rfl, by decide +kernel, rfl, by decide +kernel, by decide +kernel⟩
theorem sc_law : FnScope ["_law_script", "_law_deal_here", "_law_rooms_here", "_law_clauses_here", "_law_names_here", "_law_pool_here", "_law_due", "_law_handed", "_law_given", "_law_told"] ["_law_script"] (defScope s_law) := ⟨rfl, rfl, rfl, by decide +kernel, rfl, by decide +kernel, by decide +kernel⟩
structure Txt (K : PySem.W.Frag) (mg : Str → Option Value) : Prop where
  b_len : mg "len" = none
  b_max : mg "max" = none
  b_sum : mg "sum" = none
  b_list : mg "list" = none
  b_reversed : mg "reversed" = none
  b_range : mg "range" = none
  b_sorted : mg "sorted" = none
  b_dict : mg "dict" = none
  b_tuple : mg "tuple" = none
  b_enumerate : mg "enumerate" = none
  at_Watch : mg "Watch" = some (.ref (clsAt mg "Watch"))
  at_Units : mg "Units" = some (.ref (clsAt mg "Units"))
  cl_Watch : Cls K (clsAt mg "Watch")
  cl_Units : Cls K (clsAt mg "Units")
  no_Watch_clause : NoAttr K (clsAt mg "Watch") "clause"
  no_Watch_one : NoAttr K (clsAt mg "Watch") "one"
  no_Watch_other : NoAttr K (clsAt mg "Watch") "other"
  no_Units_rooms : NoAttr K (clsAt mg "Units") "rooms"
  no_Units_watches : NoAttr K (clsAt mg "Units") "watches"
  no_Units_dead : NoAttr K (clsAt mg "Units") "dead"
noncomputable def dealKvs (m sd n : Int) (l : Addr) : List (Key × V) := [(Sum.inr "mixed", .int m), (Sum.inr "seed", .int sd), (Sum.inr "number", .int n), (Sum.inr "left", .ref l)]
structure DealAt (H : Hp) (d l : Addr) : Prop where
  ex : ∃ (m sd n : Int) (xs : List Int), H d = some (.dK (dealKvs m sd n l)) ∧ H l = some (.lst (xs.map V.int)) ∧ 0 ≤ n ∧ (∀ x ∈ xs, 0 ≤ x) ∧ 0 ≤ sd ∧ sd < 2147483648 ∧ xs.length ≤ 63
noncomputable def But (d l : Addr) (H H' : Hp) : Prop := ∀ b o, b ≠ d → b ≠ l → H b = some o → H' b = some o
theorem k_ms : ¬ ((Sum.inr (Str.ofString "mixed") : Key) = Sum.inr (Str.ofString "seed")) := by decide +kernel
theorem k_mn : ¬ ((Sum.inr (Str.ofString "mixed") : Key) = Sum.inr (Str.ofString "number")) := by decide +kernel
theorem k_ml : ¬ ((Sum.inr (Str.ofString "mixed") : Key) = Sum.inr (Str.ofString "left")) := by decide +kernel
theorem k_sn : ¬ ((Sum.inr (Str.ofString "seed") : Key) = Sum.inr (Str.ofString "number")) := by decide +kernel
theorem k_sl : ¬ ((Sum.inr (Str.ofString "seed") : Key) = Sum.inr (Str.ofString "left")) := by decide +kernel
theorem k_nl : ¬ ((Sum.inr (Str.ofString "number") : Key) = Sum.inr (Str.ofString "left")) := by decide +kernel
theorem get_mixed (m sd n : Int) (l : Addr) : valV (dealKvs m sd n l) (Sum.inr "mixed") = some (.int m) := by unfold dealKvs; rw [valV_pos rfl]
theorem get_seed (m sd n : Int) (l : Addr) : valV (dealKvs m sd n l) (Sum.inr "seed") = some (.int sd) := by unfold dealKvs; rw [valV_neg k_ms, valV_pos rfl]
theorem get_number (m sd n : Int) (l : Addr) : valV (dealKvs m sd n l) (Sum.inr "number") = some (.int n) := by unfold dealKvs; rw [valV_neg k_mn, valV_neg k_sn, valV_pos rfl]
theorem get_left (m sd n : Int) (l : Addr) : valV (dealKvs m sd n l) (Sum.inr "left") = some (.ref l) := by unfold dealKvs; rw [valV_neg k_ml, valV_neg k_sl, valV_neg k_nl, valV_pos rfl]
theorem put_number (m sd n y : Int) (l : Addr) : putK (dealKvs m sd n l) (Sum.inr "number") (.int y) = dealKvs m sd y l := by
  unfold putK
  rw [valV_any, get_number]
  simp only [Option.isSome_some, if_true, dealKvs, List.map_cons, List.map_nil, if_neg k_mn, if_neg k_sn, if_neg (Ne.symm k_nl)]
theorem put_seed (m sd n y : Int) (l : Addr) : putK (dealKvs m sd n l) (Sum.inr "seed") (.int y) = dealKvs m y n l := by
  unfold putK
  rw [valV_any, get_seed]
  simp only [Option.isSome_some, if_true, dealKvs, List.map_cons, List.map_nil, if_neg k_ms, if_neg (Ne.symm k_sn), if_neg (Ne.symm k_sl)]
theorem deal_len (m sd n : Int) (l : Addr) : (dealKvs m sd n l).length < sizeLine := by show 4 < sizeLine; decide
theorem cmul_small {i j : Int} (h0 : 0 ≤ i) (h1 : i < 4294967296) : CMul i j := .inl ⟨by omega, by omega⟩
noncomputable def spDraw : Sp := fun vs H Q _ => ∃ (d l : Addr) (m : Int), vs = [.ref d, .int m] ∧ DealAt H d l ∧ 0 < m ∧ m < 18446744073709551616 ∧ ∀ (r : Int) (H' : Hp), 0 ≤ r → r < m → DealAt H' d l → But d l H H' → Q (.int r) H'
theorem merge_deal (m sd n : Int) (l : Addr) : mergeK [] (dealKvs m sd n l) = dealKvs m sd n l := by
  have e1 : putK ([] : List (Key × V)) (Sum.inr (Str.ofString "mixed")) (.int m) = [(Sum.inr (Str.ofString "mixed"), .int m)] := putK_new _ valV_nil
  have e2 : putK [((Sum.inr (Str.ofString "mixed") : Key), V.int m)] (Sum.inr (Str.ofString "seed")) (.int sd) = [(Sum.inr (Str.ofString "mixed"), .int m), (Sum.inr (Str.ofString "seed"), .int sd)] := putK_new _ (by rw [valV_neg k_ms, valV_nil])
  have e3 : putK [((Sum.inr (Str.ofString "mixed") : Key), V.int m), (Sum.inr (Str.ofString "seed"), .int sd)] (Sum.inr (Str.ofString "number")) (.int n) = [(Sum.inr (Str.ofString "mixed"), .int m), (Sum.inr (Str.ofString "seed"), .int sd), (Sum.inr (Str.ofString "number"), .int n)] := putK_new _ (by rw [valV_neg k_mn, valV_neg k_sn, valV_nil])
  have e4 : putK [((Sum.inr (Str.ofString "mixed") : Key), V.int m), (Sum.inr (Str.ofString "seed"), .int sd), (Sum.inr (Str.ofString "number"), .int n)] (Sum.inr (Str.ofString "left")) (.ref l) = dealKvs m sd n l := putK_new _ (by rw [valV_neg k_ml, valV_neg k_sl, valV_neg k_nl, valV_nil])
  show putK (putK (putK (putK ([] : List (Key × V)) (Sum.inr (Str.ofString "mixed")) (.int m)) (Sum.inr (Str.ofString "seed")) (.int sd)) (Sum.inr (Str.ofString "number")) (.int n)) (Sum.inr (Str.ofString "left")) (.ref l) = _
  rw [e1, e2, e3, e4]
theorem cut_ints (ns : List Int) (lo hi : Option Int) : ∃ ms : List Int, cutV (ns.map V.int) lo hi = ms.map V.int ∧ ms.length ≤ ns.length := by
  unfold cutV
  refine ⟨(ns.drop (HT.sIx (ns.map V.int).length 0 lo)).take (HT.sIx (ns.map V.int).length (ns.map V.int).length hi - HT.sIx (ns.map V.int).length 0 lo), by simp [List.map_take, List.map_drop], ?_⟩
  rw [List.length_take, List.length_drop]
  omega
theorem int_at {ms : List Int} {i : Nat} {x : V} (h : (ms.map V.int)[i]? = some x) : ∃ v, x = .int v := by
  rw [List.getElem?_map] at h
  cases e : ms[i]? with
  | none => rw [e] at h; cases h
  | some z => rw [e] at h; exact ⟨z, (Option.some.inj h).symm⟩
noncomputable def spDeal (K : PySem.W.Frag) : Sp := fun vs H Q _ => ∃ (a : Addr) (ns : List Int) (st : Int), vs = [.ref a, .int st] ∧ SqL K H a (ns.map V.int) ∧ ns.length ≤ 63 ∧ 0 ≤ st ∧ st ≤ 63 ∧ ∀ (d l : Addr) (H' : Hp), H d = none → H l = none → DealAt H' d l → Same H H' → Q (.ref d) H'
theorem draw_rd {d l : Addr} {m : Int} {H : Hp} {Q : VK} {E : XK} (D : DealAt H d l) (m0 : 0 < m) (m1 : m < 18446744073709551616) (h : ∀ (r : Int) (H' : Hp), 0 ≤ r → r < m → DealAt H' d l → But d l H H' → Q (.int r) H') : spDraw [.ref d, .int m] H Q E := ⟨d, l, m, rfl, D, m0, m1, h⟩
theorem But.refl {d l : Addr} (H : Hp) : But d l H H := fun _ _ _ _ e => e
theorem But.trans {d l : Addr} {H H1 H2 : Hp} (a : But d l H H1) (b : But d l H1 H2) : But d l H H2 := fun c o h1 h2 e => b c o h1 h2 (a c o h1 h2 e)
theorem But.new {d l p : Addr} {H H1 : Hp} {o : HO} (a : But d l H H1) (hp : H1 p = none) : But d l H (upd H1 p o) := fun c u h1 h2 e => by
  have e1 := a c u h1 h2 e
  rw [upd_ne (ne_of_none e1 hp)]; exact e1
theorem But.same {d l : Addr} {H H1 H2 : Hp} (a : But d l H H1) (s : Same H1 H2) : But d l H H2 := fun c u h1 h2 e => s c u (a c u h1 h2 e)
theorem DealAt.ne {d l p : Addr} {H : Hp} (D : DealAt H d l) (hp : H p = none) : p ≠ d ∧ p ≠ l := by
  obtain ⟨m, sd, n, xs, hd, hl, _⟩ := D.ex
  exact ⟨(ne_of_none hd hp).symm, (ne_of_none hl hp).symm⟩
theorem DealAt.same {d l : Addr} {H H' : Hp} (D : DealAt H d l) (s : Same H H') : DealAt H' d l := by
  obtain ⟨m, sd, n, xs, hd, hl, r⟩ := D.ex
  exact ⟨m, sd, n, xs, s _ _ hd, s _ _ hl, r⟩
theorem DealAt.new {d l p : Addr} {H : Hp} {o : HO} (D : DealAt H d l) (hp : H p = none) : DealAt (upd H p o) d l := D.same (Same.upd0 hp)
theorem DealAt.put {d l p : Addr} {H : Hp} {o : HO} (D : DealAt H d l) (h1 : p ≠ d) (h2 : p ≠ l) : DealAt (upd H p o) d l := by
  obtain ⟨m, sd, n, xs, hd, hl, r⟩ := D.ex
  exact ⟨m, sd, n, xs, by rw [upd_ne h1.symm]; exact hd, by rw [upd_ne h2.symm]; exact hl, r⟩
theorem But.put {d l p : Addr} {H H1 : Hp} {o : HO} (a : But d l H H1) (hp : H p = none) : But d l H (upd H1 p o) := fun c u h1 h2 e => by
  rw [upd_ne (ne_of_none e hp)]; exact a c u h1 h2 e
theorem But.free {d l p : Addr} {H H1 : Hp} (a : But d l H H1) (D : DealAt H1 d l) (hp : H1 p = none) : H p = none := by
  obtain ⟨h1, h2⟩ := D.ne hp
  cases e : H p with
  | none => rfl
  | some o => rw [a p o h1 h2 e] at hp; cases hp
theorem atI_mem {α : Type} {xs : List α} {i : Int} (h0 : 0 ≤ i) (h1 : i < (xs.length : Int)) : ∃ v, atI xs i = some v ∧ v ∈ xs := by
  obtain ⟨n, rfl⟩ := Int.eq_ofNat_of_zero_le h0
  have hn : n < xs.length := by omega
  exact ⟨xs[n], atI_nat (by simp [hn]), List.getElem_mem hn⟩
theorem draw_of {d l p : Addr} {m : Int} {vs : List V} {H : Hp} {Q : VK} {E : XK} (D : DealAt H d l) (hp : H p = none) (m0 : 0 < m) (m1 : m < 18446744073709551616) (hm : m = (vs.length : Int)) (h : ∀ (r : Int) (v : V) (H' : Hp), v ∈ vs → atI vs r = some v → DealAt H' d l → But d l H H' → H' p = some (.lst vs) → Q (.int r) H') : spDraw [.ref d, .int m] (upd H p (.lst vs)) Q E :=
  draw_rd (D.new hp) m0 m1 fun r H' r0 r1 D' B' => by
    obtain ⟨v, e, hv⟩ := atI_mem (xs := vs) r0 (by omega)
    exact h r v H' hv e D' (((But.refl H).new hp).trans B') (B' p _ (D.ne hp).1 (D.ne hp).2 upd_same)
noncomputable def ButOne (p : Addr) (H H' : Hp) : Prop := ∀ b o, b ≠ p → H b = some o → H' b = some o
noncomputable def RoomsFor (H : Hp) (kvs : List (Key × V)) (cs : List Str) (rm : Str → List Int) : Prop := ∀ c ∈ cs, ∃ a, valV kvs (Sum.inr c) = some (.ref a) ∧ H a = some (.tup ((rm c).map V.int))
structure KeepTI (H H' : Hp) : Prop where
  tup : ∀ a vs, H a = some (.tup vs) → H' a = some (.tup vs)
  ins : ∀ a C dx fs, H a = some (.ins C dx fs) → H' a = some (.ins C dx fs)
theorem But.keepTI {d l : Addr} {H H' : Hp} (B : But d l H H') (D : DealAt H d l) : KeepTI H H' := by
  obtain ⟨m, sd, n, xs, hd, hl, _⟩ := D.ex
  exact ⟨fun a vs e => B a _ (ne_of e hd (by intro z; cases z)) (ne_of e hl (by intro z; cases z)) e, fun a C dx fs e => B a _ (ne_of e hd (by intro z; cases z)) (ne_of e hl (by intro z; cases z)) e⟩
theorem plain_put {kvs : List (Key × V)} {k : Key} {v : V} (h : ∀ x ∈ kvs, plainV x.2 = true) (hv : plainV v = true) : ∀ x ∈ putK kvs k v, plainV x.2 = true := by
  intro x hx
  unfold putK at hx
  split at hx
  · obtain ⟨y, hy, rfl⟩ := List.mem_map.mp hx
    split
    · exact hv
    · exact h y hy
  · rcases List.mem_append.mp hx with q | q
    · exact h x q
    · rw [List.mem_singleton.mp q]; exact hv
theorem RoomsFor.same {H H' : Hp} {kvs : List (Key × V)} {cs : List Str} {rm : Str → List Int} (h : RoomsFor H kvs cs rm) (s : ∀ a vs, H a = some (.tup vs) → H' a = some (.tup vs)) : RoomsFor H' kvs cs rm := fun c hc => by
  obtain ⟨a, e1, e2⟩ := h c hc
  exact ⟨a, e1, s _ _ e2⟩
noncomputable def setF {α : Type} (f : Str → α) (c : Str) (v : α) : Str → α := fun x => if x = c then v else f x
theorem RoomsFor.put {H H' : Hp} {kvs : List (Key × V)} {cs : List Str} {rm : Str → List Int} {c : Str} {t : Addr} {ns : List Int} (h : RoomsFor H kvs cs rm) (hc : c ∉ cs) (s : ∀ a vs, H a = some (.tup vs) → H' a = some (.tup vs)) (ht : H' t = some (.tup (ns.map V.int))) :
    RoomsFor H' (putK kvs (Sum.inr c) (.ref t)) (cs ++ [c]) (setF rm c ns) := fun x hx => by
  rcases List.mem_append.mp hx with q | q
  · have hne : x ≠ c := fun e => hc (e ▸ q)
    obtain ⟨a, e1, e2⟩ := h x q
    refine ⟨a, ?_, ?_⟩
    · rw [valV_put, if_neg (fun e => hne (Sum.inr.inj e))]; exact e1
    · unfold setF; rw [if_neg hne]; exact s _ _ e2
  · rw [List.mem_singleton.mp q]
    refine ⟨t, by rw [valV_put, if_pos rfl], ?_⟩
    unfold setF; rw [if_pos rfl]; exact ht
noncomputable def IsFill (H : Hp) (x : V) (cs : List Str) (g : Str → Int) : Prop := ∃ a kvs, x = .ref a ∧ H a = some (.dK kvs) ∧ (∀ c ∈ cs, valV kvs (Sum.inr c) = some (.int (g c))) ∧ kvs.length ≤ cs.length ∧ ∀ x ∈ kvs, plainV x.2 = true
theorem IsFill.keep {H H' : Hp} {x : V} {cs : List Str} {g : Str → Int} (h : IsFill H x cs g) (k : ∀ a kvs, H a = some (.dK kvs) → H' a = some (.dK kvs)) : IsFill H' x cs g := by
  obtain ⟨a, kvs, e, h1, h2⟩ := h
  exact ⟨a, kvs, e, k _ _ h1, h2⟩
theorem setF_same {α : Type} (g : Str → α) (c : Str) (v : α) : setF g c v c = v := by unfold setF; rw [if_pos rfl]
theorem setF_ne {α : Type} (g : Str → α) {c x : Str} (v : α) (h : x ≠ c) : setF g c v x = g x := by unfold setF; rw [if_neg h]
theorem IsFill.put {H' : Hp} {cs : List Str} {c : Str} {g : Str → Int} {v : Int} {kvs : List (Key × V)} {q : Addr} (h : ∀ x ∈ cs, valV kvs (Sum.inr x) = some (.int (g x))) (hk : kvs.length ≤ cs.length ∧ ∀ x ∈ kvs, plainV x.2 = true) (hc : c ∉ cs) (hq : H' q = some (.dK (putK kvs (Sum.inr c) (.int v)))) : IsFill H' (.ref q) (cs ++ [c]) (setF g c v) := by
  refine ⟨q, _, rfl, hq, fun x hx => ?_, Nat.le_trans (length_putK _ _ _) (by have := hk.1; simp; omega), plain_put hk.2 rfl⟩
  rw [valV_put]
  by_cases e : x = c
  · subst e; rw [if_pos rfl, setF_same]
  · rw [if_neg (fun z => e (Sum.inr.inj z)), setF_ne _ _ e]
    rcases List.mem_append.mp hx with z | z
    · exact h x z
    · exact absurd (List.mem_singleton.mp z) e
noncomputable def KeysIn (kvs : List (Key × V)) (cs : List Str) : Prop := (kvs.map (·.1)).Nodup ∧ ∀ x ∈ kvs, ∃ c ∈ cs, x.1 = Sum.inr c
theorem KeysIn.put {kvs : List (Key × V)} {cs cs' : List Str} {c : Str} {v : V} (h : KeysIn kvs cs) (hc : c ∈ cs') (sub : ∀ x ∈ cs, x ∈ cs') : KeysIn (putK kvs (Sum.inr c) v) cs' := by
  unfold putK
  by_cases ha : (kvs.any fun kv => decide (kv.1 = Sum.inr c)) = true
  · rw [if_pos ha]
    have e : (kvs.map fun kv => if kv.1 = Sum.inr c then (kv.1, v) else kv).map (·.1) = kvs.map (·.1) := by
      rw [List.map_map]
      refine List.map_congr_left fun y _ => ?_
      show (if y.1 = Sum.inr c then (y.1, v) else y).1 = y.1
      split <;> rfl
    refine ⟨by rw [e]; exact h.1, fun x hx => ?_⟩
    have hx1 : x.1 ∈ kvs.map (·.1) := by rw [← e]; exact List.mem_map.mpr ⟨x, hx, rfl⟩
    obtain ⟨y, hy, ey⟩ := List.mem_map.mp hx1
    obtain ⟨c', h1, h2⟩ := h.2 y hy
    exact ⟨c', sub c' h1, by rw [← ey]; exact h2⟩
  · rw [if_neg ha]
    refine ⟨?_, fun x hx => ?_⟩
    · rw [List.map_append]
      refine List.nodup_append.mpr ⟨h.1, by simp, fun a ha' b hb e => ?_⟩
      obtain ⟨y, hy, ey⟩ := List.mem_map.mp ha'
      have hb' : b = Sum.inr c := by simpa using hb
      exact ha (List.any_eq_true.mpr ⟨y, hy, by simp [ey, e, hb']⟩)
    · rcases List.mem_append.mp hx with q | q
      · obtain ⟨c', h1, h2⟩ := h.2 x q
        exact ⟨c', sub c' h1, h2⟩
      · rw [List.mem_singleton.mp q]; exact ⟨c, hc, rfl⟩
noncomputable def spPool5 : Sp := fun vs H Q _ => ∃ (d l : Addr), vs = [.ref d] ∧ DealAt H d l ∧ ∀ (p : Addr) (ns : List Int) (H' : Hp), H p = none → ns.length = 5 → ns.Pairwise (· < ·) → (∀ x ∈ ns, -1000000 ≤ x ∧ x ≤ 1000000) → H' p = some (.lst (ns.map V.int)) → DealAt H' d l → But d l H H' → Q (.ref p) H'
noncomputable def spRoomsP : Sp := fun vs H Q _ => ∃ (d l a p : Addr) (ws : List Str) (ns : List Int) (m : Int), vs = [.ref d, .ref a, .ref p, .int m] ∧ DealAt H d l ∧ (a ≠ d ∧ a ≠ l) ∧ (p ≠ d ∧ p ≠ l) ∧ H a = some (.lst (ws.map V.str)) ∧ ws.length ≤ 45 ∧ H p = some (.lst (ns.map V.int)) ∧ ns.length = 5 ∧ ns.Pairwise (· < ·) ∧ 1 ≤ m ∧ m ≤ 20 ∧
  ∀ (r : Addr) (kvs : List (Key × V)) (rm : Str → List Int) (H' : Hp), H r = none → H' r = some (.dK kvs) → RoomsFor H' kvs ws rm → (∀ c ∈ ws, rm c ≠ [] ∧ ((rm c).length : Int) ≤ m ∧ (rm c).Pairwise (· < ·) ∧ ∀ v ∈ rm c, v ∈ ns) → (∀ x ∈ kvs, plainV x.2 = true) → (kvs.length ≤ 2 * ws.length ∧ KeysIn kvs ws) → DealAt H' d l → But d l H H' → Q (.ref r) H'
theorem lay_ints : ∀ ns : List Int, PyData.canLayAll0 (ns.map PyData.int) = true
  | [] => rfl
  | n :: ns => by
    rw [List.map_cons]
    unfold PyData.canLayAll0
    rw [lay_ints ns]
    rfl
theorem depth_ints : ∀ ns : List Int, PyData.depthAll (ns.map PyData.int) = 0
  | [] => rfl
  | n :: ns => by
    rw [List.map_cons]
    unfold PyData.depthAll
    rw [depth_ints ns]
    rfl
theorem eq_nil_ints (ns : List Int) : PyData.eqv (.list (ns.map PyData.int)) (.list []) = decide (ns = []) := by
  cases ns with
  | nil => rfl
  | cons n ns => simp [PyData.eqv, PyData.eqvAll]
theorem RoomsFor.putG {H H' : Hp} {kvs : List (Key × V)} {cs cs' : List Str} {rm : Str → List Int} {c : Str} {t : Addr} {ns : List Int} (h : RoomsFor H kvs cs rm) (s : ∀ a vs, H a = some (.tup vs) → H' a = some (.tup vs)) (ht : H' t = some (.tup (ns.map V.int))) (sub : ∀ x ∈ cs', x = c ∨ x ∈ cs) :
    RoomsFor H' (putK kvs (Sum.inr c) (.ref t)) cs' (setF rm c ns) := fun x hx => by
  by_cases e : x = c
  · subst e
    exact ⟨t, by rw [valV_put, if_pos rfl], by unfold setF; rw [if_pos rfl]; exact ht⟩
  · obtain ⟨a, e1, e2⟩ := h x ((sub x hx).resolve_left e)
    exact ⟨a, by rw [valV_put, if_neg (fun z => e (Sum.inr.inj z))]; exact e1, by unfold setF; rw [if_neg e]; exact s _ _ e2⟩
noncomputable def invI : V → Int | .int i => i | _ => 0
noncomputable def holdsL (l : L3) (v : Int) : Bool := if l.2.1 = "is" then decide (v = l.2.2) else !decide (v = l.2.2)
noncomputable def RoomsK (H : Hp) (kvs : List (Key × V)) (rm : Str → List Int) : Prop := ∀ x ∈ kvs, ∃ c a, x = (Sum.inr c, .ref a) ∧ H a = some (.tup ((rm c).map V.int))
noncomputable def spAgainst : Sp := fun vs H Q _ => ∃ (t r : Addr) (l : L3) (ns : List Int), vs = [.ref t, .ref r] ∧ H t = some (.tup (l3V l)) ∧ H r = some (.tup (ns.map V.int)) ∧ ns.length ≤ 1000 ∧ ∀ q H', H q = none → H' q = some (.tup ((ns.filter fun v => !holdsL l v).map V.int)) → Same H H' → Q (.ref q) H'
theorem same_none {H H' : Hp} (h : Same H H') {q : Addr} (e : H' q = none) : H q = none := by
  cases e2 : H q with
  | none => rfl
  | some o => rw [h _ _ e2] at e; cases e
noncomputable def onI (p : Int → Bool) : V → Bool | .int v => p v | _ => false
theorem filter_onI (p : Int → Bool) (ns : List Int) : (ns.map V.int).filter (onI p) = (ns.filter p).map V.int := by
  induction ns with
  | nil => rfl
  | cons n ns ih =>
    rw [List.map_cons, List.filter_cons, List.filter_cons, ih]
    show (if p n = true then _ else _) = _
    by_cases h : p n = true
    · simp [h]
    · simp [h]
theorem mem_putK {kvs : List (Key × V)} {k : Key} {v : V} {x : Key × V} (hk : k ∈ kvs.map (·.1)) (hx : x ∈ putK kvs k v) : x = (k, v) ∨ (x ∈ kvs ∧ x.1 ≠ k) := by
  obtain ⟨y0, hy0, e0⟩ := List.mem_map.mp hk
  have ha : (kvs.any fun kv => decide (kv.1 = k)) = true := List.any_eq_true.mpr ⟨y0, hy0, by simpa using e0⟩
  unfold putK at hx
  rw [if_pos ha] at hx
  obtain ⟨y, hy, rfl⟩ := List.mem_map.mp hx
  by_cases e : y.1 = k
  · rw [if_pos e]; left; rw [e]
  · rw [if_neg e]; exact .inr ⟨hy, e⟩
theorem keys_putK {kvs : List (Key × V)} {k : Key} {v : V} (hk : k ∈ kvs.map (·.1)) : (putK kvs k v).map (·.1) = kvs.map (·.1) := by
  obtain ⟨y0, hy0, e0⟩ := List.mem_map.mp hk
  have ha : (kvs.any fun kv => decide (kv.1 = k)) = true := List.any_eq_true.mpr ⟨y0, hy0, by simpa using e0⟩
  unfold putK
  rw [if_pos ha, List.map_map]
  refine List.map_congr_left fun y _ => ?_
  show (if y.1 = k then (y.1, v) else y).1 = y.1
  split <;> rfl
theorem RoomsK.put {H H' : Hp} {kvs : List (Key × V)} {rm : Str → List Int} {c : Str} {t : Addr} {ns : List Int} (h : RoomsK H kvs rm) (hk : Sum.inr c ∈ kvs.map (·.1)) (s : ∀ a vs, H a = some (.tup vs) → H' a = some (.tup vs)) (ht : H' t = some (.tup (ns.map V.int))) : RoomsK H' (putK kvs (Sum.inr c) (.ref t)) (setF rm c ns) := fun x hx => by
  rcases mem_putK hk hx with e | ⟨e, hne⟩
  · exact ⟨c, t, e, by unfold setF; rw [if_pos rfl]; exact ht⟩
  · obtain ⟨c', a, rfl, ha⟩ := h x e
    exact ⟨c', a, rfl, by unfold setF; rw [if_neg (fun z => hne (by rw [z]))]; exact s _ _ ha⟩
noncomputable def untL (l : L3) (rm : Str → List Int) : Prop := ∀ v ∈ rm l.1, holdsL l v = false
noncomputable def truL (l : L3) (rm : Str → List Int) : Prop := ∀ v ∈ rm l.1, holdsL l v = true
noncomputable def goodR (cs : List Str) (rm : Str → List Int) : Prop := ∀ c ∈ cs, rm c ≠ [] ∧ (rm c).Nodup
noncomputable def subR (cs : List Str) (r' r : Str → List Int) : Prop := ∀ c ∈ cs, ∀ v ∈ r' c, v ∈ r c
noncomputable def closedC (rm : Str → List Int) (c : List L3) : Prop := (∃ l ∈ c, ¬ untL l rm) ∧ ∀ l ∈ c, (∀ m ∈ c, m ≠ l → untL m rm) → truL l rm
noncomputable def litOk (cs : List Str) (l : L3) : Prop := l.1 ∈ cs ∧ (l.2.1 = "is" ∨ l.2.1 = "not")
noncomputable def makeT (l : L3) (rm : Str → List Int) : Str → List Int := setF rm l.1 ((rm l.1).filter fun v => holdsL l v)
theorem subR.refl {cs : List Str} {r : Str → List Int} : subR cs r r := fun _ _ _ h => h
theorem subR.trans {cs : List Str} {a b c : Str → List Int} (h : subR cs a b) (h' : subR cs b c) : subR cs a c := fun x hx v hv => h' x hx v (h x hx v hv)
theorem unt_mono {cs : List Str} {r' r : Str → List Int} {l : L3} (s : subR cs r' r) (hl : l.1 ∈ cs) (h : untL l r) : untL l r' := fun v hv => h v (s _ hl v hv)
theorem tru_mono {cs : List Str} {r' r : Str → List Int} {l : L3} (s : subR cs r' r) (hl : l.1 ∈ cs) (h : truL l r) : truL l r' := fun v hv => h v (s _ hl v hv)
theorem tru_not {cs : List Str} {r : Str → List Int} {l : L3} (g : goodR cs r) (hl : l.1 ∈ cs) (h : truL l r) : ¬ untL l r := fun z => by
  obtain ⟨hne, _⟩ := g _ hl
  obtain ⟨v, hv⟩ := List.exists_mem_of_ne_nil _ hne
  have := (h v hv).symm.trans (z v hv)
  cases this
theorem makeT_at (l : L3) (rm : Str → List Int) : makeT l rm l.1 = (rm l.1).filter fun v => holdsL l v := by unfold makeT setF; rw [if_pos rfl]
theorem makeT_ne {l : L3} {rm : Str → List Int} {c : Str} (h : c ≠ l.1) : makeT l rm c = rm c := by unfold makeT setF; rw [if_neg h]
theorem makeT_tru (l : L3) (rm : Str → List Int) : truL l (makeT l rm) := fun v hv => by rw [makeT_at] at hv; exact (List.mem_filter.mp hv).2
theorem makeT_sub {cs : List Str} (l : L3) (rm : Str → List Int) : subR cs (makeT l rm) rm := fun c _ v hv => by
  by_cases h : c = l.1
  · subst h; rw [makeT_at] at hv; exact (List.mem_filter.mp hv).1
  · rw [makeT_ne h] at hv; exact hv
theorem makeT_good {cs : List Str} {l : L3} {rm : Str → List Int} (g : goodR cs rm) (h : ¬ untL l rm) : goodR cs (makeT l rm) := fun c hc => by
  by_cases e : c = l.1
  · subst e
    rw [makeT_at]
    refine ⟨fun z => h fun v hv => ?_, (g _ hc).2.sublist List.filter_sublist⟩
    have := List.filter_eq_nil_iff.mp z v hv
    simpa using this
  · rw [makeT_ne e]; exact g c hc
theorem makeT_top {cs : List Str} {l : L3} {rm r' : Str → List Int} (s : subR cs r' rm) (h : truL l r') : subR cs r' (makeT l rm) := fun c hc v hv => by
  by_cases e : c = l.1
  · subst e; rw [makeT_at]; exact List.mem_filter.mpr ⟨s _ hc v hv, h v hv⟩
  · rw [makeT_ne e]; exact s c hc v hv
noncomputable def newly (c : Str) (b n : List Int) : List L3 := (b.filter fun v => !decide (v ∈ n)).map (fun v => (c, (Str.ofString "is", v))) ++ (if n.length = 1 ∧ 1 < b.length then [(c, Str.ofString "not", n.headD 0)] else [])
theorem holds_is {c : Str} {v x : Int} : holdsL (c, Str.ofString "is", v) x = decide (x = v) := by unfold holdsL; rw [if_pos rfl]
theorem is_not : ¬ (Str.ofString "not" = Str.ofString "is") := by decide +kernel
theorem holds_not {c : Str} {v x : Int} : holdsL (c, Str.ofString "not", v) x = !decide (x = v) := by unfold holdsL; rw [if_neg is_not]
theorem newly_of {cs : List Str} {l x : L3} {rm : Str → List Int} (g : goodR cs rm) (hx : litOk cs x) (h0 : ¬ untL l rm) (h1 : ¬ untL x rm) (h2 : untL x (makeT l rm)) : x ∈ newly l.1 (rm l.1) (makeT l rm l.1) := by
  have e : x.1 = l.1 := by
    by_cases e : x.1 = l.1
    · exact e
    · exact absurd (fun v hv => h2 v (by rw [makeT_ne e]; exact hv)) h1
  have g2 := makeT_good g h0
  have hl := e ▸ hx.1
  obtain ⟨c, w, v⟩ := x
  dsimp only at e
  subst e
  have hnn := (g2 _ hl).1
  have hnd2 := (g2 _ hl).2
  have hsb := makeT_sub (cs := cs) l rm _ hl
  unfold newly
  rcases hx.2 with hw | hw
  · have hw : w = Str.ofString "is" := hw
    subst hw
    refine List.mem_append_left _ (List.mem_map.mpr ⟨v, List.mem_filter.mpr ⟨?_, ?_⟩, rfl⟩)
    · refine Classical.byContradiction fun z => h1 fun u hu => ?_
      rw [holds_is]
      exact decide_eq_false fun e => z (e ▸ hu)
    · have : v ∉ makeT l rm l.1 := fun z => by
        have := h2 v z
        rw [holds_is] at this
        simp at this
      simpa using this
  · have hw : w = Str.ofString "not" := hw
    subst hw
    have hall : ∀ u ∈ makeT l rm l.1, u = v := fun u hu => by
      have := h2 u hu
      rw [holds_not] at this
      simpa using this
    have hone : makeT l rm l.1 = [v] := by
      generalize makeT l rm l.1 = n at hall hnn hnd2
      match n, hall, hnn, hnd2 with
      | [], _, hnn, _ => exact absurd rfl hnn
      | [u], hall, _, _ => rw [hall u (by simp)]
      | u :: u' :: r, hall, _, hnd =>
        have e1 := hall u (by simp)
        have e2 := hall u' (by simp)
        rw [e1, e2] at hnd
        simp at hnd
    have hb : 1 < (rm l.1).length := by
      have hv : v ∈ rm l.1 := hsb v (by rw [hone]; simp)
      obtain ⟨u, hu, hne⟩ : ∃ u ∈ rm l.1, u ≠ v := Classical.byContradiction fun z => h1 fun u hu => by
        rw [holds_not]
        have : u = v := Classical.byContradiction fun e => z ⟨u, hu, e⟩
        simp [this]
      generalize rm l.1 = b at hv hu
      match b, hv, hu with
      | [], hv, _ => simp at hv
      | [x], hv, hu => simp at hv hu; exact absurd (hu.trans hv.symm) hne
      | x :: y :: r, _, _ => simp
    refine List.mem_append_right _ ?_
    rw [if_pos ⟨by rw [hone]; rfl, hb⟩, hone]
    simp
theorem newly_unt {c : Str} {b n : List Int} {rm : Str → List Int} (e : rm c = n) {x : L3} (hx : x ∈ newly c b n) : untL x rm ∧ x.1 = c ∧ (x.2.1 = Str.ofString "is" ∨ x.2.1 = Str.ofString "not") := by
  unfold newly at hx
  rcases List.mem_append.mp hx with hx | hx
  · obtain ⟨v, hv, rfl⟩ := List.mem_map.mp hx
    refine ⟨fun u hu => ?_, rfl, .inl rfl⟩
    have h2 := (List.mem_filter.mp hv).2
    rw [holds_is]
    dsimp only at hu
    rw [e] at hu
    exact decide_eq_false fun z => by subst z; simp [hu] at h2
  · by_cases h : n.length = 1 ∧ 1 < b.length
    · rw [if_pos h] at hx
      rw [List.mem_singleton.mp hx]
      refine ⟨fun u hu => ?_, rfl, .inr rfl⟩
      rw [holds_not]
      dsimp only at hu
      rw [e] at hu
      match n, h.1, hu with
      | [y], _, hu => simp at hu; simp [hu]
    · rw [if_neg h] at hx
      simp at hx
noncomputable def sizeR (cs : List Str) (rm : Str → List Int) : Nat := (cs.map fun c => (rm c).length).sum
theorem sizeR_set {cs : List Str} {rm : Str → List Int} {c : Str} {n : List Int} (hn : cs.Nodup) (hc : c ∈ cs) : sizeR cs (setF rm c n) + (rm c).length = sizeR cs rm + n.length := by
  induction cs with
  | nil => simp at hc
  | cons x xs ih =>
    rw [List.nodup_cons] at hn
    unfold sizeR at ih ⊢
    simp only [List.map_cons, List.sum_cons]
    by_cases e : x = c
    · subst e
      have hno : (xs.map fun y => (setF rm x n y).length) = xs.map fun y => (rm y).length := List.map_congr_left fun y hy => by unfold setF; rw [if_neg (fun (z : y = x) => hn.1 (z ▸ hy))]
      rw [hno]
      unfold setF
      rw [if_pos rfl]
      omega
    · have := ih hn.2 ((List.mem_cons.mp hc).resolve_left (fun z => e z.symm))
      have h2 : setF rm c n x = rm x := by unfold setF; rw [if_neg e]
      rw [h2]
      omega
theorem filter_len {b : List Int} (p : Int → Bool) (hb : b.Nodup) : (b.filter fun v => !decide (v ∈ b.filter p)).length + (b.filter p).length = b.length := by
  have e : (b.filter fun v => !decide (v ∈ b.filter p)) = b.filter fun v => !p v := List.filter_congr fun v hv => by
    by_cases h : p v = true
    · simp [h, hv]
    · simp [h]
  rw [e]
  induction b with
  | nil => rfl
  | cons x r ih =>
    have ih := ih (List.nodup_cons.mp hb).2
    have e2 : (r.filter fun v => !decide (v ∈ r.filter p)) = r.filter fun v => !p v := List.filter_congr fun v hv => by
      by_cases h : p v = true
      · simp [h, hv]
      · simp [h]
    have ih := ih e2
    by_cases h : p x = true
    · simp [h]; omega
    · simp [h]; omega
theorem newly_len {cs : List Str} {l : L3} {rm : Str → List Int} (hn : cs.Nodup) (hl : l.1 ∈ cs) (g : goodR cs rm) : (newly l.1 (rm l.1) (makeT l rm l.1)).length ≤ 2 * (sizeR cs rm - sizeR cs (makeT l rm)) ∧ sizeR cs (makeT l rm) ≤ sizeR cs rm := by
  have h1 := sizeR_set (n := (rm l.1).filter fun v => holdsL l v) (rm := rm) hn hl
  have h2 := filter_len (fun v => holdsL l v) (g _ hl).2
  rw [makeT_at]
  unfold newly
  rw [List.length_append, List.length_map]
  change sizeR cs (makeT l rm) + _ = _ at h1
  generalize ((rm l.1).filter fun v => !decide (v ∈ (rm l.1).filter fun v => holdsL l v)).length = a at h2 ⊢
  generalize ((rm l.1).filter fun v => holdsL l v).length = n at h1 h2 ⊢
  split
  · simp only [List.length_cons, List.length_nil]; omega
  · simp only [List.length_nil]; omega
structure WR where
  p : Addr
  ls : List L3
  one : L3
  other : L3
structure WOk (cs : List Str) (w : WR) : Prop where
  i1 : w.one ∈ w.ls
  i2 : w.other ∈ w.ls
  ne : w.one ≠ w.other
  ok : ∀ l ∈ w.ls, litOk cs l ∧ okL3 l
noncomputable def wPair (rm : Str → List Int) (pend ahead : List L3) (x y : L3) : Prop := untL x rm → x ∈ pend ∨ y ∈ ahead ∨ truL y rm
noncomputable def doomed (rm : Str → List Int) (ahead : List L3) : Prop := ∃ l ∈ ahead, untL l rm
noncomputable def PInv (ws : List WR) (rm : Str → List Int) (pend ahead : List L3) : Prop := doomed rm ahead ∨ ∀ w ∈ ws, wPair rm pend ahead w.one w.other ∧ wPair rm pend ahead w.other w.one
noncomputable def Snd (cs : List Str) (F : (Str → List Int) → Prop) (rm : Str → List Int) (ahead : List L3) : Prop := ∀ r, F r → subR cs r rm ∧ ∀ l ∈ ahead, truL l r
noncomputable def FOk (cs : List Str) (cls : List (List L3)) (F : (Str → List Int) → Prop) : Prop := ∀ r, F r → goodR cs r ∧ ∀ c ∈ cls, closedC r c
theorem snd_dead {cs : List Str} {cls : List (List L3)} {F : (Str → List Int) → Prop} {rm : Str → List Int} {ahead : List L3} {l : L3} (hF : FOk cs cls F) (s : Snd cs F rm ahead) (hl : l ∈ ahead) (hc : l.1 ∈ cs) (h : untL l rm) : ∀ r, ¬ F r := fun r hr => by
  obtain ⟨h1, h2⟩ := s r hr
  exact tru_not (hF r hr).1 hc (h2 l hl) (unt_mono h1 hc h)
theorem snd_make {cs : List Str} {F : (Str → List Int) → Prop} {rm : Str → List Int} {ahead ahead' : List L3} {l : L3} (s : Snd cs F rm ahead) (hl : l ∈ ahead) (hs : ∀ m ∈ ahead', m ∈ ahead) : Snd cs F (makeT l rm) ahead' := fun r hr => by
  obtain ⟨h1, h2⟩ := s r hr
  exact ⟨makeT_top h1 (h2 l hl), fun m hm => h2 m (hs m hm)⟩
theorem pinv_make {cs : List Str} {ws : List WR} {rm : Str → List Int} {ahead ahead' : List L3} {l : L3} (g : goodR cs rm) (hw : ∀ w ∈ ws, WOk cs w) (h : PInv ws rm [] ahead) (h0 : ¬ untL l rm) (ha : ∀ m ∈ ahead, m = l ∨ m ∈ ahead') (hc : ∀ m ∈ ahead, m.1 ∈ cs) :
    PInv ws (makeT l rm) (newly l.1 (rm l.1) (makeT l rm l.1)) ahead' := by
  have key : ∀ x y, litOk cs x → y.1 ∈ cs → wPair rm [] ahead x y → wPair (makeT l rm) (newly l.1 (rm l.1) (makeT l rm l.1)) ahead' x y := fun x y hx hy hp hu => by
    by_cases e : untL x rm
    · rcases hp e with z | z | z
      · simp at z
      · rcases ha y z with rfl | z
        · exact .inr (.inr (makeT_tru _ _))
        · exact .inr (.inl z)
      · exact .inr (.inr (tru_mono (makeT_sub l rm) hy z))
    · exact .inl (newly_of g hx h0 e hu)
  rcases h with ⟨m, hm, hu⟩ | h
  · rcases ha m hm with rfl | z
    · exact absurd hu h0
    · exact .inl ⟨m, z, unt_mono (makeT_sub l rm) (hc m hm) hu⟩
  · refine .inr fun w hwm => ?_
    have o := hw w hwm
    exact ⟨key _ _ (o.ok _ o.i1).1 (o.ok _ o.i2).1.1 (h w hwm).1, key _ _ (o.ok _ o.i2).1 (o.ok _ o.i1).1.1 (h w hwm).2⟩
theorem PInv.more {ws : List WR} {rm : Str → List Int} {pend ahead ahead' : List L3} (h : PInv ws rm pend ahead) (ha : ∀ m ∈ ahead, m ∈ ahead') : PInv ws rm pend ahead' := by
  rcases h with ⟨m, hm, hu⟩ | h
  · exact .inl ⟨m, ha m hm, hu⟩
  · exact .inr fun w hw => ⟨fun z => ((h w hw).1 z).imp id (.imp (ha _) id), fun z => ((h w hw).2 z).imp id (.imp (ha _) id)⟩
noncomputable def goOver (x x' : L3) (w : WR) : WR := if w.one = x then { w with one := x' } else { w with other := x' }
noncomputable def atP (p : Addr) (f : WR → WR) (ws : List WR) : List WR := ws.map fun w => if w.p = p then f w else w
theorem atP_mem {p : Addr} {f : WR → WR} {ws : List WR} {w : WR} (h : w ∈ atP p f ws) : (∃ v ∈ ws, v.p = p ∧ w = f v) ∨ (w ∈ ws ∧ w.p ≠ p) := by
  unfold atP at h
  obtain ⟨v, hv, e⟩ := List.mem_map.mp h
  by_cases z : v.p = p
  · rw [if_pos z] at e; exact .inl ⟨v, hv, z, e.symm⟩
  · rw [if_neg z] at e; subst e; exact .inr ⟨hv, z⟩
theorem pinv_over {cs : List Str} {ws : List WR} {rm : Str → List Int} {pend ahead : List L3} {x x' : L3} {p : Addr} (g : goodR cs rm) (hw : ∀ w ∈ ws, WOk cs w) (h : PInv ws rm pend ahead) (hp : ∀ w ∈ ws, w.p = p → w.one = x ∨ w.other = x) (hu : untL x rm) (hn : ¬ untL x' rm) :
    PInv (atP p (goOver x x') ws) rm pend ahead := by
  rcases h with h | h
  · exact .inl h
  · by_cases hd : x ∈ ahead
    · exact .inl ⟨x, hd, hu⟩
    refine .inr fun w hw' => ?_
    rcases atP_mem hw' with ⟨v, hv, hvp, rfl⟩ | ⟨hw', _⟩
    · have hx : litOk cs x := by
        rcases hp v hv hvp with e | e
        · exact e ▸ ((hw v hv).ok _ (hw v hv).i1).1
        · exact e ▸ ((hw v hv).ok _ (hw v hv).i2).1
      have key : ∀ y, wPair rm pend ahead y x → wPair rm pend ahead y x' := fun y hy z => by
        rcases hy z with q | q | q
        · exact .inl q
        · exact absurd q hd
        · exact absurd hu (tru_not g hx.1 q)
      unfold goOver
      by_cases e : v.one = x
      · rw [if_pos e]
        exact ⟨fun z => absurd z hn, key _ (e ▸ (h v hv).2)⟩
      · rw [if_neg e]
        have e2 := (hp v hv hvp).resolve_left e
        exact ⟨key _ (e2 ▸ (h v hv).1), fun z => absurd z hn⟩
    · exact h w hw'
noncomputable def KInv (ws : List WR) (x : L3) (rem : List Addr) (ahead : List L3) : Prop := ∀ w ∈ ws, (w.one = x → w.p ∈ rem ∨ w.other ∈ ahead) ∧ (w.other = x → w.p ∈ rem ∨ w.one ∈ ahead)
theorem pinv_done {ws : List WR} {rm : Str → List Int} {pend ahead : List L3} {x : L3} (h : PInv ws rm (x :: pend) ahead) (k : KInv ws x [] ahead) : PInv ws rm pend ahead := by
  rcases h with h | h
  · exact .inl h
  · refine .inr fun w hw => ⟨fun z => ?_, fun z => ?_⟩
    · rcases (h w hw).1 z with q | q
      · rcases List.mem_cons.mp q with e | q
        · rcases (k w hw).1 e with r | r
          · simp at r
          · exact .inr (.inl r)
        · exact .inl q
      · exact .inr q
    · rcases (h w hw).2 z with q | q
      · rcases List.mem_cons.mp q with e | q
        · rcases (k w hw).2 e with r | r
          · simp at r
          · exact .inr (.inl r)
        · exact .inl q
      · exact .inr q
theorem snd_last {cs : List Str} {cls : List (List L3)} {F : (Str → List Int) → Prop} {rm : Str → List Int} {ahead : List L3} {ls : List L3} {y : L3} (hF : FOk cs cls F) (s : Snd cs F rm ahead) (hm : ls ∈ cls) (hok : ∀ l ∈ ls, l.1 ∈ cs) (hy : y ∈ ls) (h : ∀ m ∈ ls, m ≠ y → untL m rm) : Snd cs F rm (ahead ++ [y]) := fun r hr => by
  obtain ⟨h1, h2⟩ := s r hr
  refine ⟨h1, fun l hl => ?_⟩
  rcases List.mem_append.mp hl with z | z
  · exact h2 l z
  · rw [List.mem_singleton.mp z]
    exact ((hF r hr).2 _ hm).2 y hy fun m hm' hne => unt_mono h1 (hok m hm') (h m hm' hne)
noncomputable def RestW (ws : List WR) (rm : Str → List Int) : Prop := ∀ w ∈ ws, (untL w.one rm → truL w.other rm) ∧ (untL w.other rm → truL w.one rm)
theorem rest_of {ws : List WR} {rm : Str → List Int} (h : PInv ws rm [] []) : RestW ws rm := by
  rcases h with ⟨l, hl, _⟩ | h
  · simp at hl
  · exact fun w hw => ⟨fun z => by simpa using (h w hw).1 z, fun z => by simpa using (h w hw).2 z⟩
theorem pinv_of {ws : List WR} {rm : Str → List Int} (h : RestW ws rm) (ahead : List L3) : PInv ws rm [] ahead := .inr fun w hw => ⟨fun z => .inr (.inr ((h w hw).1 z)), fun z => .inr (.inr ((h w hw).2 z))⟩
theorem closed_of {cs : List Str} {rm : Str → List Int} {w : WR} (g : goodR cs rm) (o : WOk cs w) (h1 : untL w.one rm → truL w.other rm) (h2 : untL w.other rm → truL w.one rm) : closedC rm w.ls := by
  refine ⟨?_, fun l hl h => ?_⟩
  · by_cases e : untL w.one rm
    · exact ⟨w.other, o.i2, tru_not g (o.ok _ o.i2).1.1 (h1 e)⟩
    · exact ⟨w.one, o.i1, e⟩
  · by_cases e1 : w.one = l
    · subst e1; exact h2 (h _ o.i2 o.ne.symm)
    · by_cases e2 : w.other = l
      · subst e2; exact h1 (h _ o.i1 e1)
      · exact absurd (h _ o.i2 e2) (tru_not g (o.ok _ o.i2).1.1 (h1 (h _ o.i1 e1)))
theorem closed_tru {cs : List Str} {rm : Str → List Int} {c : List L3} {l : L3} (g : goodR cs rm) (hl : l ∈ c) (hc : l.1 ∈ cs) (h : truL l rm) : closedC rm c := by
  refine ⟨⟨l, hl, tru_not g hc h⟩, fun m hm k => ?_⟩
  by_cases e : l = m
  · subst e; exact h
  · exact absurd (k l hl e) (tru_not g hc h)
noncomputable def Gone (ws : List WR) (rm : Str → List Int) (cs : List Str) (done : List (List L3)) : Prop := ∀ c ∈ done, (∃ w ∈ ws, w.ls = c) ∨ ∃ l ∈ c, l.1 ∈ cs ∧ truL l rm
theorem nodup_len {α : Type} [DecidableEq α] : ∀ {xs ys : List α}, xs.Nodup → (∀ x ∈ xs, x ∈ ys) → xs.length ≤ ys.length
  | [], _, _, _ => Nat.zero_le _
  | x :: xs, ys, hn, h => by
    rw [List.nodup_cons] at hn
    have hx : x ∈ ys := h x (by simp)
    have := nodup_len (xs := xs) (ys := ys.erase x) hn.2 fun y hy => (List.mem_erase_of_ne (fun (e : y = x) => hn.1 (e ▸ hy))).mpr (h y (by simp [hy]))
    rw [List.length_erase_of_mem hx] at this
    have := List.length_pos_of_mem hx
    simp only [List.length_cons]
    omega
noncomputable def keyL (l : L3) : List Key := [Sum.inr l.1, Sum.inr l.2.1, Sum.inl l.2.2]
theorem keyL_inj {l m : L3} (h : keyL l = keyL m) : l = m := by
  obtain ⟨a, b, c⟩ := l
  obtain ⟨a', b', c'⟩ := m
  simp only [keyL, List.cons.injEq, Sum.inr.injEq, Sum.inl.injEq, and_true] at h
  obtain ⟨rfl, rfl, rfl⟩ := h
  rfl
noncomputable abbrev Tk := List (List Key × V)
noncomputable abbrev Reg := L3 → List Addr
noncomputable def setR (reg : Reg) (l : L3) (ps : List Addr) : Reg := fun m => if m = l then ps else reg m
theorem setR_same {reg : Reg} {l : L3} {ps : List Addr} : setR reg l ps l = ps := by unfold setR; rw [if_pos rfl]
theorem setR_ne {reg : Reg} {l m : L3} {ps : List Addr} (h : m ≠ l) : setR reg l ps m = reg m := by unfold setR; rw [if_neg h]
noncomputable def RegAt (H : Hp) (tk : Tk) (reg : Reg) : Prop := ∀ l, (valV tk (keyL l) = none ∧ reg l = []) ∨ ∃ a, valV tk (keyL l) = some (.ref a) ∧ H a = some (.lst ((reg l).map V.ref))
noncomputable def InjT (tk : Tk) : Prop := ∀ l m a, valV tk (keyL l) = some (.ref a) → valV tk (keyL m) = some (.ref a) → l = m
structure DTab (U : List L3) (H : Hp) (wd : Addr) (tk : Tk) (reg : Reg) : Prop where
  hd : H wd = some (.dT tk)
  ra : RegAt H tk reg
  inj : InjT tk
  kn : (tk.map (·.1)).Nodup
  ku : ∀ x ∈ tk, ∃ l ∈ U, x.1 = keyL l
noncomputable def OwnT (wd : Addr) (tk : Tk) (b : Addr) : Prop := b = wd ∨ ∃ l, valV tk (keyL l) = some (.ref b)
section
variable {U : List L3} {H H' : Hp} {wd a z b : Addr} {tk : Tk} {reg : Reg} {l : L3} {ps : List Addr}
theorem DTab.len (t : DTab U H wd tk reg) : tk.length ≤ U.length := by
  have := nodup_len (ys := U.map keyL) t.kn fun x hx => by
    obtain ⟨y, hy, rfl⟩ := List.mem_map.mp hx
    obtain ⟨l, hl, e⟩ := t.ku y hy
    exact List.mem_map.mpr ⟨l, hl, e.symm⟩
  simpa using this
theorem DTab.own (t : DTab U H wd tk reg) (h : OwnT wd tk b) : (∃ kv, H b = some (.dT kv)) ∨ ∃ vs, H b = some (.lst vs) := by
  rcases h with rfl | ⟨l, h⟩
  · exact .inl ⟨_, t.hd⟩
  · rcases t.ra l with ⟨e, _⟩ | ⟨a, e, ha⟩
    · rw [e] at h; cases h
    · rw [e] at h; cases h; exact .inr ⟨_, ha⟩
theorem DTab.keep (t : DTab U H wd tk reg) (k : ∀ b o, OwnT wd tk b → H b = some o → H' b = some o) : DTab U H' wd tk reg :=
  ⟨k _ _ (.inl rfl) t.hd, fun l => (t.ra l).imp id fun zq27 => by obtain ⟨a, e, ha⟩ := zq27; exact (⟨a, e, k _ _ (.inr ⟨l, e⟩) ha⟩), t.inj, t.kn, t.ku⟩
theorem nodup_put {kvs : Tk} {k : List Key} {v : V} (h : (kvs.map (·.1)).Nodup) (hn : valV kvs k = none) : ((putK kvs k v).map (·.1)).Nodup := by
  rw [putK_new _ hn, List.map_append, List.nodup_append]
  refine ⟨h, by simp, fun x hx y hy e => ?_⟩
  simp at hy
  subst hy e
  obtain ⟨p, hp, rfl⟩ := List.mem_map.mp hx
  have := valV_mem h hp
  rw [hn] at this
  cases this
theorem DTab.put (t : DTab U H wd tk reg) (hz : ∀ m, valV tk (keyL m) ≠ some (.ref z)) (hl : l ∈ U) (hn : valV tk (keyL l) = none) (h1 : H' wd = some (.dT (putK tk (keyL l) (.ref z)))) (h2 : H' z = some (.lst (ps.map V.ref)))
    (k : ∀ b o, (∃ m, valV tk (keyL m) = some (.ref b)) → H b = some o → H' b = some o) : DTab U H' wd (putK tk (keyL l) (.ref z)) (setR reg l ps) := by
  refine ⟨h1, fun m => ?_, fun m m' c e e' => ?_, nodup_put t.kn hn, fun x hx => ?_⟩
  · rw [valV_put]
    by_cases e : m = l
    · subst e
      rw [if_pos rfl, setR_same]
      exact .inr ⟨z, rfl, h2⟩
    · rw [if_neg (fun q => e (keyL_inj q)), setR_ne e]
      exact (t.ra m).imp id fun zq28 => by obtain ⟨a, e, ha⟩ := zq28; exact (⟨a, e, k _ _ ⟨m, e⟩ ha⟩)
  · rw [valV_put] at e e'
    by_cases q : m = l
    · by_cases q' : m' = l
      · rw [q, q']
      · rw [if_pos (by rw [q])] at e
        rw [if_neg (fun q => q' (keyL_inj q))] at e'
        cases e
        exact absurd e' (hz m')
    · rw [if_neg (fun z => q (keyL_inj z))] at e
      by_cases q' : m' = l
      · rw [if_pos (by rw [q'])] at e'
        cases e'
        exact absurd e (hz m)
      · rw [if_neg (fun z => q' (keyL_inj z))] at e'
        exact t.inj m m' c e e'
  · rw [putK_new _ hn] at hx
    rcases List.mem_append.mp hx with q | q
    · exact t.ku x q
    · rw [List.mem_singleton.mp q]; exact ⟨l, hl, rfl⟩
theorem DTab.old (t : DTab U H wd tk reg) (ha : valV tk (keyL l) = some (.ref a)) (h1 : H' a = some (.lst (ps.map V.ref))) (k : ∀ b o, OwnT wd tk b → b ≠ a → H b = some o → H' b = some o) : DTab U H' wd tk (setR reg l ps) := by
  have hwa : wd ≠ a := fun e => by
    rcases t.ra l with ⟨e1, _⟩ | ⟨a', e1, h2⟩
    · rw [e1] at ha; cases ha
    · rw [e1] at ha; cases ha
      rw [← e, t.hd] at h2
      cases h2
  refine ⟨k _ _ (.inl rfl) hwa t.hd, fun m => ?_, t.inj, t.kn, t.ku⟩
  by_cases e : m = l
  · subst e
    rw [setR_same]
    exact .inr ⟨a, ha, h1⟩
  · rw [setR_ne e]
    refine (t.ra m).imp id fun ⟨c, e1, hc⟩ => ⟨c, e1, k _ _ (.inr ⟨m, e1⟩) (fun z => e ?_) hc⟩
    subst z
    exact t.inj _ _ _ e1 ha
theorem valV_dropK {kvs : Tk} {k j : List Key} : valV (dropK kvs k) j = if j = k then none else valV kvs j := by
  induction kvs with
  | nil => unfold dropK valV; simp
  | cons p r ih =>
    by_cases e : p.1 = k
    · rw [dropK_pos e, ih]
      by_cases q : j = k
      · rw [if_pos q, if_pos q]
      · rw [if_neg q, if_neg q, valV_neg (fun z => q (z.symm.trans e))]
    · rw [dropK_neg e]
      by_cases q : p.1 = j
      · rw [valV_pos q, valV_pos q, if_neg (fun z => e (q.trans z))]
      · rw [valV_neg q, valV_neg q, ih]
theorem DTab.drop (t : DTab U H wd tk reg) (h1 : H' wd = some (.dT (dropK tk (keyL l)))) (k : ∀ b o, (∃ m, valV tk (keyL m) = some (.ref b)) → H b = some o → H' b = some o) : DTab U H' wd (dropK tk (keyL l)) (setR reg l []) := by
  refine ⟨h1, fun m => ?_, fun m m' c e e' => ?_, nd_dropK t.kn, fun x hx => t.ku x (dropK_mem hx)⟩
  · rw [valV_dropK]
    by_cases e : m = l
    · subst e; rw [if_pos rfl, setR_same]; exact .inl ⟨rfl, rfl⟩
    · rw [if_neg (fun q => e (keyL_inj q)), setR_ne e]
      exact (t.ra m).imp id fun zq29 => by obtain ⟨a, e, ha⟩ := zq29; exact (⟨a, e, k _ _ ⟨m, e⟩ ha⟩)
  · rw [valV_dropK] at e e'
    by_cases q : keyL m = keyL l
    · rw [if_pos q] at e; cases e
    · by_cases q' : keyL m' = keyL l
      · rw [if_pos q'] at e'; cases e'
      · rw [if_neg q] at e; rw [if_neg q'] at e'; exact t.inj _ _ _ e e'
end
noncomputable def Fr (O : Addr → Prop) (H : Hp) (O' : Addr → Prop) (H' : Hp) : Prop := (∀ b o, ¬ O b → H b = some o → H' b = some o) ∧ ∀ b, O' b → O b ∨ H b = none
theorem Fr.refl {O : Addr → Prop} {H : Hp} : Fr O H O H := ⟨fun _ _ _ e => e, fun _ h => .inl h⟩
theorem Fr.same {O : Addr → Prop} {H H' : Hp} (s : Same H H') : Fr O H O H' := ⟨fun _ _ _ e => s _ _ e, fun _ h => .inl h⟩
theorem Fr.stay {O O' : Addr → Prop} {H H' : Hp} {b : Addr} {o : HO} (f : Fr O H O' H') (n : ¬ O b) (e : H b = some o) : H' b = some o ∧ ¬ O' b :=
  ⟨f.1 b o n e, fun h => (f.2 b h).elim n fun z => by rw [z] at e; cases e⟩
theorem Fr.trans {O O1 O2 : Addr → Prop} {H H1 H2 : Hp} (f : Fr O H O1 H1) (g : Fr O1 H1 O2 H2) : Fr O H O2 H2 := by
  refine ⟨fun b o n e => ?_, fun b h => ?_⟩
  · obtain ⟨e1, n1⟩ := f.stay n e
    exact g.1 b o n1 e1
  · rcases g.2 b h with q | q
    · exact f.2 b q
    · by_cases n : O b
      · exact .inl n
      · right
        cases e : H b with
        | none => rfl
        | some o => rw [f.1 b o n e] at q; cases q
structure RegOk (ws : List WR) (reg : Reg) : Prop where
  nd : ∀ l, (reg l).Nodup
  so : ∀ l, ∀ p ∈ reg l, ∃ w ∈ ws, w.p = p ∧ (w.one = l ∨ w.other = l)
  co : ∀ w ∈ ws, w.p ∈ reg w.one ∧ w.p ∈ reg w.other
theorem wr_eq {ws : List WR} (hn : (ws.map (·.p)).Nodup) {w w' : WR} (hw : w ∈ ws) (hw' : w' ∈ ws) (e : w.p = w'.p) : w = w' := by
  induction ws with
  | nil => simp at hw
  | cons x xs ih =>
    rw [List.map_cons, List.nodup_cons] at hn
    rcases List.mem_cons.mp hw with q | q
    · rcases List.mem_cons.mp hw' with q' | q'
      · rw [q, q']
      · exact absurd (List.mem_map.mpr ⟨w', q', by rw [← e, q]⟩) hn.1
    · rcases List.mem_cons.mp hw' with q' | q'
      · exact absurd (List.mem_map.mpr ⟨w, q, by rw [e, q']⟩) hn.1
      · exact ih hn.2 q q'
theorem atP_of {p : Addr} {f : WR → WR} {ws : List WR} {w : WR} (h : w ∈ ws) : (if w.p = p then f w else w) ∈ atP p f ws := List.mem_map.mpr ⟨w, h, rfl⟩
theorem atP_p {p : Addr} {f : WR → WR} {ws : List WR} (hf : ∀ w, (f w).p = w.p) : (atP p f ws).map (·.p) = ws.map (·.p) := by
  unfold atP
  rw [List.map_map]
  refine List.map_congr_left fun w _ => ?_
  show (if w.p = p then f w else w).p = w.p
  split
  · exact hf w
  · rfl
theorem goOver_p (x x' : L3) (w : WR) : (goOver x x' w).p = w.p := by unfold goOver; split <;> rfl
theorem goOver_ls (x x' : L3) (w : WR) : (goOver x x' w).ls = w.ls := by unfold goOver; split <;> rfl
noncomputable def besideL (x : L3) (w : WR) : L3 := if x = w.one then w.other else w.one
theorem goOver_two {x x' : L3} {w : WR} (h : w.one = x ∨ w.other = x) (hne : w.one ≠ w.other) : ((goOver x x' w).one = x' ∧ (goOver x x' w).other = besideL x w) ∨ ((goOver x x' w).other = x' ∧ (goOver x x' w).one = besideL x w) := by
  unfold goOver besideL
  by_cases e : w.one = x
  · rw [if_pos e, if_pos e.symm]; exact .inl ⟨rfl, rfl⟩
  · rw [if_neg e, if_neg (fun z => e z.symm)]; exact .inr ⟨rfl, rfl⟩
theorem two_of {x : L3} {w : WR} (h : w.one = x ∨ w.other = x) (hne : w.one ≠ w.other) : (w.one = x ∧ w.other = besideL x w) ∨ (w.other = x ∧ w.one = besideL x w) := by
  unfold besideL
  by_cases e : w.one = x
  · rw [if_pos e.symm]; exact .inl ⟨e, rfl⟩
  · rw [if_neg (fun z => e z.symm)]; exact .inr ⟨h.resolve_left e, rfl⟩
theorem reg_over {cs : List Str} {ws : List WR} {reg reg' : Reg} {x x' : L3} {w : WR} (ok : RegOk ws reg) (hn : (ws.map (·.p)).Nodup) (hw : w ∈ ws) (o : WOk cs w) (hx : w.one = x ∨ w.other = x) (hxx : x' ≠ x) (hxy : x' ≠ besideL x w)
    (e1 : reg' x' = reg x' ++ [w.p]) (e2 : (reg' x).Nodup ∧ ∀ p, p ∈ reg' x ↔ p ∈ reg x ∧ p ≠ w.p) (e3 : ∀ l, l ≠ x → l ≠ x' → reg' l = reg l) : RegOk (atP w.p (goOver x x') ws) reg' := by
  have hno : w.p ∉ reg x' := fun z => by
    obtain ⟨v, hv, ep, h⟩ := ok.so _ _ z
    have := wr_eq hn hv hw ep
    subst this
    rcases two_of hx o.ne with ⟨h1, h2⟩ | ⟨h1, h2⟩
    · rcases h with h | h
      · exact hxx (h.symm.trans h1)
      · exact hxy (h.symm.trans h2)
    · rcases h with h | h
      · exact hxy (h.symm.trans h2)
      · exact hxx (h.symm.trans h1)
  refine ⟨fun l => ?_, fun l p hp => ?_, fun v hv => ?_⟩
  · by_cases q : l = x
    · subst q; exact e2.1
    · by_cases q' : l = x'
      · subst q'
        rw [e1, List.nodup_append]
        exact ⟨ok.nd _, by simp, fun a ha b hb e => by simp at hb; subst hb e; exact hno ha⟩
      · rw [e3 l q q']; exact ok.nd l
  · by_cases hpw : p = w.p
    · subst hpw
      refine ⟨goOver x x' w, by have := atP_of (p := w.p) (f := goOver x x') hw; rwa [if_pos rfl] at this, goOver_p _ _ _, ?_⟩
      have g2 := goOver_two (x' := x') hx o.ne
      by_cases q' : l = x'
      · subst q'; rcases g2 with ⟨h, _⟩ | ⟨h, _⟩ <;> simp [h]
      · by_cases q : l = x
        · subst q; exact absurd rfl ((e2.2 _).mp hp).2
        · rw [e3 l q q'] at hp
          obtain ⟨v, hv, ep, h⟩ := ok.so _ _ hp
          have := wr_eq hn hv hw ep
          subst this
          have hb : l = besideL x v := by
            rcases two_of hx o.ne with ⟨h1, h2⟩ | ⟨h1, h2⟩
            · rcases h with h | h
              · exact absurd (h.symm.trans h1) q
              · exact h.symm.trans h2
            · rcases h with h | h
              · exact h.symm.trans h2
              · exact absurd (h.symm.trans h1) q
          rw [hb]
          rcases g2 with ⟨_, h⟩ | ⟨_, h⟩ <;> simp [h]
    · have hp' : p ∈ reg l := by
        by_cases q : l = x
        · subst q; exact ((e2.2 _).mp hp).1
        · by_cases q' : l = x'
          · subst q'
            rw [e1] at hp
            rcases List.mem_append.mp hp with z | z
            · exact z
            · exact absurd (List.mem_singleton.mp z) hpw
          · rwa [e3 l q q'] at hp
      obtain ⟨v, hv, ep, h⟩ := ok.so _ _ hp'
      refine ⟨v, ?_, ep, h⟩
      have := atP_of (p := w.p) (f := goOver x x') hv
      rwa [if_neg (fun z => hpw (ep.symm.trans z))] at this
  · rcases atP_mem hv with ⟨v0, hv0, ep, rfl⟩ | ⟨hv0, ep⟩
    · have := wr_eq hn hv0 hw ep
      subst this
      rw [goOver_p]
      have m1 : v0.p ∈ reg' x' := by rw [e1]; simp
      have hyx : besideL x v0 ≠ x := fun z => by
        rcases two_of hx o.ne with ⟨h1, h2⟩ | ⟨h1, h2⟩
        · exact o.ne (h1.trans (z.symm.trans h2.symm))
        · exact o.ne (h2.trans (z.trans h1.symm))
      have m2 : v0.p ∈ reg' (besideL x v0) := by
        rw [e3 _ hyx (fun z => hxy z.symm)]
        rcases two_of hx o.ne with ⟨_, h2⟩ | ⟨_, h2⟩
        · rw [← h2]; exact (ok.co v0 hv0).2
        · rw [← h2]; exact (ok.co v0 hv0).1
      rcases goOver_two (x' := x') hx o.ne with ⟨h1, h2⟩ | ⟨h1, h2⟩
      · rw [h1, h2]; exact ⟨m1, m2⟩
      · rw [h1, h2]; exact ⟨m2, m1⟩
    · have key : ∀ l, v.p ∈ reg l → v.p ∈ reg' l := fun l hl => by
        by_cases q : l = x
        · subst q; exact (e2.2 _).mpr ⟨hl, ep⟩
        · by_cases q' : l = x'
          · subst q'; rw [e1]; exact List.mem_append_left _ hl
          · rw [e3 l q q']; exact hl
      exact ⟨key _ (ok.co v hv0).1, key _ (ok.co v hv0).2⟩
theorem wok_over {cs : List Str} {w : WR} {x x' : L3} (o : WOk cs w) (hx : w.one = x ∨ w.other = x) (hm : x' ∈ w.ls) (hxy : x' ≠ besideL x w) : WOk cs (goOver x x' w) := by
  have hb : besideL x w ∈ w.ls := by
    rcases two_of hx o.ne with ⟨_, h⟩ | ⟨_, h⟩
    · rw [← h]; exact o.i2
    · rw [← h]; exact o.i1
  rcases goOver_two (x' := x') hx o.ne with ⟨h1, h2⟩ | ⟨h1, h2⟩
  · exact ⟨by rw [goOver_ls, h1]; exact hm, by rw [goOver_ls, h2]; exact hb, by rw [h1, h2]; exact hxy, by rw [goOver_ls]; exact o.ok⟩
  · exact ⟨by rw [goOver_ls, h2]; exact hb, by rw [goOver_ls, h1]; exact hm, by rw [h1, h2]; exact hxy.symm, by rw [goOver_ls]; exact o.ok⟩
theorem kinv_over {ws : List WR} {x x' : L3} {w : WR} {rem : List Addr} {ahead : List L3} (h : KInv ws x (w.p :: rem) ahead) (hn : (ws.map (·.p)).Nodup) (hw : w ∈ ws) (hx : w.one = x ∨ w.other = x) (hne : w.one ≠ w.other) (hxx : x' ≠ x) (hxb : besideL x w ≠ x) : KInv (atP w.p (goOver x x') ws) x rem ahead := fun v hv => by
  rcases atP_mem hv with ⟨v0, hv0, ep, rfl⟩ | ⟨hv0, ep⟩
  · have := wr_eq hn hv0 hw ep
    subst this
    rcases goOver_two (x' := x') hx hne with ⟨h1, h2⟩ | ⟨h1, h2⟩
    · rw [h1, h2]; exact ⟨fun z => absurd z hxx, fun z => absurd z hxb⟩
    · rw [h1, h2]; exact ⟨fun z => absurd z hxb, fun z => absurd z hxx⟩
  · obtain ⟨h1, h2⟩ := h v hv0
    exact ⟨fun z => (h1 z).imp (fun q => (List.mem_cons.mp q).resolve_left ep) id, fun z => (h2 z).imp (fun q => (List.mem_cons.mp q).resolve_left ep) id⟩
theorem kinv_last {ws : List WR} {x : L3} {w : WR} {rem : List Addr} {ahead : List L3} (h : KInv ws x (w.p :: rem) ahead) (hn : (ws.map (·.p)).Nodup) (hw : w ∈ ws) (hx : w.one = x ∨ w.other = x) (hne : w.one ≠ w.other) : KInv ws x rem (ahead ++ [besideL x w]) := fun v hv => by
  by_cases e : v.p = w.p
  · have := wr_eq hn hv hw e
    subst this
    rcases two_of hx hne with ⟨h1, h2⟩ | ⟨h1, h2⟩
    · exact ⟨fun _ => .inr (by rw [h2]; simp), fun z => absurd (h1.trans z.symm) hne⟩
    · exact ⟨fun z => absurd (z.trans h1.symm) hne, fun _ => .inr (by rw [h2]; simp)⟩
  · obtain ⟨h1, h2⟩ := h v hv
    exact ⟨fun z => (h1 z).imp (fun q => (List.mem_cons.mp q).resolve_left e) (List.mem_append_left _), fun z => (h2 z).imp (fun q => (List.mem_cons.mp q).resolve_left e) (List.mem_append_left _)⟩
noncomputable def fsW (ct t1 t2 : Addr) : List (Str × V) := [(Str.ofString "clause", .ref ct), (Str.ofString "one", .ref t1), (Str.ofString "other", .ref t2)]
noncomputable def fsU (rd wd : Addr) (b : Bool) : List (Str × V) := [(Str.ofString "rooms", .ref rd), (Str.ofString "watches", .ref wd), (Str.ofString "dead", .bl b)]
theorem fsW_clause {ct t1 t2 : Addr} : (fsW ct t1 t2).lookup (Str.ofString "clause") = some (.ref ct) := by rfl
theorem fsW_one {ct t1 t2 : Addr} : (fsW ct t1 t2).lookup (Str.ofString "one") = some (.ref t1) := by rfl
theorem fsW_other {ct t1 t2 : Addr} : (fsW ct t1 t2).lookup (Str.ofString "other") = some (.ref t2) := by rfl
theorem fsW_beside {ct t1 t2 : Addr} : (fsW ct t1 t2).lookup (Str.ofString "beside") = none := by rfl
theorem fsW_instead {ct t1 t2 : Addr} : (fsW ct t1 t2).lookup (Str.ofString "instead_of") = none := by rfl
theorem fsW_put {ct t1 t2 : Addr} : (fsW ct t1 t2).lookup (Str.ofString "put_instead_of") = none := by rfl
theorem fsU_rooms {rd wd : Addr} {b : Bool} : (fsU rd wd b).lookup (Str.ofString "rooms") = some (.ref rd) := by rfl
theorem fsU_watches {rd wd : Addr} {b : Bool} : (fsU rd wd b).lookup (Str.ofString "watches") = some (.ref wd) := by rfl
theorem fsU_dead {rd wd : Addr} {b : Bool} : (fsU rd wd b).lookup (Str.ofString "dead") = some (.bl b) := by rfl
theorem fsU_set {rd wd : Addr} {b : Bool} : (fsU rd wd b).lookup (Str.ofString "set_watch") = none := by rfl
theorem fsU_go {rd wd : Addr} {b : Bool} : (fsU rd wd b).lookup (Str.ofString "go_by") = none := by rfl
theorem fsU_lives {rd wd : Addr} {b : Bool} : (fsU rd wd b).lookup (Str.ofString "lives_with") = none := by rfl
theorem fsU_last {rd wd : Addr} {b : Bool} : (fsU rd wd b).lookup (Str.ofString "last_ones") = none := by rfl
theorem putW_one {ct t1 t2 t : Addr} : putF (Str.ofString "one") (.ref t) (fsW ct t1 t2) = fsW ct t t2 := by rfl
theorem putW_other {ct t1 t2 t : Addr} : putF (Str.ofString "other") (.ref t) (fsW ct t1 t2) = fsW ct t1 t := by rfl
theorem putU_dead {rd wd : Addr} {b b' : Bool} : putF (Str.ofString "dead") (.bl b') (fsU rd wd b) = fsU rd wd b' := by rfl
theorem putU_new {rd wd : Addr} {b : Bool} : putF (Str.ofString "dead") (.bl b) (putF (Str.ofString "watches") (.ref wd) (putF (Str.ofString "rooms") (.ref rd) [])) = fsU rd wd b := by rfl
theorem fsW_len {ct t1 t2 : Addr} : (fsW ct t1 t2).length < 1000 := by show 3 < 1000; decide
theorem fsU_len {rd wd : Addr} {b : Bool} : (fsU rd wd b).length < 1000 := by show 3 < 1000; decide
theorem putF1 (a : Str) (x : V) : (putF a x []).length < 1000 := by have := length_putF a x []; simp at this; omega
theorem putF2 (a b : Str) (x y : V) : (putF b y (putF a x [])).length < 1000 := by have := length_putF a x []; have := length_putF b y (putF a x []); simp at *; omega
noncomputable def WatchAt (mg : Str → Option Value) (H : Hp) (w : WR) : Prop := ∃ dx ct us t1 t2, H w.p = some (.ins (clsAt mg "Watch") dx (fsW ct t1 t2)) ∧ H ct = some (.tup us) ∧ Rows3 H us w.ls ∧ H t1 = some (.tup (l3V w.one)) ∧ H t2 = some (.tup (l3V w.other))
theorem WatchAt.keep {mg : Str → Option Value} {H H' : Hp} {w : WR} (h : WatchAt mg H w) (k : ∀ o, H w.p = some o → H' w.p = some o) (kt : ∀ a vs, H a = some (.tup vs) → H' a = some (.tup vs)) : WatchAt mg H' w := by
  obtain ⟨dx, ct, us, t1, t2, h1, h2, h3, h4, h5⟩ := h
  exact ⟨dx, ct, us, t1, t2, k _ h1, kt _ _ h2, h3.keep kt, kt _ _ h4, kt _ _ h5⟩
theorem eqv_l3 (x y : L3) : PyData.eqv (l3D x) (l3D y) = decide (x = y) := by
  obtain ⟨a, b, c⟩ := x
  obtain ⟨a', b', c'⟩ := y
  simp [l3D, PyData.eqv, PyData.eqvAll]
  first | rfl | (rw [Bool.eq_iff_iff]; simp)
theorem eqD_l3 {K : PySem.W.Frag} {H : Hp} {t t' : Addr} {x y : L3} {Q : VK} (ht : H t = some (.tup (l3V x))) (ht' : H t' = some (.tup (l3V y))) (h0 : okL3 x) (h1 : okL3 y) (q : Q (.bl (decide (x = y))) H) : rEqD K (.ref t) (.ref t') H Q := by
  refine ⟨l3D x, l3D y, .tup (.of ht) (.cons (.str _) (.cons (.str _) (.cons (.int _) .nil))), .tup (.of ht') (.cons (.str _) (.cons (.str _) (.cons (.int _) .nil))), lay_l3 h0, lay_l3 h1, Nat.le_trans (depth_l3 x) (by decide), ?_⟩
  rw [eqv_l3]
  exact q
theorem neD_l3 {K : PySem.W.Frag} {H : Hp} {t t' : Addr} {x y : L3} {Q : VK} (ht : H t = some (.tup (l3V x))) (ht' : H t' = some (.tup (l3V y))) (h0 : okL3 x) (h1 : okL3 y) (q : Q (.bl (!decide (x = y))) H) : rNeD K (.ref t) (.ref t') H Q := by
  refine ⟨l3D x, l3D y, .tup (.of ht) (.cons (.str _) (.cons (.str _) (.cons (.int _) .nil))), .tup (.of ht') (.cons (.str _) (.cons (.str _) (.cons (.int _) .nil))), lay_l3 h0, lay_l3 h1, Nat.le_trans (depth_l3 x) (by decide), ?_⟩
  rw [eqv_l3]
  exact q
noncomputable def oppL (l : L3) : L3 := (l.1, if l.2.1 = "is" then "not" else "is", l.2.2)
theorem opp_holds (l : L3) (v : Int) : (!holdsL (oppL l) v) = holdsL l v := by
  obtain ⟨c, w, z⟩ := l
  unfold oppL holdsL
  dsimp only
  by_cases h : w = Str.ofString "is"
  · rw [if_pos h, if_pos h, if_neg is_not]; simp
  · rw [if_neg h, if_neg h, if_pos rfl]
theorem room_at {H : Hp} {kvs : List (Key × V)} {cs : List Str} {rm : Str → List Int} {c : Str} (hks : kvs.map (·.1) = cs.map Sum.inr) (hcn : cs.Nodup) (hrk : RoomsK H kvs rm) (hc : c ∈ cs) : ∃ a, valV kvs (Sum.inr c) = some (.ref a) ∧ H a = some (.tup ((rm c).map V.int)) := by
  have hkn : (kvs.map (·.1)).Nodup := by rw [hks]; exact List.pairwise_map.mpr (hcn.imp fun h z => h (Sum.inr.inj z))
  have hm : Sum.inr c ∈ kvs.map (·.1) := by rw [hks]; exact List.mem_map.mpr ⟨c, hc, rfl⟩
  obtain ⟨y, hy, hy1⟩ := List.mem_map.mp hm
  obtain ⟨c', a, rfl, ha⟩ := hrk y hy
  have ec : c' = c := Sum.inr.inj hy1
  subst ec
  exact ⟨a, valV_mem hkn hy, ha⟩
theorem ok_beside {x : L3} {w : WR} (o1 : okL3 w.one) (o2 : okL3 w.other) : okL3 (besideL x w) := by unfold besideL; split; exact o2; exact o1
noncomputable def spUnt : Sp := fun vs H Q _ => ∃ (t r a : Addr) (l : L3) (kvs : List (Key × V)) (ns : List Int), vs = [.ref t, .ref r] ∧ H t = some (.tup (l3V l)) ∧ H r = some (.dK kvs) ∧ valV kvs (Sum.inr l.1) = some (.ref a) ∧ H a = some (.tup (ns.map V.int)) ∧ ns ≠ [] ∧ ns.Nodup ∧ ∀ (b : Bool) H', (b = true ↔ ∀ v ∈ ns, holdsL l v = false) → Same H H' → Q (.bl b) H'
noncomputable def spOpp : Sp := fun vs H Q _ => ∃ (t : Addr) (l : L3), vs = [.ref t] ∧ H t = some (.tup (l3V l)) ∧ ∀ q H', H q = none → H' q = some (.tup (l3V (oppL l))) → Same H H' → Q (.ref q) H'
noncomputable def spNew : Sp := fun vs H Q _ => ∃ (c : Str) (ab an : Addr) (b n : List Int), vs = [.str c, .ref ab, .ref an] ∧ H ab = some (.tup (b.map V.int)) ∧ H an = some (.tup (n.map V.int)) ∧ b.length ≤ 1000 ∧ ∀ q us H', H q = none → H' q = some (.lst us) → Rows3 H' us (newly c b n) → Same H H' → Q (.ref q) H'
noncomputable def spMake : Sp := fun vs H Q _ => ∃ (t r : Addr) (l : L3) (kvs : List (Key × V)) (rm : Str → List Int), vs = [.ref t, .ref r] ∧ H t = some (.tup (l3V l)) ∧ H r = some (.dK kvs) ∧ (kvs.map (·.1)).Nodup ∧ Sum.inr l.1 ∈ kvs.map (·.1) ∧ kvs.length ≤ 500 ∧ RoomsK H kvs rm ∧ (rm l.1).length ≤ 1000 ∧
  ∀ q us kv' H', H q = none → H' q = some (.lst us) → Rows3 H' us (newly l.1 (rm l.1) (makeT l rm l.1)) → H' r = some (.dK kv') → kv'.map (·.1) = kvs.map (·.1) → RoomsK H' kv' (makeT l rm) → ButOne r H H' → Q (.ref q) H'
noncomputable def spWNew (mg : Str → Option Value) : Sp := fun vs H Q _ => ∃ (p dx ct t1 t2 : Addr), vs = [.ref p, .ref ct, .ref t1, .ref t2] ∧ H p = some (.ins (clsAt mg "Watch") dx []) ∧ Q .non (upd H p (.ins (clsAt mg "Watch") dx (fsW ct t1 t2)))
noncomputable def spBeside (mg : Str → Option Value) : Sp := fun vs H Q _ => ∃ (t : Addr) (w : WR) (x : L3), vs = [.ref w.p, .ref t] ∧ WatchAt mg H w ∧ H t = some (.tup (l3V x)) ∧ okL3 x ∧ okL3 w.one ∧ ∀ tb H', H' tb = some (.tup (l3V (besideL x w))) → Same H H' → Q (.ref tb) H'
noncomputable def spInstead (mg : Str → Option Value) : Sp := fun vs H Q _ => ∃ (t r : Addr) (w : WR) (x : L3) (cs : List Str) (kvs : List (Key × V)) (rm : Str → List Int), vs = [.ref w.p, .ref t, .ref r] ∧ WatchAt mg H w ∧ H t = some (.tup (l3V x)) ∧ okL3 x ∧ okL3 w.one ∧ okL3 w.other ∧ H r = some (.dK kvs) ∧ kvs.map (·.1) = cs.map Sum.inr ∧ cs.Nodup ∧ RoomsK H kvs rm ∧ goodR cs rm ∧ (∀ l ∈ w.ls, l.1 ∈ cs ∧ okL3 l) ∧
  ((∀ m ∈ w.ls, m ≠ besideL x w → untL m rm) → ∀ H', Same H H' → Q .non H') ∧ ∀ t' x' H', x' ∈ w.ls → x' ≠ besideL x w → ¬ untL x' rm → H' t' = some (.tup (l3V x')) → Same H H' → Q (.ref t') H'
noncomputable def spPutI (mg : Str → Option Value) : Sp := fun vs H Q _ => ∃ (t t' : Addr) (w : WR) (x x' : L3), vs = [.ref w.p, .ref t, .ref t'] ∧ WatchAt mg H w ∧ H t = some (.tup (l3V x)) ∧ okL3 x ∧ okL3 w.one ∧ H t' = some (.tup (l3V x')) ∧ ∀ H', WatchAt mg H' (goOver x x' w) → ButOne w.p H H' → Q .non H'
noncomputable def spUNew (mg : Str → Option Value) : Sp := fun vs H Q _ => ∃ (u dx r : Addr) (kvs : List (Key × V)), vs = [.ref u, .ref r] ∧ H u = some (.ins (clsAt mg "Units") dx []) ∧ H r = some (.dK kvs) ∧ ∀ rd wd H', H rd = none → H wd = none → rd ≠ wd → H' u = some (.ins (clsAt mg "Units") dx (fsU rd wd false)) → H' rd = some (.dK kvs) → H' wd = some (.dT []) → ButOne u H H' → Q .non H'
noncomputable def spSetW (mg : Str → Option Value) : Sp := fun vs H Q _ => ∃ (u t p dx rd wd : Addr) (bd : Bool) (l : L3) (U : List L3) (tk : Tk) (reg : Reg), vs = [.ref u, .ref t, .ref p] ∧ H u = some (.ins (clsAt mg "Units") dx (fsU rd wd bd)) ∧ H t = some (.tup (l3V l)) ∧ l ∈ U ∧ U.length ≤ 100000 ∧ DTab U H wd tk reg ∧ (reg l).length ≤ 5000 ∧
  ∀ tk' H', DTab U H' wd tk' (setR reg l (reg l ++ [p])) → (∀ m, m ≠ l → valV tk' (keyL m) = valV tk (keyL m)) → Fr (OwnT wd tk) H (OwnT wd tk') H' → Q .non H'
theorem ok_room_against {P : Program} {w : World} {K : PySem.W.Frag} {mg : Str → Option Value} {base : Heap}  (T : Txt K mg) (L : FnL K mg "room_against" s_room_against ["literal", "room"])  : Fn P w K mg base "room_against" 1 ["literal", "room"] (spAgainst) := by
  have nd := sc_room_against.nd
  refine L.ok sc_room_against (fun vs H Q E h => ?_) (fun f cdv A outer s H vs Q E hr h => ?_)
  · obtain ⟨t, r, l, ns, rfl, ht, hr0, hl, k⟩ := h
    rfl
  · obtain ⟨t, r, l, ns, rfl, ht, hr0, hl, k⟩ := h
    have hu := hu_of hr
    refine ⟨_, (pss_cons (ps_if (pt_cmpR op_eq (pe_ix ix_T (pvM 0) pe_int (fun _ _ => rfl)) pe_str (nomark _)) (pss_one (ps_ret (pe_callTy call_tupL rfl T.b_tuple (show bootBuiltins "tuple" = some (.type "tuple") by decide +kernel) (pa_cons (pe_comp (N := ["value", "literal"]) (nt := 1) (js := [0]) rfl (compOk_of ["literal", "room"] (defScope s_room_against).names rfl rfl rfl (by decide +kernel)) (pi_TK (K := K) rfl (pvM 1)) (fun _ _ _ _ _ _ => (pg_name (i := 0) (show List.Nodup [("value" : Str), ("literal" : Str)] by decide +kernel) rfl (Or.inl rfl))) (tgOk_name (by decide)) (fun _ _ _ _ _ _ => pts_one (pt_cmpR op_ne (pvM 0) (pe_ix ix_T (pvM 1) pe_int (fun _ _ => rfl)) (nomark _))) (fun _ _ _ _ _ _ => (pvM 0))) pa_nil)))) pss_nil)
      (pss_one (ps_ret (pe_callTy call_tupL rfl T.b_tuple (show bootBuiltins "tuple" = some (.type "tuple") by decide +kernel) (pa_cons (pe_comp (N := ["value", "literal"]) (nt := 1) (js := [0]) rfl (compOk_of ["literal", "room"] (defScope s_room_against).names rfl rfl rfl (by decide +kernel)) (pi_TK (K := K) rfl (pvM 1)) (fun _ _ _ _ _ _ => (pg_name (i := 0) (show List.Nodup [("value" : Str), ("literal" : Str)] by decide +kernel) rfl (Or.inl rfl))) (tgOk_name (by decide)) (fun _ _ _ _ _ _ => pts_one (pt_cmpR op_eq (pvM 0) (pe_ix ix_T (pvM 1) pe_int (fun _ _ => rfl)) (nomark _))) (fun _ _ _ _ _ _ => (pvM 0))) pa_nil))))), ?_⟩
    obtain ⟨c, w, z⟩ := l
    dsimp only [l3V] at ht
    (try ctx_has vcx true_and ht hr0)
    by_cases h : w = Str.ofString "is"
    · rw [if_pos h]
      intro D hD
      refine comp_filterS wlk_tup (onI fun v => !decide (v = z)) id hD (fun H' s => .of (s _ _ hr0)) (by simp; omega) ?_ ?_ ?_
      · intro x H3 Q3 hx sm q3
        obtain ⟨v, _, rfl⟩ := List.mem_map.mp hx
        have e := sm _ _ ht
        (try ctx_has vcx true_and e)
        exact q3 H3 (Same.refl _)
      · intro x H3 Q3 hx hp sm q3
        (try ctx_has vcx true_and)
        exact q3 H3 (Same.refl _)
      · intro H3 sm h3
        rw [filter_onI, List.map_id] at h3
        (try ctx_has vcx true_and h3)
        intro q hq
        refine k q _ (same_none sm hq) ?_ (sm.upd_new hq)
        rw [upd_same]
        have : (fun v => !holdsL (c, w, z) v) = fun v => !decide (v = z) := by
          funext v
          unfold holdsL
          dsimp only
          rw [if_pos h]
        rw [this]
    · rw [if_neg h]
      intro D hD
      refine comp_filterS wlk_tup (onI fun v => decide (v = z)) id hD (fun H' s => .of (s _ _ hr0)) (by simp; omega) ?_ ?_ ?_
      · intro x H3 Q3 hx sm q3
        obtain ⟨v, _, rfl⟩ := List.mem_map.mp hx
        have e := sm _ _ ht
        (try ctx_has vcx true_and e)
        exact q3 H3 (Same.refl _)
      · intro x H3 Q3 hx hp sm q3
        (try ctx_has vcx true_and)
        exact q3 H3 (Same.refl _)
      · intro H3 sm h3
        rw [filter_onI, List.map_id] at h3
        (try ctx_has vcx true_and h3)
        intro q hq
        refine k q _ (same_none sm hq) ?_ (sm.upd_new hq)
        rw [upd_same]
        have : (fun v => !holdsL (c, w, z) v) = fun v => decide (v = z) := by
          funext v
          unfold holdsL
          dsimp only
          rw [if_neg h]
          simp
        rw [this]
theorem ok_is_untrue {P : Program} {w : World} {K : PySem.W.Frag} {mg : Str → Option Value} {base : Heap}  (T : Txt K mg) (L : FnL K mg "is_untrue" s_is_untrue ["literal", "rooms"])  : Fn P w K mg base "is_untrue" 1 ["literal", "rooms"] (spUnt) := by
  have nd := sc_is_untrue.nd
  refine L.ok sc_is_untrue (fun vs H Q E h => ?_) (fun f cdv A outer s H vs Q E hr h => ?_)
  · obtain ⟨t, r, a, l, kvs, ns, rfl, ht, hrd, hv, ha, hne, hnd, k⟩ := h
    rfl
  · obtain ⟨t, r, a, l, kvs, ns, rfl, ht, hrd, hv, ha, hne, hnd, k⟩ := h
    have hu := hu_of hr
    refine ⟨_, (pss_cons (ps_set (i := 2) nd rfl (by first | exact Or.inl rfl | exact Or.inr rfl) (pe_dg hu (pvM 1) (pe_ix ix_T (pvM 0) pe_int (fun _ _ => rfl)) (fun _ _ => rfl)))
      (pss_one (ps_ret (pe_ifExp (pt_cmpR op_eq (pe_ix ix_T (pvM 0) pe_int (fun _ _ => rfl)) pe_str (nomark _)) (pe_cmpR op_notInT (pe_ix ix_T (pvM 0) pe_int (fun _ _ => rfl)) (pvM 2) (by with_unfolding_all rfl)) (pe_cmpR (op_eqD (hu100 hr)) (pvM 2) (pe_tup (pa_cons (pe_ix ix_T (pvM 0) pe_int (fun _ _ => rfl)) pa_nil)) (nomark _)))))), ?_⟩
    obtain ⟨c, w, z⟩ := l
    dsimp only [l3V] at ht hv
    (try ctx_has vcx true_and ht hrd hv ha)
    by_cases h : w = Str.ofString "is"
    · rw [if_pos h]
      refine ⟨rfl, flat_ints ns, k _ _ ?_ (Same.refl _)⟩
      rw [show inV (V.int z) (ns.map V.int) = decide (z ∈ ns) from inV_ints z ns]
      subst h
      simp only [holds_is, Bool.not_eq_true', decide_eq_false_iff_not]
      exact ⟨fun q v hv e => q (e ▸ hv), fun q e => q z e rfl⟩
    · rw [if_neg h]
      refine ⟨by decide, fun p hp => ?_⟩
      refine ⟨dRow ns, dRow [z], .tup (.of ((Same.upd0 hp) _ _ ha)) (Reps.ints ns), .tup (.of upd_same) (Reps.ints [z]), lay_row _, lay_row _, Nat.le_trans (depth_row _) (by decide), ?_⟩
      rw [eqv_row]
      refine k _ _ ?_ (Same.upd0 hp)
      rw [decide_eq_true_eq]
      have hh : ∀ v, holdsL (c, w, z) v = !decide (v = z) := fun v => by unfold holdsL; rw [if_neg h]
      simp only [hh, Bool.not_eq_false', decide_eq_true_eq]
      constructor
      · rintro rfl v hv; simpa using hv
      · intro q
        match ns, hne, hnd, q with
        | [], hne, _, _ => exact absurd rfl hne
        | [u], _, _, q => rw [q u (by simp)]
        | u :: u' :: rr, _, hnd, q =>
          have e1 := q u (by simp)
          have e2 := q u' (by simp)
          rw [e1, e2] at hnd
          simp at hnd
theorem ok_opposite_of {P : Program} {w : World} {K : PySem.W.Frag} {mg : Str → Option Value} {base : Heap}  (T : Txt K mg) (L : FnL K mg "opposite_of" s_opposite_of ["literal"])  : Fn P w K mg base "opposite_of" 1 ["literal"] (spOpp) := by
  have nd := sc_opposite_of.nd
  refine L.ok sc_opposite_of (fun vs H Q E h => ?_) (fun f cdv A outer s H vs Q E hr h => ?_)
  · obtain ⟨t, l, rfl, ht, k⟩ := h
    rfl
  · obtain ⟨t, l, rfl, ht, k⟩ := h
    have hu := hu_of hr
    refine ⟨_, (pss_one (ps_ret (pe_tup (pa_cons (pe_ix ix_T (pvM 0) pe_int (fun _ _ => rfl)) (pa_cons (pe_ifExp (pt_cmpR op_eq (pe_ix ix_T (pvM 0) pe_int (fun _ _ => rfl)) pe_str (nomark _)) pe_str pe_str) (pa_cons (pe_ix ix_T (pvM 0) pe_int (fun _ _ => rfl)) pa_nil)))))), ?_⟩
    obtain ⟨c, w, z⟩ := l
    dsimp only [l3V] at ht
    (try ctx_has vcx true_and ht)
    by_cases h : w = Str.ofString "is"
    · rw [if_pos h]
      refine ⟨by decide, fun p hp => k p _ hp ?_ (Same.upd0 hp)⟩
      rw [upd_same]
      unfold oppL
      dsimp only
      rw [if_pos h]
      rfl
    · rw [if_neg h]
      refine ⟨by decide, fun p hp => k p _ hp ?_ (Same.upd0 hp)⟩
      rw [upd_same]
      unfold oppL
      dsimp only
      rw [if_neg h]
      rfl
theorem ok_newly_untrue {P : Program} {w : World} {K : PySem.W.Frag} {mg : Str → Option Value} {base : Heap}  (T : Txt K mg) (L : FnL K mg "newly_untrue" s_newly_untrue ["cell", "before", "now"])  : Fn P w K mg base "newly_untrue" 1 ["cell", "before", "now"] (spNew) := by
  have nd := sc_newly_untrue.nd
  refine L.ok sc_newly_untrue (fun vs H Q E h => ?_) (fun f cdv A outer s H vs Q E hr h => ?_)
  · obtain ⟨c, ab, an, b, n, rfl, hab, han, hbl, k⟩ := h
    rfl
  · obtain ⟨c, ab, an, b, n, rfl, hab, han, hbl, k⟩ := h
    have hu := hu_of hr
    refine ⟨_, (pss_cons (ps_setC (i := 3) (N := ["value", "cell", "now"]) (nt := 1) (js := [0, 2]) nd rfl (by first | exact Or.inl rfl | exact Or.inr rfl) rfl (compOk_of ["cell", "before", "now", "literals"] (defScope s_newly_untrue).names rfl rfl rfl (by decide +kernel)) (pi_TK (K := K) rfl (pvM 1)) (fun _ _ _ _ _ _ => (pg_name (i := 0) (show List.Nodup [("value" : Str), ("cell" : Str), ("now" : Str)] by decide +kernel) rfl (Or.inl rfl))) (tgOk_name (by decide)) (fun _ _ _ _ _ _ => pts_one (pt_cmpR op_notInT (pvM 0) (pvM 2) (by with_unfolding_all rfl))) (fun _ _ _ _ _ _ => (pe_tup (pa_cons (pvM 1) (pa_cons pe_str (pa_cons (pvM 0) pa_nil))))))
      (pss_cons (ps_if (PW.pt (pw_and (pt_cmpR op_eq (pe_callB call_lenT rfl T.b_len PySem.boot_len (pa_cons (pvM 2) pa_nil)) pe_int (nomark _)) (pw_and1 (pt_cmpR op_gt (pe_callB call_lenT rfl T.b_len PySem.boot_len (pa_cons (pvM 1) pa_nil)) pe_int (nomark _))))) (pss_one (ps_expr (pe_mL PySem.F.slot_list_append PySem.F.type_list_append ml_append (pvM 3) (pa_cons (pe_tup (pa_cons (pvM 0) (pa_cons pe_str (pa_cons (pe_ix ix_T (pvM 2) pe_int (fun _ _ => rfl)) pa_nil)))) pa_nil)))) pss_nil)
      (pss_one (ps_ret (pvM 3))))), ?_⟩
    (try ctx_has vcx true_and hab)
    intro D hD
    refine comp_g wlk_tup (fun j ys H' => Rows3 H' ys (((b.take j).filter fun v => !decide (v ∈ n)).map fun v => (c, (Str.ofString "is", v))) ∧ Same H H' ∧ H' D = some (.lst ys)) ⟨Rows3.nil, Same.upd0 hD, upd_same⟩ (fun i ys H1 h => .of (h.2.1 _ _ hab)) ?_ ?_
    · rintro j x ys H1 hj hx ⟨hR, sm, hd⟩
      obtain ⟨v, hv, rfl⟩ : ∃ v, b[j]? = some v ∧ V.int v = x := by
        rw [List.getElem?_map] at hx
        cases e : b[j]? with
        | none => rw [e] at hx; cases hx
        | some nm => rw [e] at hx; exact ⟨nm, rfl, Option.some.inj hx⟩
      have han1 := sm _ _ han
      have ek : b.take (j + 1) = b.take j ++ [v] := by rw [List.take_add_one, hv]; rfl
      have hyl : ys.length ≤ 1000 := by rw [hR.length, List.length_map]; exact Nat.le_trans (List.length_filter_le _ _) (Nat.le_trans (List.length_take_le' _ _) hbl)
      (try ctx_has vcx true_and han1)
      refine ⟨rfl, flat_ints n, ?_⟩
      rw [show inV (V.int v) (n.map V.int) = decide (v ∈ n) from inV_ints v n, ek, List.filter_append, List.map_append]
      by_cases h : v ∈ n
      · rw [if_neg (by simpa using h)]
        exact ⟨by simpa [h] using hR, sm, hd⟩
      · rw [if_pos (by simpa using h)]
        refine ⟨by decide, fun p hp => ?_⟩
        have pD : D ≠ p := ne_of_none hd hp
        have kt : ∀ a vs, H1 a = some (.tup vs) → upd (upd H1 p (.tup [.str c, .str (Str.ofString "is"), .int v])) D (.lst (ys ++ [V.ref p])) a = some (.tup vs) := fun a vs e => by rw [upd_ne (ne_of e hd (by intro z; cases z)), upd_ne (ne_of_none e hp)]; exact e
        refine ⟨(Same.upd0 hp) _ _ hd, Nat.lt_of_le_of_lt hyl (by decide), ?_, fun b o e => ?_, upd_same⟩
        · have := (hR.keep kt).snoc (l := (c, Str.ofString "is", v)) (t := p) (by rw [upd_ne (Ne.symm pD), upd_same]; rfl)
          simpa [h] using this
        · rw [upd_ne (ne_of_none e hD), upd_ne (ne_of_none (sm _ _ e) hp)]; exact sm _ _ e
    · rintro ys H1 ⟨hR, sm, hd⟩
      rw [List.length_map, List.take_length] at hR
      have han1 := sm _ _ han
      have hab1 := sm _ _ hab
      (try ctx_has vcx true_and han1 hab1)
      have hyl : ys.length ≤ 1000 := by rw [hR.length, List.length_map]; exact Nat.le_trans (List.length_filter_le _ _) hbl
      have e1 : (((n.map V.int).length : Nat) : Int) = 1 ↔ n.length = 1 := by rw [List.length_map]; omega
      have e2 : (1 : Int) < ((b.map V.int).length : Nat) ↔ 1 < b.length := by rw [List.length_map]; omega
      by_cases h : n.length = 1 ∧ 1 < b.length
      · rw [if_pos (e1.mpr h.1), if_pos (e2.mpr h.2)]
        obtain ⟨y, rfl⟩ : ∃ y, n = [y] := by
          match n, h.1 with
          | [y], _ => exact ⟨y, rfl⟩
        refine ⟨⟨_, hd⟩, .int y, rfl, by decide, fun p hp => ?_⟩
        have pD : D ≠ p := ne_of_none hd hp
        have kt : ∀ a vs, H1 a = some (.tup vs) → upd (upd H1 p (.tup [.str c, .str (Str.ofString "not"), .int y])) D (.lst (ys ++ [V.ref p])) a = some (.tup vs) := fun a vs e => by rw [upd_ne (ne_of e hd (by intro z; cases z)), upd_ne (ne_of_none e hp)]; exact e
        refine ⟨ys, (Same.upd0 hp) _ _ hd, Nat.lt_of_le_of_lt hyl (by decide), k D _ _ hD upd_same ?_ fun b o e => ?_⟩
        · have := (hR.keep kt).snoc (l := (c, Str.ofString "not", y)) (t := p) (by rw [upd_ne (Ne.symm pD), upd_same]; rfl)
          unfold newly
          rw [if_pos h]
          exact this
        · rw [upd_ne (ne_of_none e hD), upd_ne (ne_of_none (sm _ _ e) hp)]; exact sm _ _ e
      · have hk : Q (.ref D) H1 := k D _ _ hD hd (by unfold newly; rw [if_neg h, List.append_nil]; exact hR) sm
        by_cases h1 : n.length = 1
        · rw [if_pos (e1.mpr h1), if_neg (fun z => h ⟨h1, e2.mp z⟩)]; exact hk
        · rw [if_neg (fun z => h1 (e1.mp z))]; exact hk
theorem ok_make_true {P : Program} {w : World} {K : PySem.W.Frag} {mg : Str → Option Value} {base : Heap}  (T : Txt K mg) (L : FnL K mg "make_true" s_make_true ["literal", "rooms"]) (Froom_against : Fn P w K mg base "room_against" 1 ["literal", "room"] (spAgainst)) (Fopposite_of : Fn P w K mg base "opposite_of" 1 ["literal"] (spOpp)) (Fnewly_untrue : Fn P w K mg base "newly_untrue" 1 ["cell", "before", "now"] (spNew)) : Fn P w K mg base "make_true" 2 ["literal", "rooms"] (spMake) := by
  have nd := sc_make_true.nd
  refine L.ok sc_make_true (fun vs H Q E h => ?_) (fun f cdv A outer s H vs Q E hr h => ?_)
  · obtain ⟨t, r, l, kvs, rm, rfl, ht, hrd, hkn, hkm, hkl, hrk, hrl, k⟩ := h
    rfl
  · obtain ⟨t, r, l, kvs, rm, rfl, ht, hrd, hkn, hkm, hkl, hrk, hrl, k⟩ := h
    have hu := hu_of hr
    refine ⟨_, (pss_cons (ps_set (i := 2) nd rfl (by first | exact Or.inl rfl | exact Or.inr rfl) (pe_ix ix_T (pvM 0) pe_int (fun _ _ => rfl)))
      (pss_cons (ps_set (i := 3) nd rfl (by first | exact Or.inl rfl | exact Or.inr rfl) (pe_dg hu (pvM 1) (pvM 2) (fun _ _ => rfl)))
      (pss_cons (ps_dp hu (pvM 1) (pvM 2) (pe_callF Froom_against (hr.mono (by first | decide | omega)) rfl (pa_cons (pe_callF Fopposite_of (hr.mono (by first | decide | omega)) rfl (pa_cons (pvM 0) pa_nil)) (pa_cons (pvM 3) pa_nil))) rfl)
      (pss_one (ps_ret (pe_callF Fnewly_untrue (hr.mono (by first | decide | omega)) rfl (pa_cons (pvM 2) (pa_cons (pvM 3) (pa_cons (pe_dg hu (pvM 1) (pvM 2) (fun _ _ => rfl)) pa_nil))))))))), ?_⟩
    obtain ⟨y, hy, hy1⟩ := List.mem_map.mp hkm
    obtain ⟨c', a, rfl, ha⟩ := hrk y hy
    have ec : c' = l.1 := Sum.inr.inj hy1
    subst ec
    have hva := valV_mem hkn hy
    have ht2 := ht
    unfold l3V at ht2
    (try ctx_has vcx true_and ht2 hrd hva)
    refine ⟨t, l, rfl, ht, fun q1 H1 hq1 h1 s1 => ⟨q1, a, oppL l, rm l.1, rfl, h1, s1 _ _ ha, hrl, fun q2 H2 hq2 h2 s2 => ?_⟩⟩
    have s12 := s1.trans s2
    have hr2 := s12 _ _ hrd
    have e2 : ((rm l.1).filter fun v => !holdsL (oppL l) v) = makeT l rm l.1 := by
      rw [makeT_at]
      exact List.filter_congr fun v _ => opp_holds l v
    rw [e2] at h2
    have q2r : q2 ≠ r := ne_of h2 hr2 (by intro z; cases z)
    refine ⟨kvs, hr2, small1000 (by omega), _, upd_same, .ref q2, by rw [valV_put, if_pos rfl], ?_⟩
    have kt : ∀ b vs, H2 b = some (.tup vs) → upd H2 r (.dK (putK kvs (Sum.inr l.1) (.ref q2))) b = some (.tup vs) := fun b vs e => by rw [upd_ne (ne_of e hr2 (by intro z; cases z))]; exact e
    refine ⟨l.1, a, q2, rm l.1, makeT l rm l.1, rfl, kt _ _ (s12 _ _ ha), kt _ _ h2, hrl, fun q us H3 hq h3 hR s3 => ?_⟩
    have hqH : H q = none := by
      cases e : H q with
      | none => rfl
      | some o =>
        by_cases z : q = r
        · subst z; rw [upd_same] at hq; cases hq
        · rw [upd_ne z, s12 _ _ e] at hq; cases hq
    refine k q us _ H3 hqH h3 hR (s3 _ _ upd_same) (keys_putK hkm) ?_ fun b o hb e => s3 _ _ (by rw [upd_ne hb]; exact s12 _ _ e)
    have := RoomsK.put (H' := H3) (ns := makeT l rm l.1) (t := q2) hrk hkm (fun b vs e => s3 _ _ (kt _ _ (s12 _ _ e))) (s3 _ _ (kt _ _ h2))
    have e3 : setF rm l.1 (makeT l rm l.1) = makeT l rm := by
      rw [makeT_at]; rfl
    rwa [e3] at this
theorem ok_Watch___init__ {P : Program} {w : World} {K : PySem.W.Frag} {mg : Str → Option Value} {base : Heap} (T : Txt K mg) (L : MtdL K (Mk K (clsAt mg "Watch")) "__init__" "Watch.__init__" s_Watch___init__ ["self", "clause", "one", "other"])  : FnR P w K mg base (Mk K (clsAt mg "Watch")) 1 ["self", "clause", "one", "other"] (spWNew mg) := by
  have nd := sc_Watch___init__.nd
  refine L.ok sc_Watch___init__ (fun vs H Q E h => ?_) (fun f cdv A outer s H vs Q E hr h => ?_)
  · obtain ⟨p, dx, ct, t1, t2, rfl, hp, k⟩ := h
    rfl
  · obtain ⟨p, dx, ct, t1, t2, rfl, hp, k⟩ := h
    have hu := hu_of hr
    refine ⟨_, (pss_cons (ps_fldC T.cl_Watch T.no_Watch_clause (pvM 0) (pvM 1) rfl)
      (pss_cons (ps_fldC T.cl_Watch T.no_Watch_one (pvM 0) (pvM 2) rfl)
      (pss_one (ps_fldC T.cl_Watch T.no_Watch_other (pvM 0) (pvM 3) rfl)))), ?_⟩
    (try ctx_has vcx true_and hp)
    refine ⟨by decide, dx, _, upd_same, putF1 _ _, dx, _, upd_same, putF2 _ _ _ _, ?_⟩
    rw [upd_upd, upd_upd]
    exact k
theorem ok_Watch_beside {P : Program} {w : World} {K : PySem.W.Frag} {mg : Str → Option Value} {base : Heap} (T : Txt K mg) (L : MtdL K (Meth K (clsAt mg "Watch") "beside") "beside" "Watch.beside" s_Watch_beside ["self", "literal"])  : FnR P w K mg base (Meth K (clsAt mg "Watch") "beside") 1 ["self", "literal"] (spBeside mg) := by
  have nd := sc_Watch_beside.nd
  refine L.ok sc_Watch_beside (fun vs H Q E h => ?_) (fun f cdv A outer s H vs Q E hr h => ?_)
  · obtain ⟨t, w, x, rfl, hW, ht, ox, ow, k⟩ := h
    rfl
  · obtain ⟨t, w, x, rfl, hW, ht, ox, ow, k⟩ := h
    have hu := hu_of hr
    refine ⟨_, (pss_one (ps_ret (pe_ifExp (pt_cmpR (op_eqD (hu100 hr)) (pvM 1) (pe_fldC T.cl_Watch T.no_Watch_one (pvM 0)) (nomark _)) (pe_fldC T.cl_Watch T.no_Watch_other (pvM 0)) (pe_fldC T.cl_Watch T.no_Watch_one (pvM 0))))), ?_⟩
    obtain ⟨dx, ct, us, t1, t2, h1, h2, h3, h4, h5⟩ := hW
    (try ctx_has vcx true_and h1 fsW_one fsW_other)
    refine eqD_l3 ht h4 ox ow ⟨_, rfl, ?_⟩
    by_cases e : x = w.one
    · rw [if_pos (decide_eq_true e)]
      refine ⟨dx, _, h1, _, fsW_other, k _ _ ?_ (Same.refl _)⟩
      unfold besideL
      rw [if_pos e]
      exact h5
    · rw [if_neg (by simpa using e)]
      refine ⟨dx, _, h1, _, fsW_one, k _ _ ?_ (Same.refl _)⟩
      unfold besideL
      rw [if_neg e]
      exact h4
theorem ok_Watch_instead_of {P : Program} {w : World} {K : PySem.W.Frag} {mg : Str → Option Value} {base : Heap} (T : Txt K mg) (L : MtdL K (Meth K (clsAt mg "Watch") "instead_of") "instead_of" "Watch.instead_of" s_Watch_instead_of ["self", "literal", "rooms"]) (FWatch_beside : FnR P w K mg base (Meth K (clsAt mg "Watch") "beside") 1 ["self", "literal"] (spBeside mg)) (Fis_untrue : Fn P w K mg base "is_untrue" 1 ["literal", "rooms"] (spUnt)) : FnR P w K mg base (Meth K (clsAt mg "Watch") "instead_of") 2 ["self", "literal", "rooms"] (spInstead mg) := by
  have nd := sc_Watch_instead_of.nd
  refine L.ok sc_Watch_instead_of (fun vs H Q E h => ?_) (fun f cdv A outer s H vs Q E hr h => ?_)
  · obtain ⟨t, r, w, x, cs, kvs, rm, rfl, hW, ht, ox, o1, o2, hrd, hks, hcn, hrk, hgd, hls, k0, k1⟩ := h
    rfl
  · obtain ⟨t, r, w, x, cs, kvs, rm, rfl, hW, ht, ox, o1, o2, hrd, hks, hcn, hrk, hgd, hls, k0, k1⟩ := h
    have hu := hu_of hr
    refine ⟨_, (pss_cons (ps_set (i := 3) nd rfl (by first | exact Or.inl rfl | exact Or.inr rfl) (pe_methF T.cl_Watch FWatch_beside (hr.mono (by first | decide | omega)) (pvM 0) (pa_cons (pvM 1) pa_nil)))
      (pss_cons (ps_for PassesOwn.never rfl (pi_TK (K := K) rfl (pe_fldC T.cl_Watch T.no_Watch_clause (pvM 0))) (pg_name (i := 4) nd rfl (by first | exact Or.inl rfl | exact Or.inr rfl)) (pss_one (ps_if (PW.pt (pw_and (pt_cmpR (op_neD (hu100 hr)) (pvM 4) (pvM 3) (nomark _)) (pw_and1 (pt_not (pt_val (pe_callF Fis_untrue (hr.mono (by first | decide | omega)) rfl (pa_cons (pvM 4) (pa_cons (pvM 2) pa_nil)))))))) (pss_one (ps_ret (pvM 4))) pss_nil)))
      (pss_one (ps_ret pe_non)))), ?_⟩
    obtain ⟨dx, ct, us, t1, t2, h1, h2, h3, h4, h5⟩ := id hW
    (try ctx_has vcx true_and h1 fsW_beside)
    refine ⟨t, w, x, rfl, hW, ht, ox, o1, fun tb H1 htb s1 => ?_⟩
    have h11 := s1 _ _ h1
    (try ctx_has vcx true_and h11 fsW_clause)
    refine ⟨_, s1 _ _ h2, ?_⟩
    have oy : okL3 (besideL x w) := ok_beside o1 o2
    refine for_g wlk_tup (fun i σ H' => ∃ v4, σ = [some (.ref w.p), some (.ref t), some (.ref r), some (.ref tb), v4] ∧ (∀ m ∈ w.ls.take i, m ≠ besideL x w → untL m rm) ∧ Same H1 H') ⟨_, rfl, fun m hm => by simp at hm, Same.refl _⟩ (fun i σ H' zq30 => by obtain ⟨_, _, _, sm⟩ := zq30; exact (.of (sm _ _ (s1 _ _ h2)))) ?_ ?_
    · rintro i e σ H2 hi hx ⟨v4, rfl, hun, s2⟩
      obtain ⟨tm, m, rfl, hmi, htm⟩ := h3.get hx
      have hm := List.mem_of_getElem? hmi
      have s12 := s1.trans s2
      have etk : w.ls.take (i + 1) = w.ls.take i ++ [m] := by rw [List.take_add_one, hmi]; rfl
      (try ctx_has vcx true_and)
      refine neD_l3 (x := m) (y := besideL x w) (s12 _ _ htm) (s2 _ _ htb) (hls m hm).2 oy ⟨_, rfl, ?_⟩
      by_cases e : m = besideL x w
      · rw [if_neg (by simpa using e)]
        refine ⟨fun m' hm' hne => ?_, s2⟩
        rw [etk] at hm'
        rcases List.mem_append.mp hm' with q | q
        · exact hun m' q hne
        · rw [List.mem_singleton.mp q] at hne; exact absurd e hne
      · rw [if_pos (by simpa using e)]
        obtain ⟨a, hva, ha⟩ := room_at hks hcn hrk (hls m hm).1
        refine ⟨tm, r, a, m, kvs, rm m.1, rfl, s12 _ _ htm, s12 _ _ hrd, hva, s12 _ _ ha, (hgd _ (hls m hm).1).1, (hgd _ (hls m hm).1).2, fun b H3 hb s3 => ⟨b, rfl, ?_⟩⟩
        cases b with
        | true =>
          rw [if_neg (by simp)]
          refine ⟨fun m' hm' hne => ?_, s2.trans s3⟩
          rw [etk] at hm'
          rcases List.mem_append.mp hm' with q | q
          · exact hun m' q hne
          · rw [List.mem_singleton.mp q]; exact hb.mp rfl
        | false =>
          rw [if_pos rfl]
          exact k1 tm m H3 hm e (fun z => by have := hb.mpr z; cases this) ((s12.trans s3) _ _ htm) (s12.trans s3)
    · rintro σ H2 ⟨v4, rfl, hun, s2⟩
      rw [h3.length, List.take_length] at hun
      (try ctx_has vcx true_and)
      exact k0 hun H2 (s1.trans s2)
theorem ok_Watch_put_instead_of {P : Program} {w : World} {K : PySem.W.Frag} {mg : Str → Option Value} {base : Heap} (T : Txt K mg) (L : MtdL K (Meth K (clsAt mg "Watch") "put_instead_of") "put_instead_of" "Watch.put_instead_of" s_Watch_put_instead_of ["self", "literal", "another"])  : FnR P w K mg base (Meth K (clsAt mg "Watch") "put_instead_of") 1 ["self", "literal", "another"] (spPutI mg) := by
  have nd := sc_Watch_put_instead_of.nd
  refine L.ok sc_Watch_put_instead_of (fun vs H Q E h => ?_) (fun f cdv A outer s H vs Q E hr h => ?_)
  · obtain ⟨t, t', w, x, x', rfl, hW, ht, ox, o1, ht', k⟩ := h
    rfl
  · obtain ⟨t, t', w, x, x', rfl, hW, ht, ox, o1, ht', k⟩ := h
    have hu := hu_of hr
    refine ⟨_, (pss_one (ps_if (pt_cmpR (op_eqD (hu100 hr)) (pvM 1) (pe_fldC T.cl_Watch T.no_Watch_one (pvM 0)) (nomark _)) (pss_one (ps_fldC T.cl_Watch T.no_Watch_one (pvM 0) (pvM 2) rfl)) (pss_one (ps_fldC T.cl_Watch T.no_Watch_other (pvM 0) (pvM 2) rfl)))), ?_⟩
    obtain ⟨dx, ct, us, t1, t2, h1, h2, h3, h4, h5⟩ := hW
    (try ctx_has vcx true_and h1 fsW_one)
    have ht1 : ∀ {b vs o}, H b = some (.tup vs) → upd H w.p (.ins (clsAt mg (Str.ofString "Watch")) dx o) b = some (.tup vs) := fun {b vs o} e => by rw [upd_ne (ne_of e h1 (by intro z; cases z))]; exact e
    refine eqD_l3 ht h4 ox o1 ⟨_, rfl, ?_⟩
    by_cases e : x = w.one
    · rw [if_pos (decide_eq_true e)]
      refine ⟨dx, _, h1, fsW_len, ?_⟩
      rw [putW_one]
      refine k _ ?_ fun b o hb e => by rw [upd_ne hb]; exact e
      unfold goOver
      rw [if_pos e.symm]
      exact ⟨dx, ct, us, t', t2, upd_same, ht1 h2, h3.keep fun a vs e => ht1 e, ht1 ht', ht1 h5⟩
    · rw [if_neg (by simpa using e)]
      refine ⟨dx, _, h1, fsW_len, ?_⟩
      rw [putW_other]
      refine k _ ?_ fun b o hb e => by rw [upd_ne hb]; exact e
      unfold goOver
      rw [if_neg (fun z => e z.symm)]
      exact ⟨dx, ct, us, t1, t', upd_same, ht1 h2, h3.keep fun a vs e => ht1 e, ht1 h4, ht1 ht'⟩
theorem ok_Units___init__ {P : Program} {w : World} {K : PySem.W.Frag} {mg : Str → Option Value} {base : Heap} (T : Txt K mg) (L : MtdL K (Mk K (clsAt mg "Units")) "__init__" "Units.__init__" s_Units___init__ ["self", "rooms"])  : FnR P w K mg base (Mk K (clsAt mg "Units")) 1 ["self", "rooms"] (spUNew mg) := by
  have nd := sc_Units___init__.nd
  refine L.ok sc_Units___init__ (fun vs H Q E h => ?_) (fun f cdv A outer s H vs Q E hr h => ?_)
  · obtain ⟨u, dx, r, kvs, rfl, hu0, hrd, k⟩ := h
    rfl
  · obtain ⟨u, dx, r, kvs, rfl, hu0, hrd, k⟩ := h
    have hu := hu_of hr
    refine ⟨_, (pss_cons (ps_fldC T.cl_Units T.no_Units_rooms (pvM 0) (pe_callTy call_dictD rfl T.b_dict (show bootBuiltins "dict" = some (.type "dict") by decide +kernel) (pa_cons (pvM 1) pa_nil)) rfl)
      (pss_cons (ps_fldC T.cl_Units T.no_Units_watches (pvM 0) pe_dnewT rfl)
      (pss_one (ps_fldC T.cl_Units T.no_Units_dead (pvM 0) pe_bl rfl)))), ?_⟩
    (try ctx_has vcx true_and hrd hu0 tDNewT)
    intro q hq
    have uq : u ≠ q := ne_of_none hu0 hq
    refine ⟨dx, [], by rw [upd_ne uq]; exact hu0, by decide, fun p hp => ?_⟩
    have pu : p ≠ u := fun z => by rw [z, upd_same] at hp; cases hp
    have hp1 : upd H q (.dK kvs) p = none := by rw [upd_ne pu] at hp; exact hp
    have pq : p ≠ q := fun z => by rw [z, upd_same] at hp1; cases hp1
    have hp0 : H p = none := by rw [upd_ne pq] at hp1; exact hp1
    refine ⟨dx, _, by rw [upd_ne (Ne.symm pu)]; exact upd_same, putF1 _ _, dx, _, upd_same, putF2 _ _ _ _, ?_⟩
    rw [putU_new, upd_upd]
    refine k q p _ hq hp0 (Ne.symm pq) upd_same (by rw [upd_ne (Ne.symm uq), upd_ne (Ne.symm pq), upd_ne (Ne.symm uq)]; exact upd_same) (by rw [upd_ne pu]; exact upd_same) fun b o hb e => ?_
    rw [upd_ne hb, upd_ne (ne_of_none e hp0), upd_ne hb, upd_ne (ne_of_none e hq)]
    exact e
theorem ok_Units_set_watch {P : Program} {w : World} {K : PySem.W.Frag} {mg : Str → Option Value} {base : Heap} (T : Txt K mg) (L : MtdL K (Meth K (clsAt mg "Units") "set_watch") "set_watch" "Units.set_watch" s_Units_set_watch ["self", "literal", "watch"])  : FnR P w K mg base (Meth K (clsAt mg "Units") "set_watch") 1 ["self", "literal", "watch"] (spSetW mg) := by
  have nd := sc_Units_set_watch.nd
  refine L.ok sc_Units_set_watch (fun vs H Q E h => ?_) (fun f cdv A outer s H vs Q E hr h => ?_)
  · obtain ⟨u, t, p, dx, rd, wd, bd, l, U, tk, reg, rfl, hu0, ht, hlU, hUl, tb, hrl, k⟩ := h
    rfl
  · obtain ⟨u, t, p, dx, rd, wd, bd, l, U, tk, reg, rfl, hu0, ht, hlU, hUl, tb, hrl, k⟩ := h
    have hu := hu_of hr
    refine ⟨_, (pss_one (ps_expr (pe_mL PySem.F.slot_list_append PySem.F.type_list_append ml_append (pe_dsetdT hu (pe_fldC T.cl_Units T.no_Units_watches (pvM 0)) (pvM 1) (pe_lst pa_nil) ⟨rfl, rfl, rfl, rfl⟩) (pa_cons (pvM 2) pa_nil)))), ?_⟩
    (try ctx_has vcx true_and hu0 fsU_watches tDSetDT)
    refine ⟨⟨_, tb.hd⟩, by decide, fun z hz => ?_⟩
    have s1 : Same H (upd H z (.lst [])) := Same.upd0 hz
    have nz : ¬ OwnT wd tk z := fun h => by
      rcases tb.own h with ⟨_, e⟩ | ⟨_, e⟩
      · rw [hz] at e; cases e
      · rw [hz] at e; cases e
    have hz1 : upd H z (.lst []) z = some (.lst []) := upd_same
    generalize upd H z (.lst []) = H1 at s1 hz1 ⊢
    have tb1 : DTab U H1 wd tk reg := tb.keep fun b o _ e => s1 _ _ e
    refine ⟨tk, tb1.hd, keyL l, s1 _ _ ht, Nat.lt_of_le_of_lt (Nat.le_trans tb.len hUl) (by decide), fun v hv => ?_, fun hn => ?_⟩
    · rcases tb1.ra l with ⟨e, _⟩ | ⟨a, e, ha⟩
      · rw [hv] at e; cases e
      · rw [hv] at e
        cases e
        refine ⟨a, rfl, ⟨_, ha⟩, _, ha, Nat.lt_of_le_of_lt (by rw [List.length_map]; exact hrl) (by decide), ?_⟩
        refine k tk _ (tb1.old hv (by rw [upd_same]; simp) fun b o _ hb e => by rw [upd_ne hb]; exact e) (fun m _ => rfl) ⟨fun b o hb e => ?_, fun b h => .inl h⟩
        rw [upd_ne (fun q => hb (.inr ⟨l, by rw [q]; exact hv⟩))]
        exact s1 _ _ e
    · have zw : z ≠ wd := fun q => nz (.inl q)
      have er : reg l = [] := by
        rcases tb1.ra l with ⟨_, e⟩ | ⟨a, e, _⟩
        · exact e
        · rw [hn] at e; cases e
      refine ⟨⟨_, by rw [upd_ne zw]; exact hz1⟩, [], by rw [upd_ne zw]; exact hz1, by decide, ?_⟩
      refine k _ _ (tb1.put (z := z) (fun m q => nz (.inr ⟨m, q⟩)) hlU hn (by rw [upd_ne (Ne.symm zw)]; exact upd_same) (by rw [upd_same, er]; rfl) fun b o hb e => ?_) (fun m hm => by rw [valV_put, if_neg (fun q => hm (keyL_inj q))]) ⟨fun b o hb e => ?_, fun b h => ?_⟩
      · rw [upd_ne (fun (q : b = z) => nz (.inr (q ▸ hb))), upd_ne (fun q => ?_)]
        · exact e
        · obtain ⟨m, hm⟩ := hb
          rcases tb1.ra m with ⟨e2, _⟩ | ⟨a, e2, ha⟩
          · rw [hm] at e2; cases e2
          · rw [hm] at e2; cases e2
            rw [q, tb1.hd] at ha; cases ha
      · rw [upd_ne (ne_of_none e hz), upd_ne (fun q => hb (.inl q))]
        exact s1 _ _ e
      · rcases h with h | ⟨m, h⟩
        · exact .inl (.inl h)
        · rw [valV_put] at h
          by_cases q : keyL m = keyL l
          · rw [if_pos q] at h; cases h; exact .inr hz
          · rw [if_neg q] at h; exact .inl (.inr ⟨m, h⟩)
structure UC where
  cs : List Str
  cls : List (List L3)
  U : List L3
  F : (Str → List Int) → Prop
  r0 : Str → List Int
structure UCOk (C : UC) : Prop where
  nd : C.cs.Nodup
  fo : FOk C.cs C.cls C.F
  cl : ∀ c ∈ C.cls, c.Nodup ∧ c.length ≤ 1000 ∧ ∀ l ∈ c, litOk C.cs l ∧ okL3 l ∧ l ∈ C.U
  ul : C.U.length ≤ 100000
  uo : ∀ c ∈ C.cs, ∀ v ∈ C.r0 c, (c, Str.ofString "is", v) ∈ C.U ∧ (c, Str.ofString "not", v) ∈ C.U
  so : ∀ c ∈ C.cs, PyData.strOk c = true
  cn : C.cs.length ≤ 500
  sz : sizeR C.cs C.r0 ≤ 1000
  rl : ∀ c ∈ C.cs, (C.r0 c).length ≤ 1000
structure UB (mg : Str → Option Value) (C : UC) (H : Hp) (r : Addr) (ws : List WR) (kvs : List (Key × V)) (rm : Str → List Int) : Prop where
  wa : ∀ w ∈ ws, WatchAt mg H w
  wp : (ws.map (·.p)).Nodup
  wok : ∀ w ∈ ws, WOk C.cs w ∧ w.ls ∈ C.cls
  wl : ws.length ≤ 1000
  rd : H r = some (.dK kvs)
  ks : kvs.map (·.1) = C.cs.map Sum.inr
  rk : RoomsK H kvs rm
  gd : goodR C.cs rm
  sl : ∀ c ∈ C.cs, (rm c).Sublist (C.r0 c)
noncomputable def OwnU (u r wd : Addr) (tk : Tk) (ws : List WR) (b : Addr) : Prop := b = u ∨ b = r ∨ OwnT wd tk b ∨ ∃ w ∈ ws, w.p = b
theorem RoomsK.keep {H H' : Hp} {kvs : List (Key × V)} {rm : Str → List Int} (h : RoomsK H kvs rm) (kt : ∀ a vs, H a = some (.tup vs) → H' a = some (.tup vs)) : RoomsK H' kvs rm := fun x hx => by
  obtain ⟨c, a, e, ha⟩ := h x hx
  exact ⟨c, a, e, kt _ _ ha⟩
theorem UB.keep {mg : Str → Option Value} {C : UC} {H H' : Hp} {r : Addr} {ws : List WR} {kvs : List (Key × V)} {rm : Str → List Int} (h : UB mg C H r ws kvs rm) (kw : ∀ w ∈ ws, ∀ o, H w.p = some o → H' w.p = some o) (kr : ∀ o, H r = some o → H' r = some o) (kt : ∀ a vs, H a = some (.tup vs) → H' a = some (.tup vs)) : UB mg C H' r ws kvs rm :=
  ⟨fun w hw => (h.wa w hw).keep (kw w hw) kt, h.wp, h.wok, h.wl, kr _ h.rd, h.ks, h.rk.keep kt, h.gd, h.sl⟩
theorem UB.same {mg : Str → Option Value} {C : UC} {H H' : Hp} {r : Addr} {ws : List WR} {kvs : List (Key × V)} {rm : Str → List Int} (h : UB mg C H r ws kvs rm) (s : Same H H') : UB mg C H' r ws kvs rm := h.keep (fun _ _ _ e => s _ _ e) (fun _ e => s _ _ e) fun _ _ e => s _ _ e
section
variable {mg : Str → Option Value} {C : UC} {H H' : Hp} {u r wd b : Addr} {tk tk' : Tk} {reg : Reg} {ws : List WR} {kvs : List (Key × V)} {rm : Str → List Int} {U : List L3} {O' : Addr → Prop}
theorem DTab.notT (t : DTab U H wd tk reg) {o : HO} (e : H b = some o) (h1 : ∀ kv, o ≠ .dT kv) (h2 : ∀ vs, o ≠ .lst vs) : ¬ OwnT wd tk b := fun h => by
  rcases t.own h with ⟨kv, z⟩ | ⟨vs, z⟩
  · rw [z] at e; cases e; exact h1 _ rfl
  · rw [z] at e; cases e; exact h2 _ rfl
theorem UB.ofT (h : UB mg C H r ws kvs rm) (t : DTab U H wd tk reg) (f : Fr (OwnT wd tk) H O' H') : UB mg C H' r ws kvs rm :=
  h.keep (fun w hw o e => f.1 _ _ (by
    obtain ⟨dx, ct, us, t1, t2, h1, _⟩ := h.wa w hw
    exact t.notT h1 (fun _ => by nofun) fun _ => by nofun) e) (fun o e => f.1 _ _ (t.notT h.rd (fun _ => by nofun) fun _ => by nofun) e) fun a vs e => f.1 _ _ (t.notT e (fun _ => by nofun) fun _ => by nofun) e
theorem Fr.ofT (f : Fr (OwnT wd tk) H (OwnT wd tk') H') : Fr (OwnU u r wd tk ws) H (OwnU u r wd tk' ws) H' :=
  ⟨fun b o n e => f.1 b o (fun z => n (.inr (.inr (.inl z)))) e, fun b h => by
    rcases h with h | h | h | h
    · exact .inl (.inl h)
    · exact .inl (.inr (.inl h))
    · exact (f.2 b h).imp (fun z => .inr (.inr (.inl z))) id
    · exact .inl (.inr (.inr (.inr h)))⟩
theorem UB.notTup (h : UB mg C H r ws kvs rm) (t : DTab U H wd tk reg) {dx : Addr} {fs : List (Str × V)} {cl : Addr} (hu : H u = some (.ins cl dx fs)) {vs : List V} (e : H b = some (.tup vs)) : ¬ OwnU u r wd tk ws b := fun z => by
  rcases z with z | z | z | ⟨w, hw, z⟩
  · subst z; rw [hu] at e; cases e
  · subst z; rw [h.rd] at e; cases e
  · exact t.notT e (fun _ => by nofun) (fun _ => by nofun) z
  · obtain ⟨dx, ct, us, t1, t2, h1, _⟩ := h.wa w hw
    rw [z, e] at h1; cases h1
theorem UB.none (h : UB mg C H r ws kvs rm) (t : DTab U H wd tk reg) {dx : Addr} {fs : List (Str × V)} {cl : Addr} (hu : H u = some (.ins cl dx fs)) (e : H b = none) : ¬ OwnU u r wd tk ws b := fun z => by
  rcases z with z | z | z | ⟨w, hw, z⟩
  · subst z; rw [hu] at e; cases e
  · subst z; rw [h.rd] at e; cases e
  · rcases t.own z with ⟨kv, z⟩ | ⟨vs, z⟩
    · rw [z] at e; cases e
    · rw [z] at e; cases e
  · obtain ⟨dx, ct, us, t1, t2, h1, _⟩ := h.wa w hw
    rw [z, e] at h1; cases h1
end
noncomputable def spLastO (mg : Str → Option Value) : Sp := fun vs H Q _ => ∃ (C : UC) (u t r dx rd wd : Addr) (bd : Bool) (x : L3) (tk : Tk) (reg : Reg) (ws : List WR) (kvs : List (Key × V)) (rm : Str → List Int) (pend ahead : List L3), vs = [.ref u, .ref t, .ref r] ∧ UCOk C ∧ H u = some (.ins (clsAt mg "Units") dx (fsU rd wd bd)) ∧ H t = some (.tup (l3V x)) ∧ okL3 x ∧ x ∈ C.U ∧ x.1 ∈ C.cs ∧ untL x rm ∧
  UB mg C H r ws kvs rm ∧ DTab C.U H wd tk reg ∧ RegOk ws reg ∧ PInv ws rm (x :: pend) ahead ∧ Snd C.cs C.F rm ahead ∧
  ∀ q us lasts tk' reg' ws' H', H q = none → H' q = some (.lst us) → Rows3 H' us lasts → lasts.length ≤ 1000 → (∀ l ∈ lasts, litOk C.cs l ∧ okL3 l) → UB mg C H' r ws' kvs rm → DTab C.U H' wd tk' reg' → RegOk ws' reg' → PInv ws' rm pend (ahead ++ lasts) → Snd C.cs C.F rm (ahead ++ lasts) → H' u = some (.ins (clsAt mg "Units") dx (fsU rd wd bd)) →
    ws'.map (fun w => (w.p, w.ls)) = ws.map (fun w => (w.p, w.ls)) → Fr (OwnU u r wd tk ws) H (OwnU u r wd tk' ws') H' → ¬ OwnU u r wd tk' ws' q → Q (.ref q) H'
noncomputable def LastInv (mg : Str → Option Value) (C : UC) (H : Hp) (u r dx rd wd pl sq lq : Addr) (bd : Bool) (x : L3) (O : Addr → Prop) (ws : List WR) (kvs : List (Key × V)) (rm : Str → List Int) (pend ahead : List L3) (P : List Addr) (i : Nat) (H' : Hp) : Prop := ∃ tk1 reg1 ws1 sty lasts us,
  H' sq = some (.lst (sty.map V.ref)) ∧ H' lq = some (.lst us) ∧ Rows3 H' us lasts ∧ lasts.length ≤ i ∧ sty.length ≤ i ∧ (∀ l ∈ lasts, litOk C.cs l ∧ okL3 l) ∧ UB mg C H' r ws1 kvs rm ∧ DTab C.U H' wd tk1 reg1 ∧ valV tk1 (keyL x) = none ∧ RegOk ws1 (setR reg1 x (sty ++ P.drop i)) ∧ PInv ws1 rm (x :: pend) (ahead ++ lasts) ∧ Snd C.cs C.F rm (ahead ++ lasts) ∧ KInv ws1 x (P.drop i) (ahead ++ lasts) ∧ H' u = some (.ins (clsAt mg "Units") dx (fsU rd wd bd)) ∧ ws1.map (fun w => (w.p, w.ls)) = ws.map (fun w => (w.p, w.ls)) ∧ H' pl = some (.lst (P.map V.ref)) ∧ Fr O H (OwnU u r wd tk1 ws1) H' ∧ ¬ OwnU u r wd tk1 ws1 sq ∧ ¬ OwnU u r wd tk1 ws1 lq ∧ ¬ OwnU u r wd tk1 ws1 pl
theorem last_loop {K : PySem.W.Frag} {mg : Str → Option Value} {C : UC} {H H3 : Hp} {u t r dx rd wd pl sq lq : Addr} {bd : Bool} {x : L3} {O : Addr → Prop} {ws : List WR} {kvs : List (Key × V)} {rm : Str → List Int} {pend ahead : List L3} {P : List Addr} {D : Ends}
    (hC : UCOk C) (ht : H t = some (.tup (l3V x))) (htO : ¬ O t) (ox : okL3 x) (hxU : x ∈ C.U) (hxc : x.1 ∈ C.cs) (hxu : untL x rm) (hPl : P.length ≤ 1000) (hsqH : H sq = none) (hlqH : H lq = none) (n1 : sq ≠ lq) (n2 : sq ≠ pl) (n3 : lq ≠ pl)
    (h0 : LastInv mg C H u r dx rd wd pl sq lq bd x O ws kvs rm pend ahead P 0 H3)
    (fin : ∀ v5 v6 H', LastInv mg C H u r dx rd wd pl sq lq bd x O ws kvs rm pend ahead P P.length H' → D.nx [some (.ref u), some (.ref t), some (.ref r), some (.ref sq), some (.ref lq), v5, v6] H') :
    ForG (Itl K pl) (gName 5)
      (tSeq (tAsg (tMethC (clsAt mg (Str.ofString "Watch")) (Str.ofString "instead_of") (spInstead mg) (tVarM 5) (tCons (tVarM 1) (tCons (tVarM 2) tNil))) (gName 6))
        (tIfS (tB (tIsN (tVarM 6)))
          (tSeq (tDrop (tML rmAppend (tVarM 3) (tCons (tVarM 5) tNil)))
            (tDrop (tML rmAppend (tVarM 4) (tCons (tMethC (clsAt mg (Str.ofString "Watch")) (Str.ofString "beside") (spBeside mg) (tVarM 5) (tCons (tVarM 1) tNil)) tNil))))
          (tSeq (tDrop (tMethC (clsAt mg (Str.ofString "Watch")) (Str.ofString "put_instead_of") (spPutI mg) (tVarM 5) (tCons (tVarM 1) (tCons (tVarM 6) tNil))))
            (tDrop (tMethC (clsAt mg (Str.ofString "Units")) (Str.ofString "set_watch") (spSetW mg) (tVarM 0) (tCons (tVarM 6) (tCons (tVarM 5) tNil)))))))
      D [some (.ref u), some (.ref t), some (.ref r), some (.ref sq), some (.ref lq), none, none] H3 := by
  refine for_g wlk_list (fun i σ H' => ∃ v5 v6, σ = [some (.ref u), some (.ref t), some (.ref r), some (.ref sq), some (.ref lq), v5, v6] ∧ LastInv mg C H u r dx rd wd pl sq lq bd x O ws kvs rm pend ahead P i H') ⟨_, _, rfl, h0⟩ (fun i σ H' zq31 => by obtain ⟨_, _, _, _, _, _, _, _, _, _, _, _, _, _, _, _, _, _, _, _, _, _, _, _, h, _⟩ := zq31; exact (.of h)) ?_ ?_
  · rintro i e σ H4 hi hx ⟨v5, v6, rfl, tk1, reg1, ws1, sty, lasts, us, hsq, hlq, hRl, hll, hsl, hlo, hB, hT, hxn, hR, hP, hS, hK, hu0, hmp, hpl, hF, nsq, nlq, npl⟩
    obtain ⟨p, hp, rfl⟩ : ∃ p, P[i]? = some p ∧ V.ref p = e := by
      rw [List.getElem?_map] at hx
      cases e : P[i]? with
      | none => rw [e] at hx; cases hx
      | some nm => rw [e] at hx; exact ⟨nm, rfl, Option.some.inj hx⟩
    have hil : i < P.length := (List.getElem?_eq_some_iff.mp hp).1
    have edr : P.drop i = p :: P.drop (i + 1) := by rw [List.drop_eq_getElem_cons hil, (List.getElem?_eq_some_iff.mp hp).2]
    obtain ⟨w, hw, rfl, hwx⟩ := hR.so x p (by rw [setR_same, edr]; simp)
    obtain ⟨hwo, hwc⟩ := hB.wok w hw
    have ht4 := (hF.stay htO ht).1
    obtain ⟨dw, ct, uw, t1, t2, hw1, _⟩ := id (hB.wa w hw)
    have hone := hwo.ok _ hwo.i1
    have hoth := hwo.ok _ hwo.i2
    have oy : okL3 (besideL x w) := ok_beside hone.2 hoth.2
    (try ctx_has vcx true_and hw1 fsW_instead)
    refine ⟨t, r, w, x, C.cs, kvs, rm, rfl, hB.wa w hw, ht4, ox, hone.2, hoth.2, hB.rd, hB.ks, hC.nd, hB.rk, hB.gd, fun l hl => ⟨(hwo.ok l hl).1.1, (hwo.ok l hl).2⟩, fun hun H5 s5 => ?_, fun t' x' H5 hm' hne hnu ht' s5 => ?_⟩
    · have hsq5 := s5 _ _ hsq
      have hlq5 := s5 _ _ hlq
      have hw5 := s5 _ _ hw1
      have wsq : w.p ≠ sq := fun z => nsq (.inr (.inr (.inr ⟨w, hw, z⟩)))
      (try ctx_has vcx true_and hsq5)
      have k6 : ∀ b o, b ≠ sq → H5 b = some o → upd H5 sq (.lst (sty.map V.ref ++ [V.ref w.p])) b = some o := fun b o hb e => by rw [upd_ne hb]; exact e
      have kt6 : ∀ a vs, H5 a = some (.tup vs) → upd H5 sq (.lst (sty.map V.ref ++ [V.ref w.p])) a = some (.tup vs) := fun a vs e => k6 _ _ (ne_of e hsq5 (by intro z; cases z)) e
      have hsq6 : upd H5 sq (.lst (sty.map V.ref ++ [V.ref w.p])) sq = some (.lst ((sty ++ [w.p]).map V.ref)) := by rw [upd_same]; simp
      generalize upd H5 sq (.lst (sty.map V.ref ++ [V.ref w.p])) = H6 at k6 kt6 hsq6 ⊢
      have W6 : WatchAt mg H6 w := ((hB.same s5).wa w hw).keep (fun o e => k6 _ _ wsq e) kt6
      have hul : us.length ≤ i := by rw [hRl.length]; exact hll
      refine ⟨by rw [List.length_map]; exact Nat.lt_of_le_of_lt hsl (Nat.lt_of_lt_of_le hil (Nat.le_trans hPl (by decide))), ⟨_, k6 _ _ n1.symm hlq5⟩, dw, _, k6 _ _ wsq hw5, fsW_beside, t, w, x, rfl, W6, kt6 _ _ (s5 _ _ ht4), ox, hone.2, fun tb H7 htb s7 => ?_⟩
      have hlq7 := s7 _ _ (k6 _ _ n1.symm hlq5)
      refine ⟨us, hlq7, Nat.lt_of_le_of_lt hul (Nat.lt_of_lt_of_le hil (Nat.le_trans hPl (by decide))), ?_⟩
      have T : ∀ b o, b ≠ sq → b ≠ lq → H4 b = some o → upd H7 lq (.lst (us ++ [V.ref tb])) b = some o := fun b o h1 h2 e => by rw [upd_ne h2]; exact s7 _ _ (k6 _ _ h1 (s5 _ _ e))
      have TO : ∀ b o, OwnU u r wd tk1 ws1 b → H4 b = some o → upd H7 lq (.lst (us ++ [V.ref tb])) b = some o := fun b o h e => T b o (fun z => nsq (z ▸ h)) (fun z => nlq (z ▸ h)) e
      have kt : ∀ a vs, H4 a = some (.tup vs) → upd H7 lq (.lst (us ++ [V.ref tb])) a = some (.tup vs) := fun a vs e => T a _ (ne_of e hsq (by intro z; cases z)) (ne_of e hlq (by intro z; cases z)) e
      have hy : besideL x w ∈ w.ls := by
        rcases two_of hwx hwo.ne with ⟨_, h⟩ | ⟨_, h⟩
        · rw [← h]; exact hwo.i2
        · rw [← h]; exact hwo.i1
      have hK' := hK
      rw [edr] at hK'
      refine ⟨tk1, reg1, ws1, sty ++ [w.p], lasts ++ [besideL x w], us ++ [V.ref tb], by rw [upd_ne n1]; exact s7 _ _ hsq6, upd_same, (hRl.keep kt).snoc (by rw [upd_ne (ne_of htb hlq7 (by intro z; cases z))]; exact htb), by simp; omega, by simp; omega, fun l hl => ?_, hB.keep (fun v hv o e => TO _ _ (.inr (.inr (.inr ⟨v, hv, rfl⟩))) e) (fun o e => TO _ _ (.inr (.inl rfl)) e) kt, hT.keep fun b o hb e => TO b o (.inr (.inr (.inl hb))) e, hxn, ?_, hP.more fun m hm => ?_, ?_, ?_, TO _ _ (.inl rfl) hu0, hmp, T pl _ (Ne.symm n2) (Ne.symm n3) hpl, ⟨fun b o n e => ?_, hF.2⟩, nsq, nlq, npl⟩
      · rcases List.mem_append.mp hl with q | q
        · exact hlo l q
        · rw [List.mem_singleton.mp q]; exact hwo.ok _ hy
      · rw [List.append_assoc, List.singleton_append, ← edr]; exact hR
      · rw [← List.append_assoc]; exact List.mem_append_left _ hm
      · rw [← List.append_assoc]; exact snd_last hC.fo hS hwc (fun l hl => (hwo.ok l hl).1.1) hy hun
      · rw [← List.append_assoc]; exact kinv_last hK' hB.wp hw hwx hwo.ne
      · exact T b o (ne_of_none e hsqH) (ne_of_none e hlqH) (hF.1 b o n e)
    · have hw5 := s5 _ _ hw1
      (try ctx_has vcx true_and hw5 fsW_put)
      have hxx : x' ≠ x := fun z => hnu (z ▸ hxu)
      have hB5 := hB.same s5
      have hT5 : DTab C.U H5 wd tk1 reg1 := hT.keep fun b o _ e => s5 _ _ e
      have hu5 := s5 _ _ hu0
      refine ⟨t, t', w, x, x', rfl, hB5.wa w hw, s5 _ _ ht4, ox, hone.2, ht', fun H6 W6 B6 => ?_⟩
      have eqp : ∀ v ∈ ws1, v.p = w.p → v = w := fun v hv e => wr_eq hB.wp hv hw e
      have nOT : ¬ OwnT wd tk1 w.p := hT5.notT hw5 (fun _ => by nofun) fun _ => by nofun
      have k6 : ∀ b o, (∀ C dx fs, o ≠ .ins C dx fs) → H5 b = some o → H6 b = some o := fun b o ho e => B6 b o (fun z => by rw [z, hw5] at e; cases e; exact ho _ _ _ rfl) e
      have uw : u ≠ w.p := fun z => by
        obtain ⟨dz, cz, uz, tz1, tz2, hz, _⟩ := hB5.wa w hw
        rw [← z, hu5] at hz
        have := congrArg (fun o => match o with | some (HO.ins _ _ fs) => fs.lookup (Str.ofString "clause") | _ => none) hz
        exact absurd this (by simp only []; rw [fsW_clause]; intro q; cases q)
      have hu6 := B6 u _ uw hu5
      have hT6 : DTab C.U H6 wd tk1 reg1 := hT5.keep fun b o hb e => B6 b o (fun z => nOT (z ▸ hb)) e
      have epp : (atP w.p (goOver x x') ws1).map (·.p) = ws1.map (·.p) := atP_p (goOver_p x x')
      have hB6 : UB mg C H6 r (atP w.p (goOver x x') ws1) kvs rm := by
        refine ⟨fun v hv => ?_, by rw [epp]; exact hB.wp, fun v hv => ?_, by unfold atP; rw [List.length_map]; exact hB.wl, k6 _ _ (fun _ _ _ => by nofun) hB5.rd, hB.ks, hB5.rk.keep fun a vs e => k6 _ _ (fun _ _ _ => by nofun) e, hB.gd, hB.sl⟩
        · rcases atP_mem hv with ⟨v0, hv0, ep, rfl⟩ | ⟨hv0, ep⟩
          · rw [eqp v0 hv0 ep]; exact W6
          · exact (hB5.wa v hv0).keep (fun o e => B6 _ _ ep e) fun a vs e => k6 _ _ (fun _ _ _ => by nofun) e
        · rcases atP_mem hv with ⟨v0, hv0, ep, rfl⟩ | ⟨hv0, ep⟩
          · rw [eqp v0 hv0 ep]; exact ⟨wok_over hwo hwx hm' hne, by rw [goOver_ls]; exact hwc⟩
          · exact hB.wok v hv0
      have hrx : reg1 x' = setR reg1 x (sty ++ P.drop i) x' := (setR_ne hxx).symm
      have hrl : (reg1 x').length ≤ 1000 := by
        rw [hrx]
        have := nodup_len (ys := ws1.map (·.p)) (hR.nd x') fun p hp => by
          obtain ⟨v, hv, e, _⟩ := hR.so _ _ hp
          exact List.mem_map.mpr ⟨v, hv, e⟩
        rw [List.length_map] at this
        exact Nat.le_trans this hB.wl
      have hxU' : x' ∈ C.U := ((hC.cl _ hwc).2.2 x' hm').2.2
      refine ⟨dx, _, hu6, fsU_set, u, t', w.p, dx, rd, wd, bd, x', C.U, tk1, reg1, rfl, hu6, k6 _ _ (fun _ _ _ => by nofun) ht', hxU', hC.ul, hT6, by omega, fun tk' H7 hT7 hvk F7 => ?_⟩
      have F47 : Fr (OwnU u r wd tk1 ws1) H4 (OwnU u r wd tk' (atP w.p (goOver x x') ws1)) H7 := by
        refine (Fr.same s5).trans (Fr.trans (O1 := OwnU u r wd tk1 (atP w.p (goOver x x') ws1)) (H1 := H6) ⟨fun b o n e => B6 b o (fun z => n (.inr (.inr (.inr ⟨w, hw, z.symm⟩)))) e, fun b h => .inl ?_⟩ F7.ofT)
        rcases h with h | h | h | ⟨v, hv, h⟩
        · exact .inl h
        · exact .inr (.inl h)
        · exact .inr (.inr (.inl h))
        · have : b ∈ (atP w.p (goOver x x') ws1).map (·.p) := List.mem_map.mpr ⟨v, hv, h⟩
          rw [epp] at this
          obtain ⟨v0, hv0, e0⟩ := List.mem_map.mp this
          exact .inr (.inr (.inr ⟨v0, hv0, e0⟩))
      have hB7 := hB6.ofT hT6 F7
      have f1 := F47.stay nsq hsq
      have f2 := F47.stay nlq hlq
      have f3 := F47.stay npl hpl
      have kt7 : ∀ a vs, H4 a = some (.tup vs) → H7 a = some (.tup vs) := fun a vs e => (F47.stay (hB.notTup hT hu0 e) e).1
      have hu7 : H7 u = some (.ins (clsAt mg "Units") dx (fsU rd wd bd)) := F7.1 _ _ (hT6.notT hu6 (fun _ => by nofun) fun _ => by nofun) hu6
      have hnd := hR.nd x
      rw [setR_same, edr] at hnd
      have hK' := hK
      rw [edr] at hK'
      have hbx : besideL x w ≠ x := fun z => by
        rcases two_of hwx hwo.ne with ⟨h1, h2⟩ | ⟨h1, h2⟩
        · exact hwo.ne (h1.trans (z.symm.trans h2.symm))
        · exact hwo.ne (h2.trans (z.trans h1.symm))
      refine ⟨tk', setR reg1 x' (reg1 x' ++ [w.p]), atP w.p (goOver x x') ws1, sty, lasts, us, f1.1, f2.1, hRl.keep kt7, by omega, by omega, hlo, hB7, hT7, by rw [hvk x hxx.symm]; exact hxn, ?_, pinv_over hB.gd (fun v hv => (hB.wok v hv).1) hP (fun v hv e => by rw [eqp v hv e]; exact hwx) hxu hnu, hS, kinv_over hK' hB.wp hw hwx hwo.ne hxx hbx, hu7, ?_, f3.1, hF.trans F47, f1.2, f2.2, f3.2⟩
      · refine reg_over hR hB.wp hw hwo hwx hxx hne ?_ ⟨?_, fun p => ?_⟩ fun l h1 h2 => ?_
        · rw [setR_ne hxx, setR_same, hrx]
        · rw [setR_same]
          exact hnd.sublist (List.Sublist.append (List.Sublist.refl _) (List.sublist_cons_self _ _))
        · rw [setR_same, setR_same, edr]
          rw [List.nodup_append] at hnd
          have hn2 := List.nodup_cons.mp hnd.2.1
          constructor
          · intro hp
            rcases List.mem_append.mp hp with q | q
            · exact ⟨List.mem_append_left _ q, fun z => hnd.2.2 _ q w.p (by simp) z⟩
            · exact ⟨List.mem_append_right _ (List.mem_cons_of_mem _ q), fun z => hn2.1 (z ▸ q)⟩
          · rintro ⟨hp, hz⟩
            rcases List.mem_append.mp hp with q | q
            · exact List.mem_append_left _ q
            · exact List.mem_append_right _ ((List.mem_cons.mp q).resolve_left hz)
        · rw [setR_ne h1, setR_ne h2, setR_ne h1]
      · rw [← hmp]
        unfold atP
        rw [List.map_map]
        refine List.map_congr_left fun v _ => ?_
        show ((if v.p = w.p then goOver x x' v else v).p, (if v.p = w.p then goOver x x' v else v).ls) = _
        split
        · rw [goOver_p, goOver_ls]
        · rfl
  · rintro σ H4 ⟨v5, v6, rfl, hI⟩
    rw [List.length_map] at hI
    exact fin v5 v6 H4 hI
theorem last_fin {mg : Str → Option Value} {C : UC} {H H4 : Hp} {u t r dx rd wd pl sq lq : Addr} {bd : Bool} {x : L3} {tk : Tk} {ws : List WR} {kvs : List (Key × V)} {rm : Str → List Int} {pend ahead : List L3} {P : List Addr} {v5 v6 : Option V} {Q : VK}
    (hC : UCOk C) (ht : H t = some (.tup (l3V x))) (htO : ¬ OwnU u r wd tk ws t) (hxU : x ∈ C.U) (hPl : P.length ≤ 1000) (hsqH : H sq = none) (hlqH : H lq = none) (n1 : sq ≠ lq)
    (hI : LastInv mg C H u r dx rd wd pl sq lq bd x (OwnU u r wd tk ws) ws kvs rm pend ahead P P.length H4)
    (k : ∀ q us lasts tk' reg' ws' H', H q = none → H' q = some (.lst us) → Rows3 H' us lasts → lasts.length ≤ 1000 → (∀ l ∈ lasts, litOk C.cs l ∧ okL3 l) → UB mg C H' r ws' kvs rm → DTab C.U H' wd tk' reg' → RegOk ws' reg' → PInv ws' rm pend (ahead ++ lasts) → Snd C.cs C.F rm (ahead ++ lasts) → H' u = some (.ins (clsAt mg "Units") dx (fsU rd wd bd)) →
      ws'.map (fun w => (w.p, w.ls)) = ws.map (fun w => (w.p, w.ls)) → Fr (OwnU u r wd tk ws) H (OwnU u r wd tk' ws') H' → ¬ OwnU u r wd tk' ws' q → Q (.ref q) H') :
    tSeq (sDPut (tFldC (clsAt mg (Str.ofString "Units")) (tVarM 0) (Str.ofString "watches")) (tVarM 1) (tVarM 3)) (tRet (tVarM 4)) { nx := fun x H' => Q V.non H', rt := Q } [some (.ref u), some (.ref t), some (.ref r), some (.ref sq), some (.ref lq), v5, v6] H4 := by
  obtain ⟨tk1, reg1, ws1, sty, lasts, us, hsq, hlq, hRl, hll, hsl, hlo, hB, hT, hxn, hR, hP, hS, hK, hu0, hmp, hpl, hF, nsq, nlq, npl⟩ := hI
  rw [List.drop_length] at hR hK
  rw [List.append_nil] at hR
  have ht4 := (hF.stay htO ht).1
  (try ctx_has vcx true_and sDPut hu0 fsU_watches)
  refine ⟨_, DPut.t (k := keyL x) hT.hd ht4 (Nat.lt_of_le_of_lt (Nat.le_trans hT.len hC.ul) (by decide)), ?_⟩
  have sw : sq ≠ wd := fun q => nsq (.inr (.inr (.inl (.inl q))))
  have lw : lq ≠ wd := fun q => nlq (.inr (.inr (.inl (.inl q))))
  have k5 : ∀ b o, b ≠ wd → H4 b = some o → upd H4 wd (.dT (putK tk1 (keyL x) (.ref sq))) b = some o := fun b o hb e => by rw [upd_ne hb]; exact e
  have kt5 : ∀ b vs, H4 b = some (.tup vs) → upd H4 wd (.dT (putK tk1 (keyL x) (.ref sq))) b = some (.tup vs) := fun b vs e => k5 _ _ (ne_of e hT.hd (by intro z; cases z)) e
  have own : ∀ b, OwnU u r wd (putK tk1 (keyL x) (.ref sq)) ws1 b → OwnU u r wd tk1 ws1 b ∨ b = sq := fun b h => by
    rcases h with h | h | h | h
    · exact .inl (.inl h)
    · exact .inl (.inr (.inl h))
    · rcases h with h | ⟨m, h⟩
      · exact .inl (.inr (.inr (.inl (.inl h))))
      · rw [valV_put] at h
        by_cases q : keyL m = keyL x
        · rw [if_pos q] at h; cases h; exact .inr rfl
        · rw [if_neg q] at h; exact .inl (.inr (.inr (.inl (.inr ⟨m, h⟩))))
    · exact .inl (.inr (.inr (.inr h)))
  refine k lq us lasts _ _ ws1 _ hlqH (k5 _ _ lw hlq) (hRl.keep kt5) (Nat.le_trans hll hPl) hlo (hB.keep (fun w hw o e => k5 _ _ (fun q => ?_) e) (fun o e => k5 _ _ (ne_of hB.rd hT.hd (by intro z; cases z)) e) kt5) (hT.put (z := sq) (fun m q => nsq (.inr (.inr (.inl (.inr ⟨m, q⟩))))) hxU hxn upd_same (k5 _ _ sw hsq) fun b o hb e => k5 _ _ (fun q => ?_) e) hR (pinv_done hP hK) hS (k5 _ _ (ne_of hu0 hT.hd (by intro z; cases z)) hu0) hmp ⟨fun b o n e => k5 _ _ (fun q => n (.inr (.inr (.inl (.inl q))))) (hF.1 b o n e), fun b h => ?_⟩ fun h => ?_
  · obtain ⟨dw, ct, uw, t1, t2, hw1, _⟩ := hB.wa w hw
    rw [q, hT.hd] at hw1; cases hw1
  · obtain ⟨m, hm⟩ := hb
    rcases hT.ra m with ⟨e2, _⟩ | ⟨c, e2, hc⟩
    · rw [hm] at e2; cases e2
    · rw [hm] at e2; cases e2; rw [q, hT.hd] at hc; cases hc
  · rcases own b h with q | q
    · exact hF.2 b q
    · rw [q]; exact .inr hsqH
  · rcases own lq h with q | q
    · exact nlq q
    · exact n1 q.symm
theorem ok_Units_last_ones {P : Program} {w : World} {K : PySem.W.Frag} {mg : Str → Option Value} {base : Heap} (T : Txt K mg) (L : MtdL K (Meth K (clsAt mg "Units") "last_ones") "last_ones" "Units.last_ones" s_Units_last_ones ["self", "literal", "rooms"]) (FWatch_instead_of : FnR P w K mg base (Meth K (clsAt mg "Watch") "instead_of") 2 ["self", "literal", "rooms"] (spInstead mg)) (FWatch_beside : FnR P w K mg base (Meth K (clsAt mg "Watch") "beside") 1 ["self", "literal"] (spBeside mg)) (FWatch_put_instead_of : FnR P w K mg base (Meth K (clsAt mg "Watch") "put_instead_of") 1 ["self", "literal", "another"] (spPutI mg)) (FUnits_set_watch : FnR P w K mg base (Meth K (clsAt mg "Units") "set_watch") 1 ["self", "literal", "watch"] (spSetW mg)) : FnR P w K mg base (Meth K (clsAt mg "Units") "last_ones") 3 ["self", "literal", "rooms"] (spLastO mg) := by
  have nd := sc_Units_last_ones.nd
  refine L.ok sc_Units_last_ones (fun vs H Q E h => ?_) (fun f cdv A outer s H vs Q E hr h => ?_)
  · obtain ⟨C, u, t, r, dx, rd, wd, bd, x, tk, reg, ws, kvs, rm, pend, ahead, rfl, hC, hu0, ht, ox, hxU, hxc, hxu, hB, hT, hR, hP, hS, k⟩ := h
    rfl
  · obtain ⟨C, u, t, r, dx, rd, wd, bd, x, tk, reg, ws, kvs, rm, pend, ahead, rfl, hC, hu0, ht, ox, hxU, hxc, hxu, hB, hT, hR, hP, hS, k⟩ := h
    have hu := hu_of hr
    refine ⟨_, (pss_cons (ps_set (i := 3) nd rfl (by first | exact Or.inl rfl | exact Or.inr rfl) (pe_lst pa_nil))
      (pss_cons (ps_set (i := 4) nd rfl (by first | exact Or.inl rfl | exact Or.inr rfl) (pe_lst pa_nil))
      (pss_cons (ps_for PassesOwn.never rfl (pi_LK (K := K) rfl (pe_dpopT hu (pe_fldC T.cl_Units T.no_Units_watches (pvM 0)) (pvM 1) (pe_lst pa_nil) ⟨rfl, rfl, rfl, rfl⟩)) (pg_name (i := 5) nd rfl (by first | exact Or.inl rfl | exact Or.inr rfl)) (pss_cons (ps_set (i := 6) nd rfl (by first | exact Or.inl rfl | exact Or.inr rfl) (pe_methF T.cl_Watch FWatch_instead_of (hr.mono (by first | decide | omega)) (pvM 5) (pa_cons (pvM 1) (pa_cons (pvM 2) pa_nil))))
      (pss_one (ps_if (pt_cmp (pc_isN (pvM 6))) (pss_cons (ps_expr (pe_mL PySem.F.slot_list_append PySem.F.type_list_append ml_append (pvM 3) (pa_cons (pvM 5) pa_nil)))
      (pss_one (ps_expr (pe_mL PySem.F.slot_list_append PySem.F.type_list_append ml_append (pvM 4) (pa_cons (pe_methF T.cl_Watch FWatch_beside (hr.mono (by first | decide | omega)) (pvM 5) (pa_cons (pvM 1) pa_nil)) pa_nil))))) (pss_cons (ps_expr (pe_methF T.cl_Watch FWatch_put_instead_of (hr.mono (by first | decide | omega)) (pvM 5) (pa_cons (pvM 1) (pa_cons (pvM 6) pa_nil))))
      (pss_one (ps_expr (pe_methF T.cl_Units FUnits_set_watch (hr.mono (by first | decide | omega)) (pvM 0) (pa_cons (pvM 6) (pa_cons (pvM 5) pa_nil))))))))))
      (pss_cons (ps_dput hu (pe_fldC T.cl_Units T.no_Units_watches (pvM 0)) (pvM 1) (pvM 3) rfl)
      (pss_one (ps_ret (pvM 4))))))), ?_⟩
    (try ctx_has vcx true_and hu0 fsU_watches tDPopT)
    refine ⟨by decide, fun sq hsq => ⟨by decide, fun lq hlq => ?_⟩⟩
    have n1 : sq ≠ lq := fun z => by rw [← z, upd_same] at hlq; cases hlq
    have hlqH : H lq = none := by rw [upd_ne n1.symm] at hlq; exact hlq
    have s2 : Same H (upd (upd H sq (.lst [])) lq (.lst [])) := (Same.upd0 hsq).upd_new hlq
    have h2s : upd (upd H sq (.lst [])) lq (.lst []) sq = some (.lst []) := by rw [upd_ne n1]; exact upd_same
    have h2l : upd (upd H sq (.lst [])) lq (.lst []) lq = some (.lst []) := upd_same
    generalize upd (upd H sq (.lst [])) lq (.lst []) = H2 at s2 h2s h2l ⊢
    have hu2 := s2 _ _ hu0
    have hT2 : DTab C.U H2 wd tk reg := hT.keep fun b o _ e => s2 _ _ e
    refine ⟨dx, _, hu2, _, fsU_watches, wd, rfl, ⟨_, hT2.hd⟩, by decide, fun z hz => ?_⟩
    have zs : sq ≠ z := ne_of_none h2s hz
    have zl : lq ≠ z := ne_of_none h2l hz
    have s3 : Same H2 (upd H2 z (.lst [])) := Same.upd0 hz
    have h3z : upd H2 z (.lst []) z = some (.lst []) := upd_same
    generalize upd H2 z (.lst []) = H3 at s3 h3z ⊢
    have s03 := s2.trans s3
    have hzH : H z = none := s2.free hz
    have hT3 : DTab C.U H3 wd tk reg := hT.keep fun b o _ e => s03 _ _ e
    have hB3 := hB.same s03
    have hu3 := s03 _ _ hu0
    have nsq := hB.none hT hu0 hsq
    have nlq := hB.none hT hu0 hlqH
    have nz := hB.none hT hu0 hzH
    have h3s := s3 _ _ h2s
    have h3l := s3 _ _ h2l
    have hKI : KInv ws x (reg x) (ahead ++ []) := fun w hw => ⟨fun e => .inl (by have := (hR.co w hw).1; rwa [e] at this), fun e => .inl (by have := (hR.co w hw).2; rwa [e] at this)⟩
    have hrl : (reg x).length ≤ 1000 := by
      have := nodup_len (ys := ws.map (·.p)) (hR.nd x) fun p hp => by
        obtain ⟨v, hv, e, _⟩ := hR.so _ _ hp
        exact List.mem_map.mpr ⟨v, hv, e⟩
      rw [List.length_map] at this
      exact Nat.le_trans this hB.wl
    refine ⟨tk, hT3.hd, keyL x, s03 _ _ ht, fun v hv => ?_, fun hn => ?_⟩
    · rcases hT3.ra x with ⟨e, _⟩ | ⟨a, e, ha⟩
      · rw [hv] at e; cases e
      rw [hv] at e
      cases e
      have aw : a ≠ wd := ne_of ha hT3.hd (by intro z; cases z)
      have n2 : sq ≠ a := fun q => nsq (.inr (.inr (.inl (.inr ⟨x, by rw [q]; exact hv⟩))))
      have n3 : lq ≠ a := fun q => nlq (.inr (.inr (.inl (.inr ⟨x, by rw [q]; exact hv⟩))))
      have sub : ∀ b, OwnU u r wd (dropK tk (keyL x)) ws b → OwnU u r wd tk ws b := fun b h => by
        rcases h with h | h | h | h
        · exact .inl h
        · exact .inr (.inl h)
        · refine .inr (.inr (.inl ?_))
          rcases h with h | ⟨m, h⟩
          · exact .inl h
          · rw [valV_dropK] at h
            by_cases q : keyL m = keyL x
            · rw [if_pos q] at h; cases h
            · rw [if_neg q] at h; exact .inr ⟨m, h⟩
        · exact .inr (.inr (.inr h))
      have k4 : ∀ b o, b ≠ wd → H3 b = some o → upd H3 wd (.dT (dropK tk (keyL x))) b = some o := fun b o hb e => by rw [upd_ne hb]; exact e
      have kt4 : ∀ b vs, H3 b = some (.tup vs) → upd H3 wd (.dT (dropK tk (keyL x))) b = some (.tup vs) := fun b vs e => k4 _ _ (ne_of e hT3.hd (by intro z; cases z)) e
      have eR : setR (setR reg x []) x ([] ++ (reg x).drop 0) = reg := by
        funext m
        by_cases q : m = x
        · subst q; rw [setR_same]; rfl
        · rw [setR_ne q, setR_ne q]
      refine ⟨a, rfl, _, k4 _ _ aw ha, ?_⟩
      refine last_loop hC ht (hB.notTup hT hu0 ht) ox hxU hxc hxu hrl hsq hlqH n1 n2 n3 ⟨dropK tk (keyL x), setR reg x [], ws, [], [], [], k4 _ _ (fun q => nsq (.inr (.inr (.inl (.inl q))))) h3s, k4 _ _ (fun q => nlq (.inr (.inr (.inl (.inl q))))) h3l, Rows3.nil, Nat.zero_le _, Nat.zero_le _, fun l hl => by simp at hl, hB3.keep (fun w hw o e => k4 _ _ (fun q => ?_) e) (fun o e => k4 _ _ (ne_of hB3.rd hT3.hd (by intro z; cases z)) e) kt4, hT3.drop upd_same (fun b o hb e => k4 _ _ (fun q => ?_) e), by rw [valV_dropK, if_pos rfl], by rw [eR]; exact hR, by rw [List.append_nil]; exact hP, by rw [List.append_nil]; exact hS, hKI, k4 _ _ (ne_of hu3 hT3.hd (by intro z; cases z)) hu3, rfl, k4 _ _ aw ha, ⟨fun b o n e => k4 _ _ (fun q => n (.inr (.inr (.inl (.inl q))))) (s03 _ _ e), fun b h => .inl (sub b h)⟩, fun h => nsq (sub _ h), fun h => nlq (sub _ h), fun h => ?_⟩ ?_
      · obtain ⟨dw, ct, uw, t1, t2, hw1, _⟩ := hB3.wa w hw
        rw [q, hT3.hd] at hw1; cases hw1
      · obtain ⟨m, hm⟩ := hb
        rcases hT3.ra m with ⟨e2, _⟩ | ⟨c, e2, hc⟩
        · rw [hm] at e2; cases e2
        · rw [hm] at e2; cases e2; rw [q, hT3.hd] at hc; cases hc
      · rcases h with h | h | h | ⟨w, hw, h⟩
        · rw [h, hu3] at ha; cases ha
        · rw [h, hB3.rd] at ha; cases ha
        · rcases h with h | ⟨m, h⟩
          · exact aw h
          · rw [valV_dropK] at h
            by_cases q : keyL m = keyL x
            · rw [if_pos q] at h; cases h
            · rw [if_neg q] at h; exact q (by rw [hT3.inj _ _ _ h hv])
        · obtain ⟨dw, ct, uw, t1, t2, hw1, _⟩ := hB3.wa w hw
          rw [h, ha] at hw1; cases hw1
      · intro v5 v6 H' hI
        exact last_fin hC ht (hB.notTup hT hu0 ht) hxU hrl hsq hlqH n1 hI k
    · have er : reg x = [] := by
        rcases hT3.ra x with ⟨_, e⟩ | ⟨a, e, _⟩
        · exact e
        · rw [hn] at e; cases e
      have eR : setR reg x ([] ++ ([] : List Addr).drop 0) = reg := by
        funext m
        by_cases q : m = x
        · subst q; rw [setR_same, er]; rfl
        · rw [setR_ne q]
      rw [er] at hKI
      refine ⟨_, h3z, ?_⟩
      refine last_loop (P := []) hC ht (hB.notTup hT hu0 ht) ox hxU hxc hxu (Nat.zero_le _) hsq hlqH n1 zs zl ⟨tk, reg, ws, [], [], [], h3s, h3l, Rows3.nil, Nat.zero_le _, Nat.zero_le _, fun l hl => by simp at hl, hB3, hT3, hn, by rw [eR]; exact hR, by rw [List.append_nil]; exact hP, by rw [List.append_nil]; exact hS, hKI, hu3, rfl, h3z, Fr.same s03, nsq, nlq, nz⟩ ?_
      intro v5 v6 H' hI
      exact last_fin hC ht (hB.notTup hT hu0 ht) hxU (Nat.zero_le _) hsq hlqH n1 hI k
noncomputable def LivInv (mg : Str → Option Value) (C : UC) (H : Hp) (u r dx rd wd aq : Addr) (bd : Bool) (O : Addr → Prop) (ws : List WR) (rm : Str → List Int) (ahead : List L3) (m : Nat) (H' : Hp) : Prop := ∃ tk1 reg1 ws1 kv1 rm1 ah us,
  H' aq = some (.lst us) ∧ Rows3 H' us ah ∧ (∀ l ∈ ah, litOk C.cs l ∧ okL3 l) ∧ UB mg C H' r ws1 kv1 rm1 ∧ DTab C.U H' wd tk1 reg1 ∧ RegOk ws1 reg1 ∧ PInv ws1 rm1 [] ah ∧ Snd C.cs C.F rm1 ah ∧ (∀ l ∈ ahead, l ∈ ah ∨ truL l rm1) ∧ subR C.cs rm1 rm ∧ ws1.map (fun w => (w.p, w.ls)) = ws.map (fun w => (w.p, w.ls)) ∧ H' u = some (.ins (clsAt mg "Units") dx (fsU rd wd bd)) ∧ Fr O H (OwnU u r wd tk1 ws1) H' ∧ ¬ OwnU u r wd tk1 ws1 aq ∧ ah.length + 2000 * sizeR C.cs rm1 = m ∧ m ≤ 3000000
noncomputable def spLives (mg : Str → Option Value) : Sp := fun vs H Q _ => ∃ (C : UC) (u la r dx rd wd : Addr) (bd : Bool) (tk : Tk) (reg : Reg) (ws : List WR) (kvs : List (Key × V)) (rm : Str → List Int) (ahead : List L3) (us : List V), vs = [.ref u, .ref la, .ref r] ∧ UCOk C ∧ H u = some (.ins (clsAt mg "Units") dx (fsU rd wd bd)) ∧ H la = some (.lst us) ∧ Rows3 H us ahead ∧ ahead.length ≤ 1000 ∧ (∀ l ∈ ahead, litOk C.cs l ∧ okL3 l) ∧
  UB mg C H r ws kvs rm ∧ DTab C.U H wd tk reg ∧ RegOk ws reg ∧ PInv ws rm [] ahead ∧ Snd C.cs C.F rm ahead ∧
  (∀ tk' reg' ws' kv' rm' H', (∀ r', ¬ C.F r') → UB mg C H' r ws' kv' rm' → DTab C.U H' wd tk' reg' → RegOk ws' reg' → ws'.map (fun w => (w.p, w.ls)) = ws.map (fun w => (w.p, w.ls)) → H' u = some (.ins (clsAt mg "Units") dx (fsU rd wd bd)) → Fr (OwnU u r wd tk ws) H (OwnU u r wd tk' ws') H' → Q (.bl false) H') ∧
  (∀ tk' reg' ws' kv' rm' H', RestW ws' rm' → Snd C.cs C.F rm' [] → (∀ l ∈ ahead, truL l rm') → subR C.cs rm' rm → UB mg C H' r ws' kv' rm' → DTab C.U H' wd tk' reg' → RegOk ws' reg' → ws'.map (fun w => (w.p, w.ls)) = ws.map (fun w => (w.p, w.ls)) → H' u = some (.ins (clsAt mg "Units") dx (fsU rd wd bd)) → Fr (OwnU u r wd tk ws) H (OwnU u r wd tk' ws') H' → Q (.bl true) H')
theorem rows_last {H : Hp} {us : List V} {ls : List L3} (h : Rows3 H us ls) (hne : us ≠ []) : ∃ us0 t ls0 l, us = us0 ++ [.ref t] ∧ ls = ls0 ++ [l] ∧ Rows3 H us0 ls0 ∧ H t = some (.tup (l3V l)) := by
  obtain ⟨as, rfl, rfl, h3⟩ := h
  have ha : as ≠ [] := fun z => hne (by rw [z]; rfl)
  obtain ⟨as0, x, e⟩ : ∃ as0 x, as = as0 ++ [x] := ⟨as.dropLast, as.getLast ha, (List.dropLast_concat_getLast ha).symm⟩
  subst e
  exact ⟨as0.map fun x => V.ref x.1, x.1, as0.map (·.2), x.2, by simp, by simp, ⟨as0, rfl, rfl, fun y hy => h3 y (by simp [hy])⟩, h3 x (by simp)⟩
theorem rows_app {H : Hp} {us vs : List V} {ls ms : List L3} (h : Rows3 H us ls) (h' : Rows3 H vs ms) : Rows3 H (us ++ vs) (ls ++ ms) := by
  obtain ⟨as, rfl, rfl, h3⟩ := h
  obtain ⟨bs, rfl, rfl, h3'⟩ := h'
  exact ⟨as ++ bs, by simp, by simp, fun x hx => (List.mem_append.mp hx).elim (h3 x) (h3' x)⟩
theorem newly_in {C : UC} (hC : UCOk C) {c : Str} {b n : List Int} (hc : c ∈ C.cs) (hb : ∀ v ∈ b, v ∈ C.r0 c) (hn : ∀ v ∈ n, v ∈ C.r0 c) {x : L3} (hx : x ∈ newly c b n) : x ∈ C.U ∧ okL3 x := by
  have ok : ∀ w : Str, (w = Str.ofString "is" ∨ w = Str.ofString "not") → ∀ v, okL3 (c, w, v) := fun w hw v => ⟨hC.so c hc, by rcases hw with rfl | rfl; exact (show PyData.strOk (Str.ofString "is") = true by decide +kernel); exact (show PyData.strOk (Str.ofString "not") = true by decide +kernel)⟩
  unfold newly at hx
  rcases List.mem_append.mp hx with q | q
  · obtain ⟨v, hv, rfl⟩ := List.mem_map.mp q
    exact ⟨(hC.uo c hc v (hb v (List.mem_filter.mp hv).1)).1, ok _ (.inl rfl) v⟩
  · by_cases h : n.length = 1 ∧ 1 < b.length
    · rw [if_pos h] at q
      rw [List.mem_singleton.mp q]
      match n, h.1 with
      | [y], _ => exact ⟨(hC.uo c hc y (hn y (by simp))).2, ok _ (.inr rfl) y⟩
    · rw [if_neg h] at q; simp at q
theorem sizeR_sub {cs : List Str} {rm r0 : Str → List Int} (h : ∀ c ∈ cs, (rm c).Sublist (r0 c)) : sizeR cs rm ≤ sizeR cs r0 := by
  induction cs with
  | nil => exact Nat.le_refl _
  | cons c cs ih =>
    unfold sizeR at ih ⊢
    simp only [List.map_cons, List.sum_cons]
    have h1 := (h c (by simp)).length_le
    have h2 := ih fun d hd => h d (by simp [hd])
    omega
theorem ok_Units_lives_with {P : Program} {w : World} {K : PySem.W.Frag} {mg : Str → Option Value} {base : Heap} (T : Txt K mg) (L : MtdL K (Meth K (clsAt mg "Units") "lives_with") "lives_with" "Units.lives_with" s_Units_lives_with ["self", "literals", "rooms"]) (Fis_untrue : Fn P w K mg base "is_untrue" 1 ["literal", "rooms"] (spUnt)) (Fmake_true : Fn P w K mg base "make_true" 2 ["literal", "rooms"] (spMake)) (FUnits_last_ones : FnR P w K mg base (Meth K (clsAt mg "Units") "last_ones") 3 ["self", "literal", "rooms"] (spLastO mg)) : FnR P w K mg base (Meth K (clsAt mg "Units") "lives_with") 4 ["self", "literals", "rooms"] (spLives mg) := by
  have nd := sc_Units_lives_with.nd
  refine L.ok sc_Units_lives_with (fun vs H Q E h => ?_) (fun f cdv A outer s H vs Q E hr h => ?_)
  · obtain ⟨C, u, la, r, dx, rd, wd, bd, tk, reg, ws, kvs, rm, ahead, us, rfl, hC, hu0, hla, hRa, hal, hao, hB, hT, hR, hP, hS, kF, kT⟩ := h
    rfl
  · obtain ⟨C, u, la, r, dx, rd, wd, bd, tk, reg, ws, kvs, rm, ahead, us, rfl, hC, hu0, hla, hRa, hal, hao, hB, hT, hR, hP, hS, kF, kT⟩ := h
    have hu := hu_of hr
    refine ⟨_, (pss_cons (ps_set (i := 3) nd rfl (by first | exact Or.inl rfl | exact Or.inr rfl) (pe_callTy call_listL rfl T.b_list (show bootBuiltins "list" = some (.type "list") by decide +kernel) (pa_cons (pvM 1) pa_nil)))
      (pss_cons (ps_while PassesOwn.never (pt_cmpR op_gt (pe_callB call_lenL rfl T.b_len PySem.boot_len (pa_cons (pvM 3) pa_nil)) pe_int (nomark _)) (pss_cons (ps_set (i := 4) nd rfl (by first | exact Or.inl rfl | exact Or.inr rfl) (pe_mL0 PySem.F.slot_list_pop PySem.F.type_list_pop ml_pop (pvM 3)))
      (pss_cons (ps_if (pt_val (pe_callF Fis_untrue (hr.mono (by first | decide | omega)) rfl (pa_cons (pvM 4) (pa_cons (pvM 2) pa_nil)))) (pss_one (ps_ret pe_bl)) pss_nil)
      (pss_one (ps_for PassesOwn.never rfl (pi_LK (K := K) rfl (pe_callF Fmake_true (hr.mono (by first | decide | omega)) rfl (pa_cons (pvM 4) (pa_cons (pvM 2) pa_nil)))) (pg_name (i := 5) nd rfl (by first | exact Or.inl rfl | exact Or.inr rfl)) (pss_one (ps_expr (pe_mL PySem.F.slot_list_extend PySem.F.type_list_extend ml_extend (pvM 3) (pa_cons (pe_methF T.cl_Units FUnits_last_ones (hr.mono (by first | decide | omega)) (pvM 0) (pa_cons (pvM 5) (pa_cons (pvM 2) pa_nil))) pa_nil)))))))))
      (pss_one (ps_ret pe_bl)))), ?_⟩
    (try ctx_has vcx true_and hla)
    intro aq haq
    have s1 : Same H (upd H aq (.lst us)) := Same.upd0 haq
    have h1a : upd H aq (.lst us) aq = some (.lst us) := upd_same
    generalize upd H aq (.lst us) = H1 at s1 h1a ⊢
    have naq := hB.none hT hu0 haq
    refine while_rd (fun m σ H' => ∃ v4 v5, σ = [some (.ref u), some (.ref la), some (.ref r), some (.ref aq), v4, v5] ∧ LivInv mg C H u r dx rd wd aq bd (OwnU u r wd tk ws) ws rm ahead m H')
      (fun σ H' => ∃ v4 v5, σ = [some (.ref u), some (.ref la), some (.ref r), some (.ref aq), v4, v5] ∧ ∃ m, LivInv mg C H u r dx rd wd aq bd (OwnU u r wd tk ws) ws rm ahead m H' ∧ H' aq = some (.lst []))
      ⟨_, _, _, rfl, tk, reg, ws, kvs, rm, ahead, us, h1a, hRa.keep (fun _ _ e => s1 _ _ e), hao, hB.same s1, hT.keep (fun b o _ e => s1 _ _ e), hR, hP, hS, fun l hl => .inl hl, subR.refl, rfl, s1 _ _ hu0, Fr.same s1, naq, rfl, by have := sizeR_sub hB.sl; have := hC.sz; omega⟩ ?_ ?_
    · rintro R hR0 m σ H2 ⟨v4, v5, rfl, hI⟩
      obtain ⟨tk1, reg1, ws1, kv1, rm1, ah, us1, haq2, hRh, hho, hB2, hT2, hR2, hP2, hS2, hA2, hsb, hmp, hu2, hF2, na2, hm, hmb⟩ := id hI
      (try ctx_has vcx true_and haq2)
      by_cases he : us1 = []
      · rw [if_neg (by rw [he]; simp)]
        exact hR0 _ _ ⟨v4, v5, rfl, m, hI, by rw [haq2, he]⟩
      rw [if_pos (by have := List.length_pos_iff.mpr he; omega)]
      obtain ⟨us0, t, ls0, l, rfl, rfl, hR0', htl⟩ := rows_last hRh he
      obtain ⟨hlo, hlk⟩ := hho l (by simp)
      obtain ⟨a, hva, ha⟩ := room_at hB2.ks hC.nd hB2.rk hlo.1
      rw [List.dropLast_concat]
      have k3 : ∀ b o, b ≠ aq → H2 b = some o → upd H2 aq (.lst us0) b = some o := fun b o hb e => by rw [upd_ne hb]; exact e
      have kt3 : ∀ b vs, H2 b = some (.tup vs) → upd H2 aq (.lst us0) b = some (.tup vs) := fun b vs e => k3 _ _ (ne_of e haq2 (by intro z; cases z)) e
      have kO3 : ∀ b o, OwnU u r wd tk1 ws1 b → H2 b = some o → upd H2 aq (.lst us0) b = some o := fun b o h e => k3 _ _ (fun z => na2 (z ▸ h)) e
      have h3a : upd H2 aq (.lst us0) aq = some (.lst us0) := upd_same
      generalize upd H2 aq (.lst us0) = H3 at k3 kt3 kO3 h3a ⊢
      have hB3 : UB mg C H3 r ws1 kv1 rm1 := hB2.keep (fun w hw o e => kO3 _ _ (.inr (.inr (.inr ⟨w, hw, rfl⟩))) e) (fun o e => kO3 _ _ (.inr (.inl rfl)) e) kt3
      have hT3 : DTab C.U H3 wd tk1 reg1 := hT2.keep fun b o hb e => kO3 _ _ (.inr (.inr (.inl hb))) e
      have hu3 := kO3 _ _ (.inl rfl) hu2
      have hF3 : Fr (OwnU u r wd tk ws) H (OwnU u r wd tk1 ws1) H3 := ⟨fun b o n e => k3 _ _ (ne_of_none e haq) (hF2.1 b o n e), hF2.2⟩
      refine ⟨fun σ' H' => ∃ m', m' < m ∧ ∃ v4 v5, σ' = [some (V.ref u), some (V.ref la), some (V.ref r), some (V.ref aq), v4, v5] ∧ LivInv mg C H u r dx rd wd aq bd (OwnU u r wd tk ws) ws rm ahead m' H', fun _ _ h => h, .ref t, by simp, t, r, a, l, kv1, rm1 l.1, rfl, kt3 _ _ htl, hB3.rd, hva, kt3 _ _ ha, (hB2.gd _ hlo.1).1, (hB2.gd _ hlo.1).2, fun b H4 hb s4 => ⟨b, rfl, ?_⟩⟩
      cases b with
      | true =>
        rw [if_pos rfl]
        exact kF tk1 reg1 ws1 kv1 rm1 H4 (snd_dead hC.fo hS2 (l := l) (by simp) hlo.1 (hb.mp rfl)) (hB3.same s4) (hT3.keep fun b o _ e => s4 _ _ e) hR2 hmp (s4 _ _ hu3) (hF3.trans (Fr.same s4))
      | false =>
        rw [if_neg Bool.false_ne_true]
        have hnu : ¬ untL l rm1 := fun z => by have := hb.mpr z; cases this
        have hkn : (kv1.map (·.1)).Nodup := by rw [hB2.ks]; exact List.pairwise_map.mpr (hC.nd.imp fun h z => h (Sum.inr.inj z))
        have hkl : kv1.length ≤ 500 := by have := congrArg List.length hB2.ks; simp at this; have := hC.cn; omega
        have hsl := hB2.sl _ hlo.1
        have hrl := hC.rl _ hlo.1
        have hB4 := hB3.same s4
        refine ⟨t, r, l, kv1, rm1, rfl, s4 _ _ (kt3 _ _ htl), hB4.rd, hkn, by rw [hB2.ks]; exact List.mem_map.mpr ⟨_, hlo.1, rfl⟩, hkl, hB4.rk, Nat.le_trans hsl.length_le hrl, fun q us2 kv2 H5 hq hq5 hR5 hr5 hk5 hrk5 B5 => ⟨q, rfl, us2, hq5, ?_⟩⟩
        have hT4 : DTab C.U H4 wd tk1 reg1 := hT3.keep fun b o _ e => s4 _ _ e
        have hu4 := s4 _ _ hu3
        have h4a := s4 _ _ h3a
        have aqr : aq ≠ r := fun z => na2 (.inr (.inl z))
        have nr : ∀ b o, H4 b = some o → (∀ kv, o ≠ .dK kv) → b ≠ r := fun b o e h z => by rw [z, hB4.rd] at e; cases e; exact h _ rfl
        have kt5 : ∀ b vs, H4 b = some (.tup vs) → H5 b = some (.tup vs) := fun b vs e => B5 _ _ (nr _ _ e fun _ => by nofun) e
        have F5 : Fr (OwnU u r wd tk1 ws1) H4 (OwnU u r wd tk1 ws1) H5 := ⟨fun b o n e => B5 _ _ (fun z => n (.inr (.inl z))) e, fun b h => .inl h⟩
        have hB5 : UB mg C H5 r ws1 kv2 (makeT l rm1) := by
          refine ⟨fun w hw => (hB4.wa w hw).keep (fun o e => B5 _ _ (fun z => ?_) e) kt5, hB4.wp, hB4.wok, hB4.wl, hr5, by rw [hk5]; exact hB4.ks, hrk5, makeT_good hB4.gd hnu, fun c hc => ?_⟩
          · obtain ⟨dw, ct, uw, t1, t2, hw1, _⟩ := hB4.wa w hw
            rw [z, hB4.rd] at hw1; cases hw1
          · by_cases ec : c = l.1
            · subst ec; rw [makeT_at]; exact List.filter_sublist.trans hsl
            · rw [makeT_ne ec]; exact hB4.sl c hc
        have hT5 : DTab C.U H5 wd tk1 reg1 := hT4.keep fun b o hb e => B5 _ _ (fun z => by
          rcases hT4.own hb with ⟨kv, e2⟩ | ⟨vs, e2⟩
          · rw [z, hB4.rd] at e2; cases e2
          · rw [z, hB4.rd] at e2; cases e2) e
        have hu5 := B5 _ _ (nr _ _ hu4 fun _ => by nofun) hu4
        have h5a := B5 _ _ aqr h4a
        have nq4 := hB4.none hT4 hu4 hq
        have qa : q ≠ aq := (ne_of_none h4a hq).symm
        have hsz := newly_len (rm := rm1) hC.nd hlo.1 hB4.gd
        have hms : ∀ v ∈ makeT l rm1 l.1, v ∈ C.r0 l.1 := fun v hv => hsl.subset (makeT_sub (cs := C.cs) l rm1 _ hlo.1 v hv)
        refine for_g wlk_list (fun j σ H' => ∃ v5 tk2 reg2 ws2 ah2 us3, σ = [some (V.ref u), some (V.ref la), some (V.ref r), some (V.ref aq), some (V.ref t), v5] ∧ H' aq = some (.lst us3) ∧ Rows3 H' us3 ah2 ∧ (∀ l ∈ ah2, litOk C.cs l ∧ okL3 l) ∧ UB mg C H' r ws2 kv2 (makeT l rm1) ∧ DTab C.U H' wd tk2 reg2 ∧ RegOk ws2 reg2 ∧ PInv ws2 (makeT l rm1) ((newly l.1 (rm1 l.1) (makeT l rm1 l.1)).drop j) ah2 ∧ Snd C.cs C.F (makeT l rm1) ah2 ∧ (∀ x ∈ ahead, x ∈ ah2 ∨ truL x (makeT l rm1)) ∧ ws2.map (fun w => (w.p, w.ls)) = ws.map (fun w => (w.p, w.ls)) ∧ H' u = some (.ins (clsAt mg "Units") dx (fsU rd wd bd)) ∧ Fr (OwnU u r wd tk ws) H (OwnU u r wd tk2 ws2) H' ∧ ¬ OwnU u r wd tk2 ws2 aq ∧ ah2.length ≤ ls0.length + 1000 * j ∧ H' q = some (.lst us2) ∧ ¬ OwnU u r wd tk2 ws2 q ∧ (∀ a vs, H5 a = some (.tup vs) → H' a = some (.tup vs)))
          ⟨_, tk1, reg1, ws1, ls0, us0, rfl, h5a, (hR0'.keep kt3).keep (fun a vs e => kt5 _ _ (s4 _ _ e)), fun x hx => hho x (by simp [hx]), hB5, hT5, hR2, pinv_make hB4.gd (fun w hw => (hB4.wok w hw).1) hP2 hnu (fun x hx => ?_) (fun x hx => (hho x hx).1.1), snd_make hS2 (by simp) (fun x hx => by simp [hx]), fun x hx => ?_, hmp, hu5, hF3.trans ((Fr.same s4).trans F5), na2, by omega, hq5, nq4, fun _ _ e => e⟩ (fun j σ H' zq32 => by obtain ⟨_, _, _, _, _, _, _, _, _, _, _, _, _, _, _, _, _, _, _, _, _, h, _⟩ := zq32; exact (.of h)) ?_ ?_
        · rcases List.mem_append.mp hx with z | z
          · exact .inr z
          · exact .inl (List.mem_singleton.mp z)
        · rcases hA2 x hx with z | z
          · rcases List.mem_append.mp z with z | z
            · exact .inl z
            · rw [List.mem_singleton.mp z]; exact .inr (makeT_tru _ _)
          · by_cases hxc : x.1 ∈ C.cs
            · exact .inr (tru_mono (makeT_sub l rm1) hxc z)
            · exact absurd (hao x hx).1.1 hxc
        · rintro j e σ H6 hj hx ⟨v5', tk2, reg2, ws2, ah2, us3, rfl, h6a, hR6, ho6, hB6, hT6, hRg6, hP6, hS6, hA6, hmp6, hu6, hF6, na6, hl6, h6q, nq6, kt6⟩
          obtain ⟨tx, x, rfl, hxj, htx⟩ := hR5.get hx
          have hxm := List.mem_of_getElem? hxj
          obtain ⟨x1, x2, x3⟩ := newly_unt (rm := makeT l rm1) rfl hxm
          obtain ⟨x4, x5⟩ := newly_in hC hlo.1 (fun v hv => hsl.subset hv) hms hxm
          have edr : (newly l.1 (rm1 l.1) (makeT l rm1 l.1)).drop j = x :: (newly l.1 (rm1 l.1) (makeT l rm1 l.1)).drop (j + 1) := by
            rw [List.drop_eq_getElem_cons (List.getElem?_eq_some_iff.mp hxj).1, (List.getElem?_eq_some_iff.mp hxj).2]
          have hjl := (List.getElem?_eq_some_iff.mp hxj).1
          rw [edr] at hP6
          (try ctx_has vcx true_and hu6 fsU_last)
          refine ⟨⟨_, h6a⟩, C, u, tx, r, dx, rd, wd, bd, x, tk2, reg2, ws2, kv2, makeT l rm1, _, ah2, rfl, hC, hu6, kt6 _ _ htx, x5, x4, by rw [x2]; exact hlo.1, x1, hB6, hT6, hRg6, hP6, hS6, fun q2 us4 lasts tk' reg' ws' H7 hq2 h7q hR7 hll hlo7 hB7 hT7 hRg7 hP7 hS7 hu7 hmp7 F7 nq2 => ?_⟩
          have f1 := F7.stay na6 h6a
          have f2 := F7.stay nq6 h6q
          have q2a : q2 ≠ aq := (ne_of_none h6a hq2).symm
          have kt7 : ∀ a vs, H6 a = some (.tup vs) → H7 a = some (.tup vs) := fun a vs e => (F7.stay (hB6.notTup hT6 hu6 e) e).1
          have hul : us3.length = ah2.length := hR6.length
          have hul4 : us4.length = lasts.length := hR7.length
          have hm' := hm
          simp only [List.length_append, List.length_cons, List.length_nil] at hm'
          refine ⟨q2, rfl, us3, f1.1, us4, h7q, Nat.le_trans (show us3.length + us4.length ≤ 10000000 by omega) (by decide), ?_⟩
          have k8 : ∀ b o, b ≠ aq → H7 b = some o → upd H7 aq (.lst (us3 ++ us4)) b = some o := fun b o hb e => by rw [upd_ne hb]; exact e
          have kt8 : ∀ b vs, H7 b = some (.tup vs) → upd H7 aq (.lst (us3 ++ us4)) b = some (.tup vs) := fun b vs e => k8 _ _ (ne_of e f1.1 (by intro z; cases z)) e
          have kO8 : ∀ b o, OwnU u r wd tk' ws' b → H7 b = some o → upd H7 aq (.lst (us3 ++ us4)) b = some o := fun b o h e => k8 _ _ (fun z => f1.2 (z ▸ h)) e
          refine ⟨tk', reg', ws', ah2 ++ lasts, us3 ++ us4, upd_same, (rows_app (hR6.keep kt7) hR7).keep kt8, fun y hy => (List.mem_append.mp hy).elim (ho6 y) (hlo7 y), hB7.keep (fun w hw o e => kO8 _ _ (.inr (.inr (.inr ⟨w, hw, rfl⟩))) e) (fun o e => kO8 _ _ (.inr (.inl rfl)) e) kt8, hT7.keep (fun b o hb e => kO8 _ _ (.inr (.inr (.inl hb))) e), hRg7, hP7, hS7, fun y hy => (hA6 y hy).imp (fun z => List.mem_append_left _ z) id, hmp7.trans hmp6, kO8 _ _ (.inl rfl) hu7, ⟨fun b o n e => k8 _ _ (ne_of_none e haq) ((hF6.trans F7).1 b o n e), (hF6.trans F7).2⟩, f1.2, by rw [List.length_append]; omega, k8 _ _ qa f2.1, f2.2, fun a vs e => kt8 _ _ (kt7 _ _ (kt6 _ _ e))⟩
        · rintro σ H6 ⟨v5', tk2, reg2, ws2, ah2, us3, rfl, h6a, hR6, ho6, hB6, hT6, hRg6, hP6, hS6, hA6, hmp6, hu6, hF6, na6, hl6, h6q, nq6, kt6⟩
          rw [hR5.length] at hl6 hP6
          rw [List.drop_length] at hP6
          refine ⟨_, ?_, _, _, rfl, tk2, reg2, ws2, kv2, makeT l rm1, ah2, us3, h6a, hR6, ho6, hB6, hT6, hRg6, hP6, hS6, hA6, (makeT_sub l rm1).trans hsb, hmp6, hu6, hF6, na6, rfl, ?_⟩
          · simp only [List.length_append, List.length_cons, List.length_nil] at hm; omega
          · simp only [List.length_append, List.length_cons, List.length_nil] at hm; omega
    · rintro σ H2 ⟨v4, v5, rfl, m, hI, hz⟩
      obtain ⟨tk1, reg1, ws1, kv1, rm1, ah, us1, haq2, hRh, hho, hB2, hT2, hR2, hP2, hS2, hA2, hsb, hmp, hu2, hF2, na2, hm, hmb⟩ := hI
      rw [haq2] at hz
      cases hz
      have e0 : ah = [] := List.eq_nil_of_length_eq_zero (by rw [← hRh.length]; rfl)
      subst e0
      (try ctx_has vcx true_and)
      exact kT tk1 reg1 ws1 kv1 rm1 H2 (rest_of hP2) hS2 (fun l hl => (hA2 l hl).resolve_left (by simp)) hsb hB2 hT2 hR2 hmp hu2 hF2
noncomputable def openB (rm : Str → List Int) (l : L3) : Bool := (rm l.1).any fun v => holdsL l v
theorem open_iff {rm : Str → List Int} {l : L3} : openB rm l = true ↔ ¬ untL l rm := by
  unfold openB untL
  rw [List.any_eq_true]
  constructor
  · rintro ⟨v, hv, h⟩ z
    rw [z v hv] at h; cases h
  · intro h
    refine Classical.byContradiction fun z => h fun v hv => ?_
    cases e : holdsL l v with
    | false => rfl
    | true => exact absurd ⟨v, hv, e⟩ z
structure UnAt (mg : Str → Option Value) (C : UC) (H : Hp) (u dx rd wd : Addr) (bd : Bool) (tk : Tk) (reg : Reg) (ws : List WR) (kvs : List (Key × V)) (rm : Str → List Int) (done : List (List L3)) : Prop where
  hu : H u = some (.ins (clsAt mg "Units") dx (fsU rd wd bd))
  ub : UB mg C H rd ws kvs rm
  tb : DTab C.U H wd tk reg
  rg : RegOk ws reg
  wl : ws.length ≤ done.length
  dead : bd = true → ∀ r', ¬ C.F r'
  live : bd = false → RestW ws rm ∧ Snd C.cs C.F rm [] ∧ Gone ws rm C.cs done
noncomputable def spGo (mg : Str → Option Value) : Sp := fun vs H Q _ => ∃ (C : UC) (u ct dx rd wd : Addr) (bd : Bool) (tk : Tk) (reg : Reg) (ws : List WR) (kvs : List (Key × V)) (rm : Str → List Int) (us : List V) (ls : List L3) (done : List (List L3)), vs = [.ref u, .ref ct] ∧ UCOk C ∧ UnAt mg C H u dx rd wd bd tk reg ws kvs rm done ∧ H ct = some (.tup us) ∧ Rows3 H us ls ∧ ls ∈ C.cls ∧ done.length < 1000 ∧
  ∀ bd' tk' reg' ws' kvs' rm' H', UnAt mg C H' u dx rd wd bd' tk' reg' ws' kvs' rm' (done ++ [ls]) → Fr (OwnU u rd wd tk ws) H (OwnU u rd wd tk' ws') H' → Q .non H'
theorem UB.pu {mg : Str → Option Value} {C : UC} {H : Hp} {u r dx rd wd : Addr} {bd : Bool} {ws : List WR} {kvs : List (Key × V)} {rm : Str → List Int} (h : UB mg C H r ws kvs rm) (hu : H u = some (.ins (clsAt mg "Units") dx (fsU rd wd bd))) {w : WR} (hw : w ∈ ws) : w.p ≠ u := fun z => by
  obtain ⟨dz, cz, uz, tz1, tz2, hz, _⟩ := h.wa w hw
  rw [z, hu] at hz
  have := congrArg (fun o => match o with | some (HO.ins _ _ fs) => fs.lookup (Str.ofString "clause") | _ => Option.none) hz
  exact absurd this (by simp only []; rw [fsW_clause]; intro q; cases q)
theorem UnAt.setDead {mg : Str → Option Value} {C : UC} {H : Hp} {u dx rd wd : Addr} {bd b' : Bool} {tk : Tk} {reg : Reg} {ws : List WR} {kvs : List (Key × V)} {rm : Str → List Int} {done : List (List L3)} (hu : H u = some (.ins (clsAt mg "Units") dx (fsU rd wd bd))) (ub : UB mg C H rd ws kvs rm) (tb : DTab C.U H wd tk reg) (rg : RegOk ws reg) (wl : ws.length ≤ done.length)
    (dead : b' = true → ∀ r', ¬ C.F r') (live : b' = false → RestW ws rm ∧ Snd C.cs C.F rm [] ∧ Gone ws rm C.cs done) : UnAt mg C (upd H u (.ins (clsAt mg "Units") dx (fsU rd wd b'))) u dx rd wd b' tk reg ws kvs rm done := by
  have kt : ∀ a vs, H a = some (.tup vs) → upd H u (.ins (clsAt mg "Units") dx (fsU rd wd b')) a = some (.tup vs) := fun a vs e => by rw [upd_ne (ne_of e hu (by intro z; cases z))]; exact e
  refine ⟨upd_same, ub.keep (fun w hw o e => by rw [upd_ne (ub.pu hu hw)]; exact e) (fun o e => by rw [upd_ne (ne_of ub.rd hu (by intro z; cases z))]; exact e) kt, tb.keep fun b o hb e => ?_, rg, wl, dead, live⟩
  rw [upd_ne]
  · exact e
  · rintro rfl
    exact tb.notT hu (fun _ => by nofun) (fun _ => by nofun) hb
theorem reg_new {ws : List WR} {reg reg' : Reg} {w : WR} (ok : RegOk ws reg) (hp : ∀ v ∈ ws, v.p ≠ w.p) (hne : w.one ≠ w.other) (e1 : reg' w.one = reg w.one ++ [w.p]) (e2 : reg' w.other = reg w.other ++ [w.p]) (e3 : ∀ l, l ≠ w.one → l ≠ w.other → reg' l = reg l) : RegOk (ws ++ [w]) reg' := by
  have hno : ∀ l, w.p ∉ reg l := fun l h => by
    obtain ⟨v, hv, e, _⟩ := ok.so l _ h
    exact hp v hv e
  have key : ∀ l, reg' l = reg l ∨ (reg' l = reg l ++ [w.p] ∧ (w.one = l ∨ w.other = l)) := fun l => by
    by_cases h1 : l = w.one
    · subst h1; exact .inr ⟨e1, .inl rfl⟩
    · by_cases h2 : l = w.other
      · subst h2; exact .inr ⟨e2, .inr rfl⟩
      · exact .inl (e3 l h1 h2)
  refine ⟨fun l => ?_, fun l p h => ?_, fun v hv => ?_⟩
  · rcases key l with e | ⟨e, _⟩
    · rw [e]; exact ok.nd l
    · rw [e, List.nodup_append]
      exact ⟨ok.nd l, by simp, fun a ha b hb z => by simp at hb; subst hb z; exact hno l ha⟩
  · rcases key l with e | ⟨e, hl⟩
    · rw [e] at h
      obtain ⟨v, hv, q⟩ := ok.so l p h
      exact ⟨v, List.mem_append_left _ hv, q⟩
    · rw [e] at h
      rcases List.mem_append.mp h with q | q
      · obtain ⟨v, hv, q⟩ := ok.so l p q
        exact ⟨v, List.mem_append_left _ hv, q⟩
      · exact ⟨w, by simp, (List.mem_singleton.mp q).symm, hl⟩
  · have up : ∀ l p, p ∈ reg l → p ∈ reg' l := fun l p h => by
      rcases key l with e | ⟨e, _⟩
      · rw [e]; exact h
      · rw [e]; exact List.mem_append_left _ h
    rcases List.mem_append.mp hv with q | q
    · exact ⟨up _ _ (ok.co v q).1, up _ _ (ok.co v q).2⟩
    · rw [List.mem_singleton.mp q]; exact ⟨by rw [e1]; simp, by rw [e2]; simp⟩
theorem gone_map {ws ws' : List WR} {rm rm' : Str → List Int} {cs : List Str} {done : List (List L3)} (h : Gone ws rm cs done) (hm : ws'.map (fun w => (w.p, w.ls)) = ws.map (fun w => (w.p, w.ls))) (s : subR cs rm' rm) : Gone ws' rm' cs done := fun c hc => by
  rcases h c hc with ⟨w, hw, e⟩ | ⟨l, hl, h1, h2⟩
  · have : (w.p, w.ls) ∈ ws'.map (fun w => (w.p, w.ls)) := by rw [hm]; exact List.mem_map.mpr ⟨w, hw, rfl⟩
    obtain ⟨v, hv, ev⟩ := List.mem_map.mp this
    exact .inl ⟨v, hv, by rw [← e]; exact congrArg Prod.snd ev⟩
  · exact .inr ⟨l, hl, h1, tru_mono s h1 h2⟩
theorem ok_Units_go_by {P : Program} {w : World} {K : PySem.W.Frag} {mg : Str → Option Value} {base : Heap} (T : Txt K mg) (L : MtdL K (Meth K (clsAt mg "Units") "go_by") "go_by" "Units.go_by" s_Units_go_by ["self", "clause"]) (Fis_untrue : Fn P w K mg base "is_untrue" 1 ["literal", "rooms"] (spUnt)) (FWatch___init__ : FnR P w K mg base (Mk K (clsAt mg "Watch")) 1 ["self", "clause", "one", "other"] (spWNew mg)) (FUnits_set_watch : FnR P w K mg base (Meth K (clsAt mg "Units") "set_watch") 1 ["self", "literal", "watch"] (spSetW mg)) (FUnits_lives_with : FnR P w K mg base (Meth K (clsAt mg "Units") "lives_with") 4 ["self", "literals", "rooms"] (spLives mg)) : FnR P w K mg base (Meth K (clsAt mg "Units") "go_by") 5 ["self", "clause"] (spGo mg) := by
  have nd := sc_Units_go_by.nd
  refine L.ok sc_Units_go_by (fun vs H Q E h => ?_) (fun f cdv A outer s H vs Q E hr h => ?_)
  · obtain ⟨C, u, ct, dx, rd, wd, bd, tk, reg, ws, kvs, rm, us, ls, done, rfl, hC, hU, hct, hRw, hlc, hdl, k⟩ := h
    rfl
  · obtain ⟨C, u, ct, dx, rd, wd, bd, tk, reg, ws, kvs, rm, us, ls, done, rfl, hC, hU, hct, hRw, hlc, hdl, k⟩ := h
    have hu := hu_of hr
    refine ⟨_, (pss_cons (ps_if (pt_val (pe_fldC T.cl_Units T.no_Units_dead (pvM 0))) (pss_one ps_retN) pss_nil)
      (pss_cons (ps_setC (i := 2) (N := ["literal", "self"]) (nt := 1) (js := [0]) nd rfl (by first | exact Or.inl rfl | exact Or.inr rfl) rfl (compOk_of ["self", "clause", "left", "watch"] (defScope s_Units_go_by).names rfl rfl rfl (by decide +kernel)) (pi_TK (K := K) rfl (pvM 1)) (fun _ _ _ _ _ _ => (pg_name (i := 0) (show List.Nodup [("literal" : Str), ("self" : Str)] by decide +kernel) rfl (Or.inl rfl))) (tgOk_name (by decide)) (fun _ _ _ _ _ _ => pts_one (pt_not (pt_val (pe_callF Fis_untrue (hr.mono (by first | decide | omega)) rfl (pa_cons (pvM 0) (pa_cons (pe_fldC T.cl_Units T.no_Units_rooms (pvM 1)) pa_nil)))))) (fun _ _ _ _ _ _ => (pvM 0)))
      (pss_one (ps_if (pt_cmpR op_gt (pe_callB call_lenL rfl T.b_len PySem.boot_len (pa_cons (pvM 2) pa_nil)) pe_int (nomark _)) (pss_cons (ps_set (i := 3) nd rfl (by first | exact Or.inl rfl | exact Or.inr rfl) (pe_makeF FWatch___init__ (hr.mono (by first | decide | omega)) rfl T.at_Watch (pa_cons (pvM 1) (pa_cons (pe_ix ix_L (pvM 2) pe_int (fun _ _ => rfl)) (pa_cons (pe_ix ix_L (pvM 2) pe_int (fun _ _ => rfl)) pa_nil)))))
      (pss_cons (ps_expr (pe_methF T.cl_Units FUnits_set_watch (hr.mono (by first | decide | omega)) (pvM 0) (pa_cons (pe_ix ix_L (pvM 2) pe_int (fun _ _ => rfl)) (pa_cons (pvM 3) pa_nil))))
      (pss_one (ps_expr (pe_methF T.cl_Units FUnits_set_watch (hr.mono (by first | decide | omega)) (pvM 0) (pa_cons (pe_ix ix_L (pvM 2) pe_int (fun _ _ => rfl)) (pa_cons (pvM 3) pa_nil))))))) (pss_one (ps_fldC T.cl_Units T.no_Units_dead (pvM 0) (pe_or (pe_cmpR op_eq (pe_callB call_lenL rfl T.b_len PySem.boot_len (pa_cons (pvM 2) pa_nil)) pe_int (nomark _)) (pe_one (pe_not (pe_methF T.cl_Units FUnits_lives_with (hr.mono (by first | decide | omega)) (pvM 0) (pa_cons (pvM 2) (pa_cons (pe_fldC T.cl_Units T.no_Units_rooms (pvM 0)) pa_nil)))))) rfl)))))), ?_⟩
    have hu0 := hU.hu
    (try ctx_has vcx true_and hu0 fsU_dead)
    cases bd with
    | true =>
      rw [if_pos rfl]
      refine k true tk reg ws kvs rm H ⟨hu0, hU.ub, hU.tb, hU.rg, by rw [List.length_append]; have := hU.wl; omega, hU.dead, fun z => by cases z⟩ Fr.refl
    | false =>
      rw [if_neg Bool.false_ne_true]
      obtain ⟨hRest, hSnd, hGone⟩ := hU.live rfl
      refine ⟨_, hct, fun D hD => ?_⟩
      have hB := hU.ub
      have hT := hU.tb
      have hcl := hC.cl ls hlc
      refine comp_g wlk_tup (fun j ys H' => Rows3 H' ys ((ls.take j).filter fun l => openB rm l) ∧ Same H H' ∧ H' D = some (.lst ys)) ⟨Rows3.nil, Same.upd0 hD, upd_same⟩ (fun i ys H1 h => .of (h.2.1 _ _ hct)) ?_ ?_
      · rintro j x ys H1 hj hx ⟨hR1, s1, h1D⟩
        obtain ⟨t, l, rfl, hlj, ht⟩ := hRw.get hx
        have hlm := List.mem_of_getElem? hlj
        have hu1 := s1 _ _ hu0
        (try ctx_has vcx true_and hu1 fsU_rooms)
        obtain ⟨a, hva, ha⟩ := room_at hB.ks hC.nd hB.rk (hcl.2.2 l hlm).1.1
        have etk : ls.take (j + 1) = ls.take j ++ [l] := by rw [List.take_add_one, hlj]; rfl
        have hyl : ys.length ≤ 1000 := by rw [hR1.length]; exact Nat.le_trans (List.length_filter_le _ _) (Nat.le_trans (List.length_take_le' _ _) hcl.2.1)
        have hg := hB.gd _ (hcl.2.2 l hlm).1.1
        refine ⟨t, rd, a, l, kvs, rm l.1, rfl, s1 _ _ ht, s1 _ _ hB.rd, hva, s1 _ _ ha, hg.1, hg.2, fun b H2 hb s2 => ⟨b, rfl, ?_⟩⟩
        rw [etk, List.filter_append]
        cases b with
        | true =>
          rw [if_neg (by simp)]
          have ho : openB rm l = false := by
            cases e : openB rm l with
            | false => rfl
            | true => exact absurd (hb.mp rfl) (open_iff.mp e)
          exact ⟨by simpa [ho] using hR1.keep (fun _ _ e => s2 _ _ e), s1.trans s2, s2 _ _ h1D⟩
        | false =>
          rw [if_pos rfl]
          have ho : openB rm l = true := open_iff.mpr fun z => by have := hb.mpr z; cases this
          have h2D := s2 _ _ h1D
          have kt : ∀ a vs, H1 a = some (.tup vs) → upd H2 D (.lst (ys ++ [V.ref t])) a = some (.tup vs) := fun a vs e => by rw [upd_ne (ne_of (s2 _ _ e) h2D (by intro z; cases z))]; exact s2 _ _ e
          refine ⟨h2D, Nat.lt_of_le_of_lt hyl (by decide), ?_, fun b o e => by rw [upd_ne (ne_of_none e hD)]; exact s2 _ _ (s1 _ _ e), upd_same⟩
          have := (hR1.keep kt).snoc (kt _ _ (s1 _ _ ht))
          simpa [ho] using this
      · rintro ys H1 ⟨hR1, s1, h1D⟩
        rw [hRw.length, List.take_length] at hR1
        (try ctx_has vcx true_and h1D)
        have hu1 := s1 _ _ hu0
        have hB1 := hB.same s1
        have hT1 : DTab C.U H1 wd tk reg := hT.keep fun b o _ e => s1 _ _ e
        have hFn : (ls.filter fun l => openB rm l).Nodup := hcl.1.sublist List.filter_sublist
        have hFm : ∀ l ∈ ls.filter fun l => openB rm l, l ∈ ls ∧ ¬ untL l rm := fun l hl => ⟨(List.mem_filter.mp hl).1, open_iff.mp (List.mem_filter.mp hl).2⟩
        have nDU := hB.none hT hu0 hD
        by_cases h2 : 1 < ys.length
        · rw [if_pos (by omega)]
          obtain ⟨as, rfl, hfl, h3⟩ := id hR1
          match as, h2, hfl, h3, hR1, h1D with
          | [], h2, _, _, _, _ => simp at h2
          | [x], h2, _, _, _, _ => simp at h2
          | x0 :: x1 :: ar, h2, hfl, h3, hR1, h1D =>
          rw [hfl] at hFn hFm
          have m0 := hFm x0.2 (by simp)
          have m1 := hFm x1.2 (by simp)
          have hne01 : x0.2 ≠ x1.2 := by
            simp only [List.map_cons, List.nodup_cons, List.mem_cons, not_or] at hFn
            exact hFn.1.1
          refine ⟨.ref x0.1, atI_nat (j := 0) rfl, .ref x1.1, atI_nat (j := 1) rfl, fun p dw hp hdw hpd => ?_⟩
          refine ⟨p, dw, ct, x0.1, x1.1, rfl, upd_same, rfl, ?_⟩
          have s13 : Same H1 (upd (upd (upd H1 dw (.own p)) p (.ins (clsAt mg (Str.ofString "Watch")) dw [])) p (.ins (clsAt mg "Watch") dw (fsW ct x0.1 x1.1))) := fun b o e => by rw [upd_ne (ne_of_none e hp), upd_ne (ne_of_none e hp), upd_ne (ne_of_none e hdw)]; exact e
          have h3p : upd (upd (upd H1 dw (.own p)) p (.ins (clsAt mg (Str.ofString "Watch")) dw [])) p (.ins (clsAt mg "Watch") dw (fsW ct x0.1 x1.1)) p = some (.ins (clsAt mg "Watch") dw (fsW ct x0.1 x1.1)) := upd_same
          generalize upd (upd (upd H1 dw (.own p)) p (.ins (clsAt mg (Str.ofString "Watch")) dw [])) p (.ins (clsAt mg "Watch") dw (fsW ct x0.1 x1.1)) = H3 at s13 h3p ⊢
          have s03 := s1.trans s13
          have hu3 := s03 _ _ hu0
          have hB3 := hB.same s03
          have hT3 : DTab C.U H3 wd tk reg := hT.keep fun b o _ e => s03 _ _ e
          have W3 : WatchAt mg H3 ⟨p, ls, x0.2, x1.2⟩ := ⟨dw, ct, us, x0.1, x1.1, h3p, s03 _ _ hct, hRw.keep (fun _ _ e => s03 _ _ e), s13 _ _ (h3 x0 (by simp)), s13 _ _ (h3 x1 (by simp))⟩
          have hp0 : H p = none := s1.free hp
          have hpw : ∀ v ∈ ws, v.p ≠ p := fun v hv z => by
            obtain ⟨dz, cz, uz, tz1, tz2, hz, _⟩ := hB1.wa v hv
            rw [z, hp] at hz; cases hz
          have hrl : ∀ l, (reg l).length ≤ 1000 := fun l => by
            have := nodup_len (ys := ws.map (·.p)) (hU.rg.nd l) fun p hp => by
              obtain ⟨v, hv, e, _⟩ := hU.rg.so _ _ hp
              exact List.mem_map.mpr ⟨v, hv, e⟩
            rw [List.length_map] at this
            exact Nat.le_trans this hB.wl
          have nD3 : ¬ OwnT wd tk D := fun h => nDU (.inr (.inr (.inl h)))
          have h3D := s13 _ _ h1D
          refine ⟨dx, _, hu3, fsU_set, _, h3D, .ref x0.1, atI_nat (j := 0) rfl, u, x0.1, p, dx, rd, wd, false, x0.2, C.U, tk, reg, rfl, hu3, s13 _ _ (h3 x0 (by simp)), (hcl.2.2 _ m0.1).2.2, hC.ul, hT3, by have := hrl x0.2; omega, fun tk1 H4 hT4 hv4 F4 => ?_⟩
          have k4 : ∀ {b o}, (∀ kv, o ≠ .dT kv) → (∀ vs, o ≠ .lst vs) → H3 b = some o → H4 b = some o := fun {b o} o1 o2 e => F4.1 _ _ (hT3.notT e o1 o2) e
          have hu4 := k4 (fun _ => by nofun) (fun _ => by nofun) hu3
          have f4 := F4.stay nD3 h3D
          refine ⟨dx, _, hu4, fsU_set, _, f4.1, .ref x1.1, atI_nat (j := 1) rfl, u, x1.1, p, dx, rd, wd, false, x1.2, C.U, tk1, setR reg x0.2 (reg x0.2 ++ [p]), rfl, hu4, k4 (fun _ => by nofun) (fun _ => by nofun) (s13 _ _ (h3 x1 (by simp))), (hcl.2.2 _ m1.1).2.2, hC.ul, hT4, by rw [setR_ne hne01.symm]; have := hrl x1.2; omega, fun tk2 H5 hT5 hv5 F5 => ?_⟩
          have k5 : ∀ {b o}, (∀ kv, o ≠ .dT kv) → (∀ vs, o ≠ .lst vs) → H4 b = some o → H5 b = some o := fun {b o} o1 o2 e => F5.1 _ _ (hT4.notT e o1 o2) e
          have hB5 := (hB3.ofT hT3 F4).ofT hT4 F5
          have W5 : WatchAt mg H5 ⟨p, ls, x0.2, x1.2⟩ := W3.keep (fun o e => by
            have : o = .ins (clsAt mg "Watch") dw (fsW ct x0.1 x1.1) := by rw [h3p] at e; exact (Option.some.inj e).symm
            subst this
            exact k5 (fun _ => by nofun) (fun _ => by nofun) (k4 (fun _ => by nofun) (fun _ => by nofun) h3p)) fun a vs e => k5 (fun _ => by nofun) (fun _ => by nofun) (k4 (fun _ => by nofun) (fun _ => by nofun) e)
          have hF : Fr (OwnU u rd wd tk ws) H (OwnU u rd wd tk2 ws) H5 := (Fr.same s03).trans (F4.ofT.trans F5.ofT)
          have hwl := hU.wl
          refine k false tk2 _ (ws ++ [⟨p, ls, x0.2, x1.2⟩]) kvs rm H5 ⟨k5 (fun _ => by nofun) (fun _ => by nofun) hu4, ⟨fun w hw => ?_, ?_, fun w hw => ?_, by rw [List.length_append, List.length_singleton]; omega, hB5.rd, hB5.ks, hB5.rk, hB5.gd, hB5.sl⟩, hT5, reg_new hU.rg hpw hne01 ?_ ?_ ?_, by rw [List.length_append, List.length_append]; simp only [List.length_singleton]; omega, (fun z => by cases z), fun _ => ⟨fun w hw => ?_, hSnd, fun c hc => ?_⟩⟩ ⟨hF.1, fun b h => ?_⟩
          · rcases List.mem_append.mp hw with q | q
            · exact hB5.wa w q
            · rw [List.mem_singleton.mp q]; exact W5
          · rw [List.map_append, List.nodup_append]
            refine ⟨hB.wp, by simp, fun a ha b hb z => ?_⟩
            simp at hb
            subst hb z
            obtain ⟨v, hv, e⟩ := List.mem_map.mp ha
            exact hpw v hv e
          · rcases List.mem_append.mp hw with q | q
            · exact hB.wok w q
            · rw [List.mem_singleton.mp q]
              exact ⟨⟨m0.1, m1.1, hne01, fun l hl => ⟨(hcl.2.2 l hl).1, (hcl.2.2 l hl).2.1⟩⟩, hlc⟩
          · show setR _ x1.2 _ x0.2 = _
            rw [setR_ne hne01, setR_same]
          · show setR _ x1.2 _ x1.2 = _
            rw [setR_same, setR_ne hne01.symm]
          · intro l h1 h2
            rw [setR_ne h2, setR_ne h1]
          · rcases List.mem_append.mp hw with q | q
            · exact hRest w q
            · rw [List.mem_singleton.mp q]
              exact ⟨fun z => absurd z m0.2, fun z => absurd z m1.2⟩
          · rcases List.mem_append.mp hc with q | q
            · rcases hGone c q with ⟨w, hw, e⟩ | h
              · exact .inl ⟨w, List.mem_append_left _ hw, e⟩
              · exact .inr h
            · rw [List.mem_singleton.mp q]; exact .inl ⟨_, List.mem_append_right _ (List.mem_singleton.mpr rfl), rfl⟩
          · rcases h with h | h | h | ⟨w, hw, h⟩
            · exact hF.2 b (.inl h)
            · exact hF.2 b (.inr (.inl h))
            · exact hF.2 b (.inr (.inr (.inl h)))
            · rcases List.mem_append.mp hw with q | q
              · exact hF.2 b (.inr (.inr (.inr ⟨w, q, h⟩)))
              · rw [List.mem_singleton.mp q] at h
                exact .inr (by rw [← h]; exact hp0)
        · rw [if_neg (by omega)]
          have hwl := hU.wl
          by_cases h0 : ys.length = 0
          · rw [if_pos (by omega)]
            refine ⟨dx, _, hu1, fsU_len, ?_⟩
            rw [putU_dead]
            have hnil : (ls.filter fun l => openB rm l) = [] := List.eq_nil_of_length_eq_zero (by rw [← hR1.length]; exact h0)
            have hall : ∀ l ∈ ls, untL l rm := fun l hl => Classical.byContradiction fun z => by
              have : l ∈ ls.filter fun l => openB rm l := List.mem_filter.mpr ⟨hl, open_iff.mpr z⟩
              rw [hnil] at this; simp at this
            refine k true tk reg ws kvs rm _ (UnAt.setDead hu1 hB1 hT1 hU.rg (by rw [List.length_append]; omega) (fun _ r' hr' => ?_) fun z => by cases z) ⟨fun b o n e => by rw [upd_ne (fun z => n (.inl z))]; exact s1 _ _ e, fun b h => .inl h⟩
            obtain ⟨l, hl, hn⟩ := ((hC.fo r' hr').2 ls hlc).1
            exact hn (unt_mono (hSnd r' hr').1 (hcl.2.2 l hl).1.1 (hall l hl))
          · rw [if_neg (by omega)]
            obtain ⟨l, hl1⟩ : ∃ l, (ls.filter fun l => openB rm l) = [l] := by
              have e := hR1.length
              match h : (ls.filter fun l => openB rm l), (show (ls.filter fun l => openB rm l).length = 1 by omega) with
              | [l], _ => exact ⟨l, rfl⟩
            rw [hl1] at hR1 hFm
            have ml := hFm l (by simp)
            have hun : ∀ m ∈ ls, m ≠ l → untL m rm := fun m hm hne => Classical.byContradiction fun z => by
              have : m ∈ ls.filter fun l => openB rm l := List.mem_filter.mpr ⟨hm, open_iff.mpr z⟩
              rw [hl1] at this
              exact hne (List.mem_singleton.mp this)
            refine ⟨dx, _, hu1, fsU_lives, dx, _, hu1, _, fsU_rooms, C, u, D, rd, dx, rd, wd, false, tk, reg, ws, kvs, rm, [l], ys, rfl, hC, hu1, h1D, hR1, by simp, fun m hm => ?_, hB1, hT1, hU.rg, pinv_of hRest _, ?_, fun tk' reg' ws' kv' rm' H2 hno hB2 hT2 hRg2 hmp2 hu2 F2 => ⟨_, rfl, dx, _, hu2, fsU_len, ?_⟩, fun tk' reg' ws' kv' rm' H2 hRs2 hS2 htr hsb hB2 hT2 hRg2 hmp2 hu2 F2 => ⟨_, rfl, dx, _, hu2, fsU_len, ?_⟩⟩
            · rw [List.mem_singleton.mp hm]; exact ⟨(hcl.2.2 l ml.1).1, (hcl.2.2 l ml.1).2.1⟩
            · have := snd_last hC.fo hSnd hlc (fun l hl => (hcl.2.2 l hl).1.1) ml.1 hun
              simpa using this
            · rw [putU_dead]
              have hlw : ws'.length = ws.length := by have := congrArg List.length hmp2; simpa using this
              have F := (Fr.same s1).trans F2
              exact k true tk' reg' ws' kv' rm' _ (UnAt.setDead hu2 hB2 hT2 hRg2 (by rw [List.length_append]; omega) (fun _ => hno) fun z => by cases z) ⟨fun b o n e => by rw [upd_ne (fun z => n (.inl z))]; exact F.1 _ _ n e, F.2⟩
            · rw [putU_dead]
              have hlw : ws'.length = ws.length := by have := congrArg List.length hmp2; simpa using this
              have F := (Fr.same s1).trans F2
              refine k false tk' reg' ws' kv' rm' _ (UnAt.setDead hu2 hB2 hT2 hRg2 (by rw [List.length_append]; omega) (fun z => by cases z) fun _ => ⟨hRs2, hS2, fun c hc => ?_⟩) ⟨fun b o n e => by rw [upd_ne (fun z => n (.inl z))]; exact F.1 _ _ n e, F.2⟩
              rcases List.mem_append.mp hc with q | q
              · exact gone_map hGone hmp2 hsb c q
              · rw [List.mem_singleton.mp q]; exact .inr ⟨l, ml.1, (hcl.2.2 l ml.1).1.1, htr l (by simp)⟩
noncomputable def ClsAt (H : Hp) (vs : List V) (cls : List (List L3)) : Prop := ∃ as : List (Addr × List L3), vs = as.map (fun x => V.ref x.1) ∧ cls = as.map (·.2) ∧ ∀ x ∈ as, ∃ us, H x.1 = some (.tup us) ∧ Rows3 H us x.2
theorem ClsAt.keep {H H' : Hp} {vs : List V} {cls : List (List L3)} (h : ClsAt H vs cls) (kt : ∀ a vs, H a = some (.tup vs) → H' a = some (.tup vs)) : ClsAt H' vs cls := by
  obtain ⟨as, h1, h2, h3⟩ := h
  refine ⟨as, h1, h2, fun x hx => ?_⟩
  obtain ⟨us, e1, e2⟩ := h3 x hx
  exact ⟨us, kt _ _ e1, e2.keep kt⟩
theorem ClsAt.length {H : Hp} {vs : List V} {cls : List (List L3)} (h : ClsAt H vs cls) : vs.length = cls.length := by
  obtain ⟨as, rfl, rfl, _⟩ := h
  simp
theorem ClsAt.get {H : Hp} {vs : List V} {cls : List (List L3)} (h : ClsAt H vs cls) {i : Nat} {v : V} (hv : vs[i]? = some v) : ∃ ct us ls, v = .ref ct ∧ cls[i]? = some ls ∧ H ct = some (.tup us) ∧ Rows3 H us ls := by
  obtain ⟨as, rfl, rfl, h3⟩ := h
  rw [List.getElem?_map] at hv
  cases e : as[i]? with
  | none => rw [e] at hv; cases hv
  | some x =>
    rw [e] at hv
    cases hv
    obtain ⟨us, e1, e2⟩ := h3 x (List.mem_of_getElem? e)
    exact ⟨x.1, us, x.2, rfl, by rw [List.getElem?_map, e]; rfl, e1, e2⟩
theorem ClsAt.nil {H : Hp} : ClsAt H [] [] := ⟨[], rfl, rfl, fun x hx => by simp at hx⟩
theorem ClsAt.snoc {H : Hp} {vs : List V} {cls : List (List L3)} {ct : Addr} {us : List V} {ls : List L3} (h : ClsAt H vs cls) (h1 : H ct = some (.tup us)) (h2 : Rows3 H us ls) : ClsAt H (vs ++ [.ref ct]) (cls ++ [ls]) := by
  obtain ⟨as, rfl, rfl, h3⟩ := h
  refine ⟨as ++ [(ct, ls)], by simp, by simp, fun x hx => ?_⟩
  rcases List.mem_append.mp hx with q | q
  · exact h3 x q
  · rw [List.mem_singleton.mp q]; exact ⟨us, h1, h2⟩
noncomputable def keepsR (cs : List Str) (cls : List (List L3)) (rm r' : Str → List Int) : Prop := goodR cs r' ∧ subR cs r' rm ∧ ∀ c ∈ cls, closedC r' c
structure LeftBy (cs : List Str) (cls : List (List L3)) (rm rm' : Str → List Int) : Prop where
  gd : goodR cs rm'
  sl : ∀ c ∈ cs, (rm' c).Sublist (rm c)
  cl : ∀ c ∈ cls, closedC rm' c
  top : ∀ r', keepsR cs cls rm r' → subR cs r' rm'
noncomputable def unitU (cs : List Str) (cls : List (List L3)) (rm : Str → List Int) : List L3 := cls.flatMap id ++ cs.flatMap (fun c => (rm c).flatMap fun v => [(c, Str.ofString "is", v), (c, Str.ofString "not", v)])
noncomputable def spBy (mg : Str → Option Value) : Sp := fun vs H Q _ => ∃ (r c : Addr) (cs : List Str) (kvs : List (Key × V)) (rm : Str → List Int) (us : List V) (cls : List (List L3)), vs = [.ref r, .ref c] ∧ H r = some (.dK kvs) ∧ kvs.map (·.1) = cs.map Sum.inr ∧ RoomsK H kvs rm ∧ goodR cs rm ∧ cs.Nodup ∧ cs.length ≤ 500 ∧ sizeR cs rm ≤ 1000 ∧ (∀ c ∈ cs, PyData.strOk c = true) ∧
  H c = some (.lst us) ∧ ClsAt H us cls ∧ cls.length ≤ 1000 ∧ (∀ c ∈ cls, c.Nodup ∧ c.length ≤ 1000 ∧ ∀ l ∈ c, litOk cs l ∧ okL3 l) ∧ (unitU cs cls rm).length ≤ 100000 ∧
  ((∀ r', ¬ keepsR cs cls rm r') → ∀ H', Same H H' → Q .non H') ∧ ∀ q kv' rm' H', H q = none → H' q = some (.dK kv') → kv'.map (·.1) = kvs.map (·.1) → RoomsK H' kv' rm' → LeftBy cs cls rm rm' → Same H H' → Q (.ref q) H'
theorem size_le {cs : List Str} {rm : Str → List Int} {c : Str} (h : c ∈ cs) : (rm c).length ≤ sizeR cs rm := by
  induction cs with
  | nil => simp at h
  | cons x xs ih =>
    unfold sizeR at ih ⊢
    simp only [List.map_cons, List.sum_cons]
    rcases List.mem_cons.mp h with rfl | h
    · omega
    · have := ih h; omega
theorem ok_by_units {P : Program} {w : World} {K : PySem.W.Frag} {mg : Str → Option Value} {base : Heap}  (T : Txt K mg) (L : FnL K mg "by_units" s_by_units ["rooms", "clauses"]) (FUnits___init__ : FnR P w K mg base (Mk K (clsAt mg "Units")) 1 ["self", "rooms"] (spUNew mg)) (FUnits_go_by : FnR P w K mg base (Meth K (clsAt mg "Units") "go_by") 5 ["self", "clause"] (spGo mg)) : Fn P w K mg base "by_units" 6 ["rooms", "clauses"] (spBy mg) := by
  have nd := sc_by_units.nd
  refine L.ok sc_by_units (fun vs H Q E h => ?_) (fun f cdv A outer s H vs Q E hr h => ?_)
  · obtain ⟨r, c, cs, kvs, rm, us, cls, rfl, hrd, hks, hrk, hgd, hcn, hcl, hsz, hso, hc, hCl, hll, hco, hUl, k0, k1⟩ := h
    rfl
  · obtain ⟨r, c, cs, kvs, rm, us, cls, rfl, hrd, hks, hrk, hgd, hcn, hcl, hsz, hso, hc, hCl, hll, hco, hUl, k0, k1⟩ := h
    have hu := hu_of hr
    refine ⟨_, (pss_cons (ps_set (i := 2) nd rfl (by first | exact Or.inl rfl | exact Or.inr rfl) (pe_makeF FUnits___init__ (hr.mono (by first | decide | omega)) rfl T.at_Units (pa_cons (pvM 0) pa_nil)))
      (pss_cons (ps_for PassesOwn.never rfl (pi_LK (K := K) rfl (pvM 1)) (pg_name (i := 3) nd rfl (by first | exact Or.inl rfl | exact Or.inr rfl)) (pss_one (ps_expr (pe_methF T.cl_Units FUnits_go_by (hr.mono (by first | decide | omega)) (pvM 2) (pa_cons (pvM 3) pa_nil)))))
      (pss_one (ps_ret (pe_ifExp (pt_val (pe_fldC T.cl_Units T.no_Units_dead (pvM 2))) pe_non (pe_fldC T.cl_Units T.no_Units_rooms (pvM 2))))))), ?_⟩
    let C : UC := ⟨cs, cls, unitU cs cls rm, keepsR cs cls rm, rm⟩
    have hC : UCOk C := ⟨hcn, fun r' h => ⟨h.1, h.2.2⟩, fun x hx => ⟨(hco x hx).1, (hco x hx).2.1, fun l hl => ⟨((hco x hx).2.2 l hl).1, ((hco x hx).2.2 l hl).2, List.mem_append_left _ (List.mem_flatMap.mpr ⟨x, hx, hl⟩)⟩⟩, hUl, fun x hx v hv => ⟨List.mem_append_right _ (List.mem_flatMap.mpr ⟨x, hx, List.mem_flatMap.mpr ⟨v, hv, by simp⟩⟩), List.mem_append_right _ (List.mem_flatMap.mpr ⟨x, hx, List.mem_flatMap.mpr ⟨v, hv, by simp⟩⟩)⟩, hso, hcl, hsz, fun x hx => Nat.le_trans (size_le hx) hsz⟩
    (try ctx_has vcx true_and)
    intro u dx hu hdx hne
    have s1 : Same H (upd (upd H dx (.own u)) u (.ins (clsAt mg (Str.ofString "Units")) dx [])) := (Same.upd0 hdx).upd_new (by rw [upd_ne hne.symm]; exact hu)
    refine ⟨u, dx, r, kvs, rfl, upd_same, s1 _ _ hrd, fun rd wd H1 hrd1 hwd1 hrw hu1 hrd2 hwd2 B1 => ⟨rfl, ?_⟩⟩
    have s01 : Same H H1 := fun b o e => B1 _ _ (ne_of_none e hu) (s1 _ _ e)
    have h1c := s01 _ _ hc
    (try ctx_has vcx true_and h1c)
    have frd : H rd = none := s1.free hrd1
    have fwd : H wd = none := s1.free hwd1
    have U0 : UnAt mg C H1 u dx rd wd false [] (fun _ => []) [] kvs rm [] := ⟨hu1, ⟨fun w hw => by simp at hw, by simp, fun w hw => by simp at hw, by simp, hrd2, hks, hrk.keep (fun _ _ e => s01 _ _ e), hgd, fun x _ => List.Sublist.refl _⟩, ⟨hwd2, fun l => .inl ⟨rfl, rfl⟩, (fun l m a e => by cases e), by simp, fun x hx => by simp at hx⟩, ⟨fun l => by simp, fun l p hp => by simp at hp, fun w hw => by simp at hw⟩, by simp, (fun z => by cases z), fun _ => ⟨fun w hw => by simp at hw, fun r' hr' => ⟨hr'.2.1, fun l hl => by simp at hl⟩, fun x hx => by simp at hx⟩⟩
    refine for_g wlk_list (fun i σ H' => ∃ v3 bd tk reg ws kv rm', σ = [some (.ref r), some (.ref c), some (.ref u), v3] ∧ UnAt mg C H' u dx rd wd bd tk reg ws kv rm' (cls.take i) ∧ Same H H' ∧ (∀ b, OwnU u rd wd tk ws b → H b = none))
      ⟨_, false, [], _, [], kvs, rm, rfl, by rw [List.take_zero]; exact U0, s01, fun b h => ?_⟩ (fun i σ H' zq33 => by obtain ⟨_, _, _, _, _, _, _, _, _, sm, _⟩ := zq33; exact (.of (sm _ _ hc))) ?_ ?_
    · rcases h with h | h | h | ⟨w, hw, _⟩
      · rw [h]; exact hu
      · rw [h]; exact frd
      · rcases h with h | ⟨m, h⟩
        · rw [h]; exact fwd
        · cases h
      · simp at hw
    · rintro i x σ H2 hi hx ⟨v3, bd, tk, reg, ws, kv, rm', rfl, U2, s2, ho⟩
      obtain ⟨ct, uc, ls, rfl, hli, hct, hRc⟩ := hCl.get hx
      have hu2 := U2.hu
      have hil : i < cls.length := (List.getElem?_eq_some_iff.mp hli).1
      (try ctx_has vcx true_and hu2 fsU_go)
      refine ⟨C, u, ct, dx, rd, wd, bd, tk, reg, ws, kv, rm', uc, ls, cls.take i, rfl, hC, U2, s2 _ _ hct, hRc.keep (fun _ _ e => s2 _ _ e), List.mem_of_getElem? hli, by rw [List.length_take]; omega, fun bd' tk' reg' ws' kvs' rm2 H3 U3 F3 => ?_⟩
      have ek : cls.take (i + 1) = cls.take i ++ [ls] := by rw [List.take_add_one, hli]; rfl
      have s3 : Same H H3 := fun b o e => F3.1 _ _ (fun z => by have := ho b z; rw [this] at e; cases e) (s2 _ _ e)
      refine ⟨bd', tk', reg', ws', kvs', rm2, by rw [ek]; exact U3, s3, fun b h => ?_⟩
      rcases F3.2 b h with z | z
      · exact ho b z
      · exact s2.free z
    · rintro σ H2 ⟨v3, bd, tk, reg, ws, kv, rm', rfl, U2, s2, ho⟩
      rw [hCl.length, List.take_length] at U2
      have hu2 := U2.hu
      (try ctx_has vcx true_and hu2 fsU_dead fsU_rooms)
      cases bd with
      | true =>
        rw [if_pos rfl]
        exact k0 (U2.dead rfl) H2 s2
      | false =>
        rw [if_neg Bool.false_ne_true]
        obtain ⟨hRest, hSnd, hGone⟩ := U2.live rfl
        refine k1 rd kv rm' H2 (ho rd (.inr (.inl rfl))) U2.ub.rd (U2.ub.ks.trans hks.symm) U2.ub.rk ⟨U2.ub.gd, U2.ub.sl, fun x hx => ?_, fun r' hr' => (hSnd r' hr').1⟩ s2
        rcases hGone x hx with ⟨w, hw, rfl⟩ | ⟨l, hl, h1, h2⟩
        · exact closed_of U2.ub.gd (U2.ub.wok w hw).1 (hRest w hw).1 (hRest w hw).2
        · exact closed_tru U2.ub.gd hl h1 h2
theorem ok__law_draw {P : Program} {w : World} {K : PySem.W.Frag} {mg : Str → Option Value} {base : Heap}  (T : Txt K mg) (L : FnL K mg "_law_draw" s__law_draw ["_law_deal_here", "_law_many"])  : Fn P w K mg base "_law_draw" 1 ["_law_deal_here", "_law_many"] (spDraw) := by
  have nd := sc__law_draw.nd
  refine L.ok sc__law_draw (fun vs H Q E h => ?_) (fun f cdv A outer s H vs Q E hr h => ?_)
  · obtain ⟨d, l, m, rfl, D, m0, m1, k⟩ := h
    rfl
  · obtain ⟨d, l, m, rfl, D, m0, m1, k⟩ := h
    have hu := hu_of hr
    refine ⟨_, (pss_cons (ps_while PassesOwn.never (PW.pt (pw_and (pt_cmpR op_eq (pe_dg hu (pvM 0) pe_str (fun _ _ => rfl)) pe_int (nomark _)) (pw_and (pt_cmpR op_gt (pe_callB call_lenL rfl T.b_len PySem.boot_len (pa_cons (pe_dg hu (pvM 0) pe_str (fun _ _ => rfl)) pa_nil)) pe_int (nomark _)) (pw_and1 (pt_cmpR op_eq (pe_dg hu (pvM 0) pe_str (fun _ _ => rfl)) pe_int (nomark _)))))) (pss_one (ps_dp hu (pvM 0) pe_str (pe_mL0 PySem.F.slot_list_pop PySem.F.type_list_pop ml_pop (pe_dg hu (pvM 0) pe_str (fun _ _ => rfl))) rfl)))
      (pss_cons (ps_set (i := 2) nd rfl (by first | exact Or.inl rfl | exact Or.inr rfl) (pe_dg hu (pvM 0) pe_str (fun _ _ => rfl)))
      (pss_cons (ps_if (pt_cmpR op_gt (pvM 2) pe_int (nomark _)) (pss_cons (ps_dp hu (pvM 0) pe_str (pe_op op_fdivW (pvM 2) (pvM 1)) rfl)
      (pss_one (ps_ret (pe_op op_mod (pvM 2) (pvM 1))))) pss_nil)
      (pss_cons (ps_set (i := 3) nd rfl (by first | exact Or.inl rfl | exact Or.inr rfl) (pe_op op_mod (pe_op op_add (pe_op op_mul (pe_dg hu (pvM 0) pe_str (fun _ _ => rfl)) pe_int) pe_int) pe_int))
      (pss_cons (ps_dp hu (pvM 0) pe_str (pe_op op_mod (pe_op op_add (pe_op op_mul (pvM 3) pe_int) pe_int) pe_int) rfl)
      (pss_cons (ps_set (i := 4) nd rfl (by first | exact Or.inl rfl | exact Or.inr rfl) (pe_op op_mod (pe_op op_mul (pe_dg hu (pvM 0) pe_str (fun _ _ => rfl)) (pe_dg hu (pvM 0) pe_str (fun _ _ => rfl))) pe_int))
      (pss_one (ps_ret (pe_op op_mod (pe_op op_add (pe_op op_mul (pe_op op_mod (pe_op op_mul (pvM 3) (pvM 3)) pe_int) pe_int) (pvM 4)) (pvM 1)))))))))), ?_⟩
    obtain ⟨mx, sd, n, xs, hd, hl, n0, hx, s0, s1, hlen⟩ := D.ex
    have dl : d ≠ l := ne_of hd hl (by intro z; cases z)
    refine while_rd (fun μ σ H' => ∃ (n : Int) (xs : List Int), σ = [some (.ref d), some (.int m), none, none, none] ∧ H' d = some (.dK (dealKvs mx sd n l)) ∧ H' l = some (.lst (xs.map V.int)) ∧ 0 ≤ n ∧ (∀ x ∈ xs, 0 ≤ x) ∧ xs.length ≤ 63 ∧ But d l H H' ∧ μ = xs.length)
      (fun σ H' => ∃ (n : Int) (xs : List Int), σ = [some (.ref d), some (.int m), none, none, none] ∧ H' d = some (.dK (dealKvs mx sd n l)) ∧ H' l = some (.lst (xs.map V.int)) ∧ 0 ≤ n ∧ (∀ x ∈ xs, 0 ≤ x) ∧ xs.length ≤ 63 ∧ But d l H H')
      ⟨_, n, xs, rfl, hd, hl, n0, hx, hlen, fun b o _ _ e => e, rfl⟩ ?_ ?_
    · rintro R hR μ σ H1 ⟨n1, xs1, rfl, hd1, hl1, n01, hx1, hlen1, bt, rfl⟩
      have hr := hR _ _ ⟨n1, xs1, rfl, hd1, hl1, n01, hx1, hlen1, bt⟩
      (try ctx_has vcx true_and hd1 hl1 get_number get_left get_mixed)
      refine ite2 (fun h1 => ?_) (fun _ => hr)
      refine ite2 (fun h2 => ?_) (fun _ => hr)
      refine ite2 (fun h3 => ?_) (fun _ => hr)
      rcases List.eq_nil_or_concat xs1 with rfl | ⟨ys, z, rfl⟩
      · simp at h2
      refine ⟨fun σ' H' => σ' = [some (.ref d), some (.int m), none, none, none] ∧ H' = upd (upd H1 l (.lst (ys.map V.int))) d (.dK (dealKvs mx sd z l)), ?_, V.int z, by simp, dealKvs mx sd n1 l, by rw [upd_ne dl]; exact hd1, deal_len _ _ _ _, by rw [put_number]; simp⟩
      rintro _ _ ⟨rfl, rfl⟩
      refine ⟨ys.length, by simp, rfl, z, upd_same, ys, by rw [upd_ne dl.symm, upd_same], hx1 z (by simp), fun x hx => hx1 x (by simp [hx]), by simp at hlen1; omega, fun b o h1 h2 e => ?_, rfl⟩
      rw [upd_ne h1, upd_ne h2]
      exact bt b o h1 h2 e
    · rintro σ H1 ⟨n1, xs1, rfl, hd1, hl1, n01, hx1, hlen1, bt⟩
      (try ctx_has vcx true_and hd1 hl1 get_number get_left get_mixed get_seed deal_len put_number put_seed upd_same)
      have fin : ∀ (r sd' n' : Int), 0 ≤ r → r < m → 0 ≤ n' → 0 ≤ sd' → sd' < 2147483648 → Q (.int r) (upd H1 d (HO.dK (dealKvs mx sd' n' l))) := fun r sd' n' r0 r1 n'0 h0 h1 =>
        k r _ r0 r1 ⟨mx, sd', n', xs1, upd_same, by rw [upd_ne dl.symm]; exact hl1, n'0, hx1, h0, h1, hlen1⟩ fun b o h1 h2 e => by rw [upd_ne h1]; exact bt b o h1 h2 e
      refine ite2 (fun h1 => ?_) (fun h1 => ?_)
      · exact ⟨⟨m0, m1⟩, m0, fin _ _ _ (Int.emod_nonneg _ (by omega)) (Int.emod_lt_of_pos _ m0) (Int.ediv_nonneg (by omega) (by omega)) s0 s1⟩
      · generalize hone : (sd * 48271 + 7919) % 2147483647 = one
        have o0 : 0 ≤ one := by omega
        have o1 : one < 2147483647 := by omega
        generalize hsd2 : (one * 40692 + 104729) % 2147483399 = sd2
        have p0 : 0 ≤ sd2 := by omega
        have p1 : sd2 < 2147483399 := by omega
        have q0 := Int.emod_nonneg (one * one) (show (2147483629 : Int) ≠ 0 by decide)
        have q1 := Int.emod_lt_of_pos (one * one) (show (0 : Int) < 2147483629 by decide)
        exact ⟨cmul_small s0 (by omega), by decide, cmul_small o0 (by omega), by decide, cmul_small p0 (by omega), by decide, cmul_small o0 (by omega), by decide, cmul_small q0 (by omega), m0,
          fin _ _ _ (Int.emod_nonneg _ (by omega)) (Int.emod_lt_of_pos _ m0) n01 p0 (by omega)⟩
theorem ok__law_deal {P : Program} {w : World} {K : PySem.W.Frag} {mg : Str → Option Value} {base : Heap}  (T : Txt K mg) (L : FnL K mg "_law_deal" s__law_deal ["_law_script", "_law_start"])  : Fn P w K mg base "_law_deal" 1 ["_law_script", "_law_start"] (spDeal K) := by
  have nd := sc__law_deal.nd
  refine L.ok sc__law_deal (fun vs H Q E h => ?_) (fun f cdv A outer s H vs Q E hr h => ?_)
  · obtain ⟨a, ns, st, rfl, hS, hlen, st0, st1, k⟩ := h
    rfl
  · obtain ⟨a, ns, st, rfl, hS, hlen, st0, st1, k⟩ := h
    have hu := hu_of hr
    refine ⟨_, (pss_cons (ps_setC (i := 2) (N := ["_law_cell"]) (nt := 1) (js := []) nd rfl (by first | exact Or.inl rfl | exact Or.inr rfl) rfl (compOk_of ["_law_script", "_law_start", "_law_cells", "_law_number", "_law_cell"] (defScope s__law_deal).names rfl rfl rfl (by decide +kernel)) (pi_LK (K := K) rfl (pe_slice sl_Q (pvM 0) (po_some (pvM 1)) (po_some pe_int))) (fun _ _ _ _ _ _ => (pg_name (i := 0) (show List.Nodup [("_law_cell" : Str)] by decide +kernel) rfl (Or.inl rfl))) (tgOk_name (by decide)) (fun _ _ _ _ _ _ => pts_nil) (fun _ _ _ _ _ _ => (pe_callB (call_max2 rfl) rfl T.b_max (show bootBuiltins "max" = some (.builtin "max") by decide +kernel) (pa_cons (pvM 0) (pa_cons (pe_op op_sub pe_int (pvM 0)) pa_nil)))))
      (pss_cons (ps_set (i := 3) nd rfl (by first | exact Or.inl rfl | exact Or.inr rfl) (pe_op op_add pe_int (pvM 1)))
      (pss_cons (ps_for PassesOwn.never rfl (pi_LK (K := K) rfl (pvM 2)) (pg_name (i := 4) nd rfl (by first | exact Or.inl rfl | exact Or.inr rfl)) (pss_one (ps_set (i := 3) nd rfl (by first | exact Or.inl rfl | exact Or.inr rfl) (pe_op op_mod (pe_op op_add (pe_op op_mul (pvM 3) pe_int) (pvM 4)) pe_int))))
      (pss_one (ps_ret (pe_disp (pps_cons pe_str (pe_op op_mod (pe_callB (call_sum_l rfl) rfl T.b_sum (show bootBuiltins "sum" = some (.builtin "sum") by decide +kernel) (pa_cons (pe_slice sl_Q (pvM 0) po_none (po_some pe_int)) pa_nil)) pe_int) (pps_cons pe_str (pvM 3) (pps_cons pe_str pe_int (pps_cons pe_str (pe_listrev rfl rfl T.b_list rfl T.b_reversed (pvM 2)) pps_nil)))) rfl rfl (by nofun) (by decide))))))), ?_⟩
    (try ctx_has vcx true_and)
    refine ⟨_, hS, fun p hp => ⟨_, upd_same, fun D hD => ?_⟩⟩
    have pD : D ≠ p := by rintro rfl; rw [upd_same] at hD; cases hD
    obtain ⟨ms, hms, hml⟩ := cut_ints ns (some st) (some 63)
    rw [hms] at hD ⊢
    rw [upd_ne pD] at hD
    refine comp_g wlk_list (fun i ys H2 => ∃ cs : List Int, ys = cs.map V.int ∧ cs.length = i ∧ (∀ x ∈ cs, 0 ≤ x) ∧ H2 p = some (.lst (ms.map V.int)) ∧ H2 D = some (.lst ys) ∧ Same H H2)
      ⟨[], rfl, rfl, by simp, by rw [upd_ne pD.symm, upd_same], upd_same, (Same.upd0 hp).upd_new (by rw [upd_ne pD]; exact hD)⟩ (fun i ys H2 zq34 => by obtain ⟨_, _, _, _, h, _⟩ := zq34; exact (.of h)) ?_ ?_
    · rintro i x ys H2 hi hx ⟨cs, rfl, rfl, hc, h1, h2, sm⟩
      obtain ⟨v, rfl⟩ := int_at hx
      (try ctx_has vcx true_and h2)
      have hi : cs.length < 63 := by simp at hi; omega
      refine ⟨by simp; exact small1000 (by omega), cs ++ [if 0 - v > v then 0 - v else v], by simp, by simp, fun x hx => ?_, by rw [upd_ne pD.symm]; exact h1, upd_same, fun b o e => ?_⟩
      · rcases List.mem_append.mp hx with q | q
        · exact hc x q
        · rw [List.mem_singleton.mp q]; split <;> omega
      · rw [upd_ne (ne_of_none e hD)]; exact sm b o e
    · rintro ys H2 ⟨cs, rfl, hc, hpos, h1, h2, sm⟩
      have hcl : cs.length ≤ 63 := by simp at hc; omega
      (try ctx_has vcx true_and h2)
      refine for_g wlk_list (fun i σ H3 => ∃ (z : Int) (v : Option V), σ = [some (.ref a), some (.int st), some (.ref D), some (.int z), v] ∧ 0 ≤ z ∧ z < 2147483648 ∧ H3 = H2)
        ⟨_, _, rfl, by omega, by omega, rfl⟩ (fun i σ H3 zq35 => by obtain ⟨_, _, _, _, _, h⟩ := zq35; exact (by rw [h]; exact .of h2)) ?_ ?_
      · rintro i x σ H3 hi hx ⟨z, v, rfl, z0, z1, rfl⟩
        obtain ⟨y, rfl⟩ := int_at hx
        (try ctx_has vcx true_and)
        exact ⟨cmul_small z0 (by omega), by decide, by omega, by omega⟩
      · rintro σ H3 ⟨z, v, rfl, z0, z1, rfl⟩
        (try ctx_has vcx true_and h2 rSum)
        intro d hd
        refine ⟨_, (sm.upd_new hd).seq hS, fun p2 hp2 => ?_⟩
        have dp2 : p2 ≠ d := by rintro rfl; rw [upd_same] at hp2; cases hp2
        have hp2' : H3 p2 = none := by rwa [upd_ne dp2] at hp2
        obtain ⟨xs, hxs, _⟩ := cut_ints ns none (some 1)
        rw [hxs]
        have nD2 : D ≠ p2 := ne_of_none h2 hp2'
        have nDd : D ≠ d := ne_of_none h2 hd
        refine ⟨xs, .of upd_same, by decide, _, by rw [upd_ne nD2, upd_ne nDd]; exact h2, fun l hl => ?_⟩
        have l1 : l ≠ p2 := by rintro rfl; rw [upd_same] at hl; cases hl
        have l2 : l ≠ d := by rintro rfl; rw [upd_ne dp2.symm, upd_same] at hl; cases hl
        have hl' : H3 l = none := by rwa [upd_ne l1, upd_ne l2] at hl
        refine ⟨by rw [upd_ne l2.symm, upd_ne dp2.symm, upd_same], dealKvs (xs.sum % 2) z 0 l, rfl, by show 4 ≤ 15; decide, ?_⟩
        rw [merge_deal]
        refine k d l _ (sm.free hd) (sm.free hl') ⟨_, z, 0, cs.reverse, upd_same, by rw [upd_ne l2, upd_same, List.map_reverse], by omega, fun x hx => hpos x (List.mem_reverse.mp hx), z0, z1, by simpa using hcl⟩ fun b o e => ?_
        have e3 := sm b o e
        rw [upd_ne (ne_of_none e3 hd), upd_ne (ne_of_none e3 hl'), upd_ne (ne_of_none e3 hp2'), upd_ne (ne_of_none e3 hd)]
        exact e3
noncomputable def wordOk (x : L3) : Prop := x.2.1 = Str.ofString "is" ∨ x.2.1 = Str.ofString "not"
noncomputable def clOk (ws : List Str) (ls : List L3) : Prop := ls.Nodup ∧ ∀ x ∈ ls, x.1 ∈ ws ∧ wordOk x ∧ okL3 x
theorem inD_l3 (r : L3) (rs : List L3) : inD (l3D r) (rs.map l3D) = decide (r ∈ rs) := by
  unfold inD
  induction rs with
  | nil => rfl
  | cons q rs ih =>
    rw [List.map_cons, List.any_cons, ih, eqv_l3]
    by_cases h : q = r
    · simp [h]
    · simp [h]
      exact fun e => absurd e.symm h
theorem row3_notInB {K : PySem.W.Frag} {H : Hp} {t w : Addr} {l : L3} {vs : List V} {ls : List L3} {Q : VK} (ht : H t = some (.tup (l3V l))) (hw : H w = some (.lst vs)) (hr : Rows3 H vs ls) (h0 : okL3 l) (h1 : ∀ x ∈ ls, okL3 x) (q : Q (.bl (!decide (l ∈ ls))) H) : rInLD K true (.ref t) (.ref w) H Q :=
  ⟨l3D l, ls.map l3D, .tup (.of ht) (.cons (.str _) (.cons (.str _) (.cons (.int _) .nil))), .lst (.of hw) hr.reps, lay_l3 h0, lay_l3s ls h1, Nat.le_trans (depth_l3 l) (by decide), by rw [inD_l3]; exact q⟩
noncomputable def spClause2 : Sp := fun vs H Q _ => ∃ (d l a p : Addr) (ws : List Str) (ns : List Int) (m : Int), vs = [.ref d, .ref a, .ref p, .int m] ∧ DealAt H d l ∧ (a ≠ d ∧ a ≠ l) ∧ (p ≠ d ∧ p ≠ l) ∧ H a = some (.lst (ws.map V.str)) ∧ 1 ≤ ws.length ∧ ws.length ≤ 45 ∧ (∀ w ∈ ws, PyData.strOk w = true) ∧ H p = some (.lst (ns.map V.int)) ∧ ns.length = 5 ∧ 0 ≤ m ∧ m ≤ 40 ∧
  ∀ (q : Addr) (us : List V) (ls : List L3) (H' : Hp), H q = none → H' q = some (.tup us) → Rows3 H' us ls → ls.length ≤ 40 → clOk ws ls → DealAt H' d l → But d l H H' → Q (.ref q) H'
theorem rows3_refs {H : Hp} {vs : List V} {ls : List L3} (h : Rows3 H vs ls) : ∃ as : List Addr, vs = as.map V.ref ∧ ∀ a ∈ as, ∃ x y z, H a = some (.tup [.str x, .str y, .int z]) := by
  obtain ⟨as, h1, h2, h3⟩ := h
  refine ⟨as.map (·.1), by rw [h1, List.map_map]; rfl, fun a ha => ?_⟩
  obtain ⟨x, hx, rfl⟩ := List.mem_map.mp ha
  exact ⟨_, _, _, h3 x hx⟩
theorem ok__law_clause {P : Program} {w : World} {K : PySem.W.Frag} {mg : Str → Option Value} {base : Heap}  (T : Txt K mg) (L : FnL K mg "_law_clause" s__law_clause ["_law_deal_here", "_law_names_here", "_law_pool_here", "_law_most"]) (F_law_draw : Fn P w K mg base "_law_draw" 1 ["_law_deal_here", "_law_many"] (spDraw)) : Fn P w K mg base "_law_clause" 2 ["_law_deal_here", "_law_names_here", "_law_pool_here", "_law_most"] (spClause2) := by
  have nd := sc__law_clause.nd
  refine L.ok sc__law_clause (fun vs H Q E h => ?_) (fun f cdv A outer s H vs Q E hr h => ?_)
  · obtain ⟨d, l, a, p, ws, ns, m, rfl, D, na, np, ha, hw1, hwl, hwo, hp, hn5, m0, m1, k⟩ := h
    rfl
  · obtain ⟨d, l, a, p, ws, ns, m, rfl, D, na, np, ha, hw1, hwl, hwo, hp, hn5, m0, m1, k⟩ := h
    have hu := hu_of hr
    refine ⟨_, (pss_cons (ps_set (i := 4) nd rfl (by first | exact Or.inl rfl | exact Or.inr rfl) (pe_lst pa_nil))
      (pss_cons (ps_for PassesOwn.never rfl (pi_range1 rfl T.b_range (pa_cons (pe_callF F_law_draw (hr.mono (by first | decide | omega)) rfl (pa_cons (pvM 0) (pa_cons (pe_op op_add (pvM 3) pe_int) pa_nil))) pa_nil)) (pg_name (i := 5) nd rfl (by first | exact Or.inl rfl | exact Or.inr rfl)) (pss_cons (ps_set (i := 6) nd rfl (by first | exact Or.inl rfl | exact Or.inr rfl) (pe_tup (pa_cons (pe_ix ix_L (pvM 1) (pe_callF F_law_draw (hr.mono (by first | decide | omega)) rfl (pa_cons (pvM 0) (pa_cons (pe_callB call_lenL rfl T.b_len PySem.boot_len (pa_cons (pvM 1) pa_nil)) pa_nil))) (fun _ _ => rfl)) (pa_cons (pe_ix ix_L (pe_lst (pa_cons pe_str (pa_cons pe_str pa_nil))) (pe_callF F_law_draw (hr.mono (by first | decide | omega)) rfl (pa_cons (pvM 0) (pa_cons pe_int pa_nil))) (fun _ _ => rfl)) (pa_cons (pe_ix ix_L (pvM 2) (pe_callF F_law_draw (hr.mono (by first | decide | omega)) rfl (pa_cons (pvM 0) (pa_cons pe_int pa_nil))) (fun _ _ => rfl)) pa_nil)))))
      (pss_one (ps_if (pt_cmpR (op_notInLD (hu102 hr)) (pvM 6) (pvM 4) (by with_unfolding_all rfl)) (pss_one (ps_expr (pe_mL PySem.F.slot_list_append PySem.F.type_list_append ml_append (pvM 4) (pa_cons (pvM 6) pa_nil)))) pss_nil))))
      (pss_one (ps_ret (pe_callTy call_tupL rfl T.b_tuple (show bootBuiltins "tuple" = some (.type "tuple") by decide +kernel) (pa_cons (pe_callB call_sortedR rfl T.b_sorted (show bootBuiltins "sorted" = some (.builtin "sorted") by decide +kernel) (pa_cons (pvM 4) pa_nil)) pa_nil)))))), ?_⟩
    (try ctx_has vcx true_and)
    refine ⟨by decide, fun f hf => ?_⟩
    have nf := D.ne hf
    refine draw_rd (D.new hf) (by omega) (by omega) fun r1 H1 r10 r11 D1 B1 => ?_
    have h1f := B1 f _ nf.1 nf.2 upd_same
    have B01 : But d l H H1 := ((But.refl H).new hf).trans B1
    (try ctx_has vcx true_and)
    refine ⟨by omega, by omega, ?_⟩
    refine for_g wlk_range (fun i σ H' => ∃ (us : List V) (ls : List L3) (v5 v6 : Option V), σ = [some (.ref d), some (.ref a), some (.ref p), some (.int m), some (.ref f), v5, v6] ∧ H' f = some (.lst us) ∧ Rows3 H' us ls ∧ ls.length ≤ i ∧ clOk ws ls ∧ DealAt H' d l ∧ But d l H H')
      ⟨[], [], _, _, rfl, h1f, Rows3.nil, Nat.zero_le _, ⟨by simp, fun x hx => by simp at hx⟩, D1, B01⟩ (fun _ _ _ _ => True.intro) ?_ ?_
    · rintro i x σ H2 hi hx ⟨us, ls, v5, v6, rfl, h2, hr2, hl2, hx2, D2, B2⟩
      rw [rngV_length] at hi
      have h2a := B2 a _ na.1 na.2 ha
      (try ctx_has vcx true_and h2a)
      refine draw_rd D2 (by rw [List.length_map]; omega) (by rw [List.length_map]; omega) fun r3 H3 r30 r31 D3 B3 => ?_
      rw [List.length_map] at r31
      obtain ⟨cw, hc1, hc2⟩ := atI_mem (xs := ws) r30 (by omega)
      have hcV : atI (ws.map V.str) r3 = some (V.str cw) := by
        obtain ⟨n, rfl⟩ := Int.eq_ofNat_of_zero_le r30
        have hn : n < ws.length := by omega
        have e1 : ws[n]? = some cw := by
          have := atI_nat (xs := ws) (j := n) (v := ws[n]) (by simp)
          rw [this] at hc1
          rw [← hc1]; simp
        exact atI_nat (by rw [List.getElem?_map, e1]; rfl)
      refine ⟨_, rfl, _, B3 a _ na.1 na.2 h2a, _, hcV, by decide, fun w0 hw0 => ?_⟩
      refine draw_of D3 hw0 (by decide) (by decide) rfl fun r4 v H4 hv hatv D4 B4 h4w => ?_
      obtain ⟨wd, rfl, hwd, hww⟩ : ∃ wd, v = V.str wd ∧ PyData.strOk wd = true ∧ (wd = Str.ofString "is" ∨ wd = Str.ofString "not") := by
        simp only [List.mem_cons, List.not_mem_nil, or_false] at hv
        rcases hv with rfl | rfl
        · exact ⟨_, rfl, by decide +kernel, .inl rfl⟩
        · exact ⟨_, rfl, by decide +kernel, .inr rfl⟩
      refine ⟨r4, rfl, _, h4w, _, hatv, ?_⟩
      refine draw_rd D4 (by decide) (by decide) fun r5 H5 r50 r51 D5 B5 => ?_
      have B35 := B3.trans (B4.trans B5)
      have B25 := B2.trans B35
      obtain ⟨z, hz1, hz2⟩ := atI_mem (xs := ns) r50 (by omega)
      have hzV : atI (ns.map V.int) r5 = some (V.int z) := by
        obtain ⟨n, rfl⟩ := Int.eq_ofNat_of_zero_le r50
        have hn : n < ns.length := by omega
        have e1 : ns[n]? = some z := by
          have := atI_nat (xs := ns) (j := n) (v := ns[n]) (by simp)
          rw [this] at hz1
          rw [← hz1]; simp
        exact atI_nat (by rw [List.getElem?_map, e1]; rfl)
      refine ⟨r5, rfl, _, B25 p _ np.1 np.2 hp, _, hzV, by decide, fun t ht => ?_⟩
      have s6 : Same H5 (upd H5 t (.tup [V.str cw, V.str wd, V.int z])) := Same.upd0 ht
      have h6t : upd H5 t (.tup [V.str cw, V.str wd, V.int z]) t = some (.tup (l3V (cw, wd, z))) := upd_same
      have h6f := s6 _ _ (B35 f _ nf.1 nf.2 h2)
      have hr6 := (hr2.keep (But.keepTI B35 D2).tup).keep fun a vs e => s6 _ _ e
      have D6 := D5.same s6
      have B6 := B25.same s6
      generalize upd H5 t (.tup [V.str cw, V.str wd, V.int z]) = H6 at h6t h6f hr6 D6 B6 ⊢
      have hul : us.length ≤ 40 := by rw [hr2.length]; omega
      refine row3_notInB h6t h6f hr6 ⟨hwo cw hc2, hwd⟩ (fun x hx => (hx2.2 x hx).2.2) ⟨_, rfl, ?_⟩
      refine ite2 (fun hb => ?_) (fun hb => ?_)
      · have kt : ∀ a vs, H6 a = some (.tup vs) → upd H6 f (.lst (us ++ [V.ref t])) a = some (.tup vs) := fun a vs e => by rw [upd_ne (ne_of e h6f (by intro z; cases z))]; exact e
        refine ⟨⟨_, h6f⟩, _, h6f, small1000 (by omega), _, upd_same, ls ++ [(cw, wd, z)], (hr6.keep kt).snoc (kt _ _ h6t), by simp; omega, ⟨?_, fun x hx => ?_⟩, D6.put nf.1 nf.2, B6.put hf⟩
        · rw [List.nodup_append]
          exact ⟨hx2.1, by simp, fun a ha b hb' e => by simp at hb'; subst hb' e; simp [ha] at hb⟩
        · rcases List.mem_append.mp hx with q | q
          · exact hx2.2 x q
          · rw [List.mem_singleton.mp q]; exact ⟨hc2, hww, hwo cw hc2, hwd⟩
      · exact ⟨us, h6f, ls, hr6, by omega, hx2, D6, B6⟩
    · rintro σ H2 ⟨us, ls, v5, v6, rfl, h2, hr2, hl2, hx2, D2, B2⟩
      rw [rngV_length] at hl2
      (try ctx_has vcx true_and h2 rSortedR)
      have hul := hr2.length
      obtain ⟨as, rfl, has⟩ := rows3_refs hr2
      rw [List.length_map] at hul
      refine ⟨as, rfl, by omega, has, fun q bs hq hperm => ⟨_, upd_same, fun t ht => ?_⟩⟩
      obtain ⟨ms, hms, hrm⟩ := hr2.perm hperm
      have s3 : Same H2 (upd (upd H2 q (.lst (bs.map V.ref))) t (.tup (bs.map V.ref))) := (Same.upd0 hq).upd_new ht
      exact k t _ ms _ (B2.free D2 (same_none (Same.upd0 hq) ht)) upd_same (hrm.keep fun a vs e => s3 _ _ e) (by rw [hms.length_eq]; omega) ⟨hms.nodup_iff.mpr hx2.1, fun x hx => hx2.2 x (hms.mem_iff.mp hx)⟩ (D2.same s3) (B2.same s3)
theorem depth_l3s : ∀ ls : List L3, PyData.depthAll (ls.map l3D) ≤ 1
  | [] => by simp [PyData.depthAll]
  | x :: ls => by
    have h1 := depth_l3 x
    have h2 := depth_l3s ls
    simp only [List.map_cons, PyData.depthAll]
    omega
theorem rep_cl {K : PySem.W.Frag} {H : Hp} {ct : Addr} {us : List V} {ls : List L3} (h : H ct = some (.tup us)) (hr : Rows3 H us ls) : Rep K H (.ref ct) (.tuple (ls.map l3D)) := .tup (.of h) hr.reps
theorem lay_cl {ls : List L3} (h : ∀ x ∈ ls, okL3 x) : (PyData.tuple (ls.map l3D)).canLay0 = true := by unfold PyData.canLay0; exact lay_l3s ls h
theorem depth_cl (ls : List L3) : (PyData.tuple (ls.map l3D)).depth ≤ 100 := by
  have := depth_l3s ls
  simp only [PyData.depth]
  omega
noncomputable def spClauses : Sp := fun vs H Q _ => ∃ (d l a p r : Addr) (ws : List Str) (ns : List Int) (kvs : List (Key × V)) (rm : Str → List Int), vs = [.ref d, .ref a, .ref p, .ref r] ∧ DealAt H d l ∧ (a ≠ d ∧ a ≠ l) ∧ (p ≠ d ∧ p ≠ l) ∧ (r ≠ d ∧ r ≠ l) ∧ H a = some (.lst (ws.map V.str)) ∧ 1 ≤ ws.length ∧ ws.length ≤ 45 ∧ (∀ w ∈ ws, PyData.strOk w = true) ∧ H p = some (.lst (ns.map V.int)) ∧ ns.length = 5 ∧ H r = some (.dK kvs) ∧ RoomsFor H kvs ws rm ∧ (∀ c ∈ ws, rm c ≠ []) ∧
  ∀ (q : Addr) (us : List V) (cls : List (List L3)) (H' : Hp), H q = none → H' q = some (.lst us) → ClsAt H' us cls → cls.length ≤ 16 → (∀ c ∈ cls, c.length ≤ 40 ∧ clOk ws c) → DealAt H' d l → But d l H H' → Q (.ref q) H'
theorem ok__law_clauses {P : Program} {w : World} {K : PySem.W.Frag} {mg : Str → Option Value} {base : Heap}  (T : Txt K mg) (L : FnL K mg "_law_clauses" s__law_clauses ["_law_deal_here", "_law_names_here", "_law_pool_here", "_law_rooms_here"]) (F_law_draw : Fn P w K mg base "_law_draw" 1 ["_law_deal_here", "_law_many"] (spDraw)) (F_law_clause : Fn P w K mg base "_law_clause" 2 ["_law_deal_here", "_law_names_here", "_law_pool_here", "_law_most"] (spClause2)) : Fn P w K mg base "_law_clauses" 3 ["_law_deal_here", "_law_names_here", "_law_pool_here", "_law_rooms_here"] (spClauses) := by
  have nd := sc__law_clauses.nd
  refine L.ok sc__law_clauses (fun vs H Q E h => ?_) (fun f cdv A outer s H vs Q E hr h => ?_)
  · obtain ⟨d, l, a, p, r, ws, ns, kvs, rm, rfl, D, na, np, nr, ha, hw1, hwl, hwo, hp, hn5, hrd, hrf, hrn, k⟩ := h
    rfl
  · obtain ⟨d, l, a, p, r, ws, ns, kvs, rm, rfl, D, na, np, nr, ha, hw1, hwl, hwo, hp, hn5, hrd, hrf, hrn, k⟩ := h
    have hu := hu_of hr
    refine ⟨_, (pss_cons (ps_setC (i := 4) (N := ["_law_k", "_law_deal_here", "_law_names_here", "_law_pool_here"]) (nt := 1) (js := [0, 1, 2]) nd rfl (by first | exact Or.inl rfl | exact Or.inr rfl) rfl (compOk_of ["_law_deal_here", "_law_names_here", "_law_pool_here", "_law_rooms_here", "_law_clauses_here", "_law_ahead", "_law_k", "_law_name", "_law_both"] (defScope s__law_clauses).names rfl rfl rfl (by decide +kernel)) (pi_range1 rfl T.b_range (pa_cons (pe_callF F_law_draw (hr.mono (by first | decide | omega)) rfl (pa_cons (pvM 0) (pa_cons pe_int pa_nil))) pa_nil)) (fun _ _ _ _ _ _ => (pg_name (i := 0) (show List.Nodup [("_law_k" : Str), ("_law_deal_here" : Str), ("_law_names_here" : Str), ("_law_pool_here" : Str)] by decide +kernel) rfl (Or.inl rfl))) (tgOk_name (by decide)) (fun _ _ _ _ _ _ => pts_nil) (fun _ _ _ _ _ _ => (pe_callF F_law_clause (hr.mono (by first | decide | omega)) rfl (pa_cons (pvM 1) (pa_cons (pvM 2) (pa_cons (pvM 3) (pa_cons (pe_ix ix_L (pe_lst (pa_cons pe_int (pa_cons pe_int (pa_cons pe_int (pa_cons pe_int pa_nil))))) (pe_callF F_law_draw (hr.mono (by first | decide | omega)) rfl (pa_cons (pvM 1) (pa_cons pe_int pa_nil))) (fun _ _ => rfl)) pa_nil)))))))
      (pss_cons (ps_set (i := 5) nd rfl (by first | exact Or.inl rfl | exact Or.inr rfl) (pe_ix ix_L (pvM 1) (pe_callF F_law_draw (hr.mono (by first | decide | omega)) rfl (pa_cons (pvM 0) (pa_cons (pe_callB call_lenL rfl T.b_len PySem.boot_len (pa_cons (pvM 1) pa_nil)) pa_nil))) (fun _ _ => rfl)))
      (pss_cons (ps_for PassesOwn.never rfl (pi_range1 rfl T.b_range (pa_cons (pe_callF F_law_draw (hr.mono (by first | decide | omega)) rfl (pa_cons (pvM 0) (pa_cons pe_int pa_nil))) pa_nil)) (pg_name (i := 6) nd rfl (by first | exact Or.inl rfl | exact Or.inr rfl)) (pss_cons (ps_set (i := 7) nd rfl (by first | exact Or.inl rfl | exact Or.inr rfl) (pe_ix ix_L (pvM 1) (pe_callF F_law_draw (hr.mono (by first | decide | omega)) rfl (pa_cons (pvM 0) (pa_cons (pe_callB call_lenL rfl T.b_len PySem.boot_len (pa_cons (pvM 1) pa_nil)) pa_nil))) (fun _ _ => rfl)))
      (pss_cons (ps_set (i := 8) nd rfl (by first | exact Or.inl rfl | exact Or.inr rfl) (pe_lst (pa_cons (pe_tup (pa_cons (pvM 5) (pa_cons pe_str (pa_cons (pe_ix ix_T (pe_dg hu (pvM 3) (pvM 5) (fun _ _ => rfl)) pe_int (fun _ _ => rfl)) pa_nil)))) (pa_cons (pe_tup (pa_cons (pvM 7) (pa_cons (pe_ix ix_L (pe_lst (pa_cons pe_str (pa_cons pe_str pa_nil))) (pe_callF F_law_draw (hr.mono (by first | decide | omega)) rfl (pa_cons (pvM 0) (pa_cons pe_int pa_nil))) (fun _ _ => rfl)) (pa_cons (pe_ix ix_L (pvM 2) (pe_callF F_law_draw (hr.mono (by first | decide | omega)) rfl (pa_cons (pvM 0) (pa_cons pe_int pa_nil))) (fun _ _ => rfl)) pa_nil)))) pa_nil))))
      (pss_cons (ps_if (pt_cmpR (op_neD (hu100 hr)) (pe_ix ix_L (pvM 8) pe_int (fun _ _ => rfl)) (pe_ix ix_L (pvM 8) pe_int (fun _ _ => rfl)) (nomark _)) (pss_one (ps_expr (pe_mL PySem.F.slot_list_append PySem.F.type_list_append ml_append (pvM 4) (pa_cons (pe_callTy call_tupL rfl T.b_tuple (show bootBuiltins "tuple" = some (.type "tuple") by decide +kernel) (pa_cons (pe_callB call_sortedR rfl T.b_sorted (show bootBuiltins "sorted" = some (.builtin "sorted") by decide +kernel) (pa_cons (pvM 8) pa_nil)) pa_nil)) pa_nil)))) pss_nil)
      (pss_one (ps_set (i := 5) nd rfl (by first | exact Or.inl rfl | exact Or.inr rfl) (pvM 7)))))))
      (pss_one (ps_ret (pe_comp (N := ["_law_clause_here", "_law_deal_here"]) (nt := 1) (js := [0]) rfl (compOk_of ["_law_deal_here", "_law_names_here", "_law_pool_here", "_law_rooms_here", "_law_clauses_here", "_law_ahead", "_law_k", "_law_name", "_law_both"] (defScope s__law_clauses).names rfl rfl rfl (by decide +kernel)) (pi_LK (K := K) rfl (pvM 4)) (fun _ _ _ _ _ _ => (pg_name (i := 0) (show List.Nodup [("_law_clause_here" : Str), ("_law_deal_here" : Str)] by decide +kernel) rfl (Or.inl rfl))) (tgOk_name (by decide)) (fun _ _ _ _ _ _ => pts_one (PW.pt (pw_or (pt_cmpR (op_neDK rfl (hu100 hr)) (pvM 0) (pe_tup pa_nil) (nomark _)) (pw_or1 (pt_cmpR op_eq (pe_callF F_law_draw (hr.mono (by first | decide | omega)) rfl (pa_cons (pvM 1) (pa_cons pe_int pa_nil))) pe_int (nomark _)))))) (fun _ _ _ _ _ _ => (pvM 0)))))))), ?_⟩
    (try ctx_has vcx true_and)
    refine draw_rd D (by decide) (by decide) fun r1 H1 r10 r11 D1 B1 => ?_
    refine ⟨r1, rfl, by omega, by omega, fun g hg => ?_⟩
    have ng := D1.ne hg
    refine comp_g wlk_range (fun i ys H' => ∃ cls, ClsAt H' ys cls ∧ cls.length ≤ i ∧ (∀ c ∈ cls, c.length ≤ 40 ∧ clOk ws c) ∧ DealAt H' d l ∧ But d l H H' ∧ H' g = some (.lst ys)) ⟨[], ClsAt.nil, Nat.zero_le _, (fun c hc => by simp at hc), D1.new hg, B1.new hg, upd_same⟩ (fun _ _ _ _ => True.intro) ?_ ?_
    · rintro i x ys H2 hi hx ⟨cls, hC2, hcl, hco, D2, B2, h2g⟩
      rw [rngV_length] at hi
      (try ctx_has vcx true_and)
      refine ⟨by decide, fun gl hgl => draw_of D2 hgl (by decide) (by decide) rfl fun r3 v H3 hv e3 D3 B3 h3 => ⟨r3, rfl, _, h3, _, e3, ?_⟩⟩
      obtain ⟨m, rfl, m0, m1⟩ : ∃ m : Int, v = V.int m ∧ 0 ≤ m ∧ m ≤ 40 := by
        simp only [List.mem_cons, List.not_mem_nil, or_false] at hv
        rcases hv with rfl | rfl | rfl | rfl <;> exact ⟨_, rfl, by decide, by decide⟩
      have B23 := B2.trans B3
      refine ⟨d, l, a, p, ws, ns, m, rfl, D3, na, np, B23 a _ na.1 na.2 ha, hw1, hwl, hwo, B23 p _ np.1 np.2 hp, hn5, m0, m1, fun q us ls H4 hq h4 hR4 hl4 hc4 D4 B4 => ?_⟩
      have B34 := B3.trans B4
      have h4g := B34 g _ ng.1 ng.2 h2g
      have kt : ∀ a vs, H2 a = some (.tup vs) → H4 a = some (.tup vs) := (But.keepTI B34 D2).tup
      have kt5 : ∀ a vs, H4 a = some (.tup vs) → upd H4 g (.lst (ys ++ [V.ref q])) a = some (.tup vs) := fun a vs e => by rw [upd_ne (ne_of e h4g (by intro z; cases z))]; exact e
      have hyl := hC2.length
      refine ⟨h4g, Nat.lt_of_lt_of_le (show ys.length < 1000 by omega) (by decide), cls ++ [ls], ((hC2.keep kt).keep kt5).snoc (kt5 _ _ h4) (hR4.keep kt5), by simp; omega, fun c hc => ?_, D4.put ng.1 ng.2, (B23.trans B4).put (B1.free D1 hg), upd_same⟩
      rcases List.mem_append.mp hc with z | z
      · exact hco c z
      · rw [List.mem_singleton.mp z]; exact ⟨hl4, hc4⟩
    · rintro ys H2 ⟨cls, hC2, hcl, hco, D2, B2, h2g⟩
      rw [rngV_length] at hcl
      have h2a := B2 a _ na.1 na.2 ha
      refine ⟨_, h2a, draw_rd D2 (by rw [List.length_map]; omega) (by rw [List.length_map]; omega) fun r3 H3 r30 r31 D3 B3 => ?_⟩
      rw [List.length_map] at r31
      have hat : ∀ rr : Int, 0 ≤ rr → rr < ws.length → ∃ c, c ∈ ws ∧ atI (ws.map V.str) rr = some (V.str c) := fun rr q0 q1 => by
        obtain ⟨v, h1, h2⟩ := atI_mem (xs := ws.map V.str) q0 (by rw [List.length_map]; omega)
        obtain ⟨c, hc, rfl⟩ := List.mem_map.mp h2
        exact ⟨c, hc, h1⟩
      obtain ⟨c0, hc0, e0⟩ := hat r3 r30 r31
      refine ⟨r3, rfl, _, B3 a _ na.1 na.2 h2a, _, e0, draw_rd D3 (by decide) (by decide) fun r4 H4 r40 r41 D4 B4 => ⟨r4, rfl, by omega, by omega, ?_⟩⟩
      have B24 := B3.trans B4
      have h4g := B24 g _ ng.1 ng.2 h2g
      refine for_g wlk_range (fun i σ H' => ∃ ys cls c6 v6 v7 v8, σ = [some (.ref d), some (.ref a), some (.ref p), some (.ref r), some (.ref g), some (.str c6), v6, v7, v8] ∧ c6 ∈ ws ∧ ClsAt H' ys cls ∧ cls.length ≤ 8 + i ∧ (∀ c ∈ cls, c.length ≤ 40 ∧ clOk ws c) ∧ DealAt H' d l ∧ But d l H H' ∧ H' g = some (.lst ys)) ⟨ys, cls, c0, _, _, _, rfl, hc0, hC2.keep (But.keepTI B24 D2).tup, by omega, hco, D4, B2.trans B24, h4g⟩ (fun _ _ _ _ => True.intro) ?_ ?_
      · rintro i x σ H5 hi hx ⟨ys, cls, c6, v6, v7, v8, rfl, hc6, hC5, hcl5, hco5, D5, B5, h5g⟩
        rw [rngV_length] at hi
        have h5a := B5 a _ na.1 na.2 ha
        (try ctx_has vcx true_and h5a)
        refine draw_rd D5 (by rw [List.length_map]; omega) (by rw [List.length_map]; omega) fun r6 H6 r60 r61 D6 B6 => ?_
        rw [List.length_map] at r61
        obtain ⟨c7, hc7, e7⟩ := hat r6 r60 r61
        have B06 := B5.trans B6
        refine ⟨r6, rfl, _, B6 a _ na.1 na.2 h5a, _, e7, ?_⟩
        have h6r := B06 r _ nr.1 nr.2 hrd
        obtain ⟨ac, hvc, hac⟩ := hrf c6 hc6
        have h6c := (But.keepTI B06 D).tup _ _ hac
        obtain ⟨z0, hz0⟩ : ∃ z0, (rm c6)[0]? = some z0 := by
          cases e : rm c6 with
          | nil => exact absurd e (hrn c6 hc6)
          | cons x xs => exact ⟨x, rfl⟩
        refine ⟨kvs, h6r, _, hvc, ac, rfl, _, h6c, V.int z0, atI_nat (j := 0) (by rw [List.getElem?_map, hz0]; rfl), by decide, fun t1 ht1 => ⟨by decide, fun pl hpl => ?_⟩⟩
        have nt1 := D6.ne ht1
        refine draw_of (D6.new ht1) hpl (by decide) (by decide) rfl fun r8 v H8 hv e8 D8 B8 h8 => ⟨r8, rfl, _, h8, _, e8, ?_⟩
        obtain ⟨wd, rfl, hwd, hww⟩ : ∃ wd, v = V.str wd ∧ PyData.strOk wd = true ∧ (wd = Str.ofString "is" ∨ wd = Str.ofString "not") := by
          simp only [List.mem_cons, List.not_mem_nil, or_false] at hv
          rcases hv with rfl | rfl
          · exact ⟨_, rfl, by decide +kernel, .inl rfl⟩
          · exact ⟨_, rfl, by decide +kernel, .inr rfl⟩
        have h8t : H8 t1 = some (.tup (l3V (c6, Str.ofString "not", z0))) := B8 t1 _ nt1.1 nt1.2 upd_same
        have B68 : But d l H6 H8 := ((But.refl H6).new ht1).trans B8
        refine draw_rd D8 (by decide) (by decide) fun r9 H9 r90 r91 D9 B9 => ?_
        have B69 := B68.trans B9
        have B09 := B06.trans B69
        obtain ⟨z9, hz9⟩ : ∃ z9, atI (ns.map V.int) r9 = some (V.int z9) := by
          obtain ⟨v, h1, h2⟩ := atI_mem (xs := ns.map V.int) r90 (by rw [List.length_map]; omega)
          obtain ⟨z, _, rfl⟩ := List.mem_map.mp h2
          exact ⟨z, h1⟩
        refine ⟨r9, rfl, _, B09 p _ np.1 np.2 hp, _, hz9, by decide, fun t2 ht2 => ⟨by decide, fun bo hbo => ?_⟩⟩
        have h9t := (But.keepTI B9 D8).tup _ _ h8t
        have s10 : Same H9 (upd (upd H9 t2 (.tup [V.str c7, V.str wd, V.int z9])) bo (.lst [V.ref t1, V.ref t2])) := (Same.upd0 ht2).upd_new hbo
        have h10b : upd (upd H9 t2 (.tup [V.str c7, V.str wd, V.int z9])) bo (.lst [V.ref t1, V.ref t2]) bo = some (.lst [V.ref t1, V.ref t2]) := upd_same
        have h10t : upd (upd H9 t2 (.tup [V.str c7, V.str wd, V.int z9])) bo (.lst [V.ref t1, V.ref t2]) t2 = some (.tup (l3V (c7, wd, z9))) := by
          rw [upd_ne (fun z => by rw [← z, upd_same] at hbo; cases hbo)]; exact upd_same
        generalize upd (upd H9 t2 (.tup [V.str c7, V.str wd, V.int z9])) bo (.lst [V.ref t1, V.ref t2]) = H10 at s10 h10b h10t ⊢
        have B010 := B09.same s10
        have B610 : But d l H6 H10 := B69.same s10
        have D10 := D9.same s10
        have h10g := B610 g _ ng.1 ng.2 (B6 g _ ng.1 ng.2 h5g)
        have kt10 := (But.keepTI (B6.trans B610) D5).tup
        have h10t1 := s10 _ _ h9t
        have hC10 := hC5.keep kt10
        have o1 : okL3 (c6, Str.ofString "not", z0) := ⟨hwo c6 hc6, (show PyData.strOk (Str.ofString "not") = true by decide +kernel)⟩
        have o2 : okL3 (c7, wd, z9) := ⟨hwo c7 hc7, hwd⟩
        refine ⟨_, h10b, _, atI_nat (j := 0) rfl, _, h10b, _, atI_nat (j := 1) rfl, neD_l3 h10t1 h10t o1 o2 ⟨_, rfl, ?_⟩⟩
        by_cases hne : ((c6, Str.ofString "not", z0) : L3) = (c7, wd, z9)
        · rw [if_neg (by rw [decide_eq_true hne]; simp)]
          exact ⟨ys, cls, c7, rfl, hc7, hC10, by omega, hco5, D10, B010, h10g⟩
        · rw [if_pos (by rw [decide_eq_false hne]; rfl)]
          have hrb : Rows3 H10 [V.ref t1, V.ref t2] [(c6, Str.ofString "not", z0), (c7, wd, z9)] := (Rows3.nil.snoc (ls := []) h10t1).snoc h10t
          refine ⟨⟨_, h10g⟩, ?_⟩
          (try ctx_has vcx true_and h10b rSortedR)
          refine ⟨[t1, t2], rfl, by simp, fun x hx => ?_, fun q bs hq hperm => ⟨_, upd_same, fun tt htt => ?_⟩⟩
          · simp only [List.mem_cons, List.not_mem_nil, or_false] at hx
            rcases hx with rfl | rfl
            · exact ⟨_, _, _, h10t1⟩
            · exact ⟨_, _, _, h10t⟩
          · obtain ⟨ms, hms, hrm⟩ := Rows3.perm (as := [t1, t2]) hrb hperm
            have s12 : Same H10 (upd (upd H10 q (.lst (bs.map V.ref))) tt (.tup (bs.map V.ref))) := (Same.upd0 hq).upd_new htt
            have h12t : upd (upd H10 q (.lst (bs.map V.ref))) tt (.tup (bs.map V.ref)) tt = some (.tup (bs.map V.ref)) := upd_same
            generalize upd (upd H10 q (.lst (bs.map V.ref))) tt (.tup (bs.map V.ref)) = H12 at s12 h12t ⊢
            have h12g := s12 _ _ h10g
            have kt13 : ∀ a vs, H12 a = some (.tup vs) → upd H12 g (.lst (ys ++ [V.ref tt])) a = some (.tup vs) := fun a vs e => by rw [upd_ne (ne_of e h12g (by intro z; cases z))]; exact e
            have hyl := hC5.length
            refine ⟨ys, h12g, Nat.lt_of_lt_of_le (show ys.length < 1000 by omega) (by decide), hc7, _, cls ++ [ms], ((hC10.keep (fun _ _ e => s12 _ _ e)).keep kt13).snoc (kt13 _ _ h12t) ((hrm.keep (fun _ _ e => s12 _ _ e)).keep kt13), by simp; omega, fun c hc => ?_, (D10.same s12).put ng.1 ng.2, (B010.same s12).put (B1.free D1 hg), upd_same⟩
            rcases List.mem_append.mp hc with z | z
            · exact hco5 c z
            · rw [List.mem_singleton.mp z]
              have hml := hms.length_eq
              simp only [List.length_cons, List.length_nil] at hml
              refine ⟨by omega, hms.nodup_iff.mpr (by simp [hne]), fun x hx => ?_⟩
              have := hms.mem_iff.mp hx
              simp only [List.mem_cons, List.not_mem_nil, or_false] at this
              rcases this with rfl | rfl
              · exact ⟨hc6, .inr rfl, o1⟩
              · exact ⟨hc7, hww, o2⟩
      · rintro σ H5 ⟨ys, cls, c6, v6, v7, v8, rfl, hc6, hC5, hcl5, hco5, D5, B5, h5g⟩
        rw [rngV_length] at hcl5
        (try ctx_has vcx true_and h5g)
        intro D5' hD5
        have nD := D5.ne hD5
        refine comp_g wlk_list (fun j zs H' => ∃ cl2, ClsAt H' zs cl2 ∧ cl2.length ≤ j ∧ (∀ c ∈ cl2, c.length ≤ 40 ∧ clOk ws c) ∧ DealAt H' d l ∧ But d l H5 H' ∧ H' D5' = some (.lst zs)) ⟨[], ClsAt.nil, Nat.zero_le _, (fun c hc => by simp at hc), D5.new hD5, (But.refl H5).new hD5, upd_same⟩ (fun j zs H' zq36 => by obtain ⟨_, _, _, _, _, B, _⟩ := zq36; exact (.of (B g _ ng.1 ng.2 h5g))) ?_ ?_
        · rintro j x zs H6 hj hx ⟨cl2, hC6, hc6l, hco6, D6, B6, h6D⟩
          obtain ⟨ct, uc, ls, rfl, hlj, hct, hRc⟩ := hC5.get hx
          have hm := List.mem_of_getElem? hlj
          have kt6 := (But.keepTI B6 D5).tup
          have fin : ∀ H7, DealAt H7 d l → But d l H6 H7 → ∃ cl2', ClsAt (upd H7 D5' (.lst (zs ++ [V.ref ct]))) (zs ++ [V.ref ct]) cl2' ∧ cl2'.length ≤ j + 1 ∧ (∀ c ∈ cl2', c.length ≤ 40 ∧ clOk ws c) ∧ DealAt (upd H7 D5' (.lst (zs ++ [V.ref ct]))) d l ∧ But d l H5 (upd H7 D5' (.lst (zs ++ [V.ref ct]))) ∧ upd H7 D5' (.lst (zs ++ [V.ref ct])) D5' = some (.lst (zs ++ [V.ref ct])) := fun H7 D7 B7 => by
            have h7D := B7 D5' _ nD.1 nD.2 h6D
            have kt7 := (But.keepTI B7 D6).tup
            have kt8 : ∀ a vs, H7 a = some (.tup vs) → upd H7 D5' (.lst (zs ++ [V.ref ct])) a = some (.tup vs) := fun a vs e => by rw [upd_ne (ne_of e h7D (by intro z; cases z))]; exact e
            refine ⟨cl2 ++ [ls], ((hC6.keep kt7).keep kt8).snoc (kt8 _ _ (kt7 _ _ (kt6 _ _ hct))) (((hRc.keep kt6).keep kt7).keep kt8), by simp; omega, fun c hc => ?_, D7.put nD.1 nD.2, (B6.trans B7).put hD5, upd_same⟩
            rcases List.mem_append.mp hc with z | z
            · exact hco6 c z
            · rw [List.mem_singleton.mp z]; exact hco5 ls hm
          have hzl : zs.length < sizeLine := by
            have := hC6.length
            have h3 : j < ys.length := hj
            have := hC5.length
            exact Nat.lt_of_lt_of_le (show zs.length < 1000 by omega) (by decide)
          (try ctx_has vcx true_and)
          refine ⟨by decide, fun pe hpe => ?_⟩
          have s7 : Same H6 (upd H6 pe (.tup [])) := Same.upd0 hpe
          have h7e : upd H6 pe (.tup []) pe = some (.tup []) := upd_same
          generalize upd H6 pe (.tup []) = H7 at s7 h7e ⊢
          have D7 := D6.same s7
          have B67 : But d l H6 H7 := (But.refl H6).same s7
          refine ⟨.tuple (ls.map l3D), .tuple [], rep_cl (s7 _ _ (kt6 _ _ hct)) ((hRc.keep kt6).keep (fun _ _ e => s7 _ _ e)), .tup (.of h7e) .nil, lay_cl (fun x hx => ((hco5 ls hm).2.2 x hx).2.2), rfl, depth_cl ls, ⟨_, rfl, ite2 (fun h => ?_) (fun h => ?_)⟩⟩
          · exact ⟨s7 _ _ h6D, hzl, fin H7 D7 B67⟩
          · refine draw_rd D7 (by decide) (by decide) fun r8 H8 r80 r81 D8 B8 => ⟨rfl, ite2 (fun h => ?_) (fun h => ?_)⟩
            · have B68 := B67.trans B8
              exact ⟨B68 D5' _ nD.1 nD.2 h6D, hzl, fin H8 D8 B68⟩
            · have B68 := B67.trans B8
              exact ⟨cl2, hC6.keep (But.keepTI B68 D6).tup, by omega, hco6, D8, B6.trans B68, B68 D5' _ nD.1 nD.2 h6D⟩
        · rintro zs H6 ⟨cl2, hC6, hc6l, hco6, D6, B6, h6D⟩
          have := hC5.length
          exact k D5' zs cl2 H6 (B5.free D5 hD5) h6D hC6 (by omega) hco6 D6 (B5.trans B6)
noncomputable def spNames : Sp := fun vs H Q _ => ∃ (d l : Addr) (m : Int), vs = [.ref d, .int m] ∧ DealAt H d l ∧ 0 ≤ m ∧ m ≤ 20 ∧ ∀ (p : Addr) (ws : List Str) (H' : Hp), H p = none → NamesOk ws → ws.length = m.toNat → H' p = some (.lst (ws.map V.str)) → DealAt H' d l → But d l H H' → Q (.ref p) H'
theorem nxt_rd {w1 : Str} (n1 : IsNm w1) {P : Str → Prop} (h : P (nxtW w1)) : w1.length ≤ sizeLine ∧ ∃ c, atI w1.cps.toList 0 = some c ∧ ∃ i rest, Builtin.Str.occurrences (Str.ofString "abcdefghijklmnopqrstuvwxyz") { cps := #[c] } 0 (Str.ofString "abcdefghijklmnopqrstuvwxyz").length 1 = i :: rest ∧ (0 : Int) < 26 ∧
    (Str.ofString "abcdefghijklmnopqrstuvwxyz").length ≤ sizeLine ∧ ∃ c, atI (Str.ofString "abcdefghijklmnopqrstuvwxyz").cps.toList (((i : Nat) + 1 : Int) % 26) = some c ∧ w1.length ≤ sizeLine ∧ (Str.mk #[c]).length + (Txt.slice w1 (some 1) none).length ≤ sizeLine ∧ P ((Str.mk #[c]) ++ Txt.slice w1 (some 1) none) := by
  obtain ⟨c, cs, e, hc, hcs, hl⟩ := n1.cons
  have hlw : w1.length ≤ sizeLine := Nat.le_of_lt (small1000 (Nat.le_trans n1.le (by decide)))
  have hs := Txt.slice_le w1 (some 1) none
  have hw := n1.le
  refine ⟨hlw, c, by rw [e]; exact atI_zero _ _, _, _, letters_index hc, by decide, letters_len, _, letters_at (by omega) (by omega), hlw, Nat.le_of_lt (small1000 (by show 1 + _ ≤ 1000; omega)), ?_⟩
  have hc2 := hc
  simp only [smallB, Bool.and_eq_true, decide_eq_true_eq] at hc2
  have hl1 : w1.length = cs.length + 1 := by rw [← len_cps, e]; rfl
  have key : (Str.mk #[97 + ((((c - 97 : Nat) : Int) + 1) % 26).toNat]) ++ Txt.slice w1 (some 1) none = nxtW w1 := by
    apply str_ext
    rw [append_cps, slice_cps, e, hl1]
    have e1 : 97 + ((((c - 97 : Nat) : Int) + 1) % 26).toNat = nxtC c := by unfold nxtC; omega
    have e2 : HT.sIx (cs.length + 1) 0 (some 1) = 1 := by
      show (if (1 : Int) < 0 then ((1 : Int) + ((cs.length + 1 : Nat) : Int)).toNat else min (1 : Int).toNat (cs.length + 1)) = 1
      rw [if_neg (by decide)]
      show min 1 (cs.length + 1) = 1
      omega
    rw [e1, e2, HT.sIx_none]
    simp [nxtW, e, nxtL]
  rw [key]
  exact h
theorem names_while {Dn : Ends} {d p : Addr} {v1 vk vp : Option V} {ws : List Str} {H : Hp} {wd : Str} (hw : IsNm wd) (hws : ws.length ≤ 20) (hp : H p = some (.lst (ws.map V.str)))
    (fin : ∀ (wd' : Str) (H' : Hp), IsNm wd' → wd' ∉ ws → wd' ∉ marks4 → Same H H' → Dn.nx [some (.ref d), v1, some (.str (Str.ofString "abcdefghijklmnopqrstuvwxyz")), some (.ref p), vk, some (.str wd'), vp] H') :
    tWhile
      (tOr (tTest (tOp (rInL false) (tVarM 5) (tVarM 3)))
        (tTest (tOp (rInL false) (tVarM 5) (tLst (tCons (tC (V.str (Str.ofString "in"))) (tCons (tC (V.str (Str.ofString "from"))) (tCons (tC (V.str (Str.ofString "to"))) (tCons (tC (V.str (Str.ofString "end"))) tNil))))))))
      (tAsg (tOp rCS (tOp rIS (tVarM 2) (tOp (rI (fun x j => 0 < j) fun i j => V.int (i % j)) (tOp (rI0 fun i j => V.int (i + j)) (tMS rmIndex (tVarM 2) (tCons (tOp rIS (tVarM 5) (tC (V.int 0))) tNil)) (tC (V.int 1))) (tC (V.int 26))))
          (tSl rSlS (tVarM 5) (tPart (tC (V.int 1))) tNoPart)) (gName 5))
      Dn [some (.ref d), v1, some (.str (Str.ofString "abcdefghijklmnopqrstuvwxyz")), some (.ref p), vk, some (.str wd), vp] H := by
  obtain ⟨μ0, h0⟩ := free_word hw (F := ws ++ marks4) (by simp [marks4]; omega)
  refine while_rd (fun μ σ H' => ∃ wd' : Str, σ = [some (.ref d), v1, some (.str (Str.ofString "abcdefghijklmnopqrstuvwxyz")), some (.ref p), vk, some (.str wd'), vp] ∧ IsNm wd' ∧ nxtN μ wd' ∉ ws ++ marks4 ∧ Same H H')
    (fun σ H' => ∃ wd' : Str, σ = [some (.ref d), v1, some (.str (Str.ofString "abcdefghijklmnopqrstuvwxyz")), some (.ref p), vk, some (.str wd'), vp] ∧ IsNm wd' ∧ wd' ∉ ws ∧ wd' ∉ marks4 ∧ Same H H')
    ⟨μ0, wd, rfl, hw, h0, Same.refl _⟩ ?_ ?_
  · rintro R hR μ σ H1 ⟨w1, rfl, n1, f1, sm⟩
    have hp1 := sm _ _ hp
    have step : ∀ H2, Same H H2 → w1 ∈ ws ++ marks4 → ∀ σ' H', (σ' = [some (.ref d), v1, some (.str (Str.ofString "abcdefghijklmnopqrstuvwxyz")), some (.ref p), vk, some (.str (nxtW w1)), vp] ∧ H' = H2) → ∃ m', m' < μ ∧ ∃ wd' : Str, σ' = [some (.ref d), v1, some (.str (Str.ofString "abcdefghijklmnopqrstuvwxyz")), some (.ref p), vk, some (.str wd'), vp] ∧ IsNm wd' ∧ nxtN m' wd' ∉ ws ++ marks4 ∧ Same H H' := fun H2 sm2 hin => by
      rintro _ _ ⟨rfl, rfl⟩
      cases μ with
      | zero => exact absurd hin f1
      | succ μ => exact ⟨μ, Nat.lt_succ_self _, nxtW w1, rfl, nxtW_nm n1, f1, sm2⟩
    (try ctx_has vcx true_and hp1)
    refine ⟨rfl, flat_strs _, ?_⟩
    rw [inV_strs]
    refine ite2 (fun h => ?_) (fun h => ?_)
    · exact ⟨_, step H1 sm (List.mem_append_left _ (by simpa using h)), nxt_rd n1 (P := fun z => [some (V.ref d), v1, some (.str (Str.ofString "abcdefghijklmnopqrstuvwxyz")), some (.ref p), vk, some (.str z), vp] = [some (V.ref d), v1, some (.str (Str.ofString "abcdefghijklmnopqrstuvwxyz")), some (.ref p), vk, some (.str (nxtW w1)), vp] ∧ H1 = H1) ⟨rfl, rfl⟩⟩
    · refine ⟨by decide, fun q hq => ⟨_, upd_same, rfl, by decide +kernel, ?_⟩⟩
      have sm2 : Same H (upd H1 q (.lst (marks4.map V.str))) := sm.upd_new hq
      show (if inV (V.str w1) (marks4.map V.str) = true then _ else _)
      rw [inV_strs]
      refine ite2 (fun h2 => ?_) (fun h2 => ?_)
      · exact ⟨_, step _ sm2 (List.mem_append_right _ (by simpa using h2)), nxt_rd n1 (P := fun z => [some (V.ref d), v1, some (.str (Str.ofString "abcdefghijklmnopqrstuvwxyz")), some (.ref p), vk, some (.str z), vp] = [some (V.ref d), v1, some (.str (Str.ofString "abcdefghijklmnopqrstuvwxyz")), some (.ref p), vk, some (.str (nxtW w1)), vp] ∧ _ = _) ⟨rfl, rfl⟩⟩
      · exact hR _ _ ⟨w1, rfl, n1, by simpa using h, by simpa using h2, sm2⟩
  · rintro σ H1 ⟨w1, rfl, n1, f1, f2, sm⟩
    exact fin w1 H1 n1 f1 f2 sm
theorem ok__law_names {P : Program} {w : World} {K : PySem.W.Frag} {mg : Str → Option Value} {base : Heap}  (T : Txt K mg) (L : FnL K mg "_law_names" s__law_names ["_law_deal_here", "_law_many"]) (F_law_draw : Fn P w K mg base "_law_draw" 1 ["_law_deal_here", "_law_many"] (spDraw)) : Fn P w K mg base "_law_names" 2 ["_law_deal_here", "_law_many"] (spNames) := by
  have nd := sc__law_names.nd
  refine L.ok sc__law_names (fun vs H Q E h => ?_) (fun f cdv A outer s H vs Q E hr h => ?_)
  · obtain ⟨d, l, m, rfl, D, m0, m1, k⟩ := h
    rfl
  · obtain ⟨d, l, m, rfl, D, m0, m1, k⟩ := h
    have hu := hu_of hr
    refine ⟨_, (pss_cons (ps_set (i := 2) nd rfl (by first | exact Or.inl rfl | exact Or.inr rfl) pe_str)
      (pss_cons (ps_set (i := 3) nd rfl (by first | exact Or.inl rfl | exact Or.inr rfl) (pe_lst pa_nil))
      (pss_cons (ps_for PassesOwn.never rfl (pi_range1 rfl T.b_range (pa_cons (pvM 1) pa_nil)) (pg_name (i := 4) nd rfl (by first | exact Or.inl rfl | exact Or.inr rfl)) (pss_cons (ps_set (i := 5) nd rfl (by first | exact Or.inl rfl | exact Or.inr rfl) (pe_mS PySem.F.slot_str_join PySem.F.type_str_join ms_join pe_str (pa_cons (pe_comp (N := ["_law_j", "_law_letters", "_law_deal_here"]) (nt := 1) (js := [2, 0]) rfl (compOk_of ["_law_deal_here", "_law_many", "_law_letters", "_law_names_here", "_law_k", "_law_word", "_law_place"] (defScope s__law_names).names rfl rfl rfl (by decide +kernel)) (pi_range1 rfl T.b_range (pa_cons (pe_op op_add pe_int (pe_callF F_law_draw (hr.mono (by first | decide | omega)) rfl (pa_cons (pvM 0) (pa_cons pe_int pa_nil)))) pa_nil)) (fun _ _ _ _ _ _ => (pg_name (i := 0) (show List.Nodup [("_law_j" : Str), ("_law_letters" : Str), ("_law_deal_here" : Str)] by decide +kernel) rfl (Or.inl rfl))) (tgOk_name (by decide)) (fun _ _ _ _ _ _ => pts_nil) (fun _ _ _ _ _ _ => (pe_ix ix_S (pvM 1) (pe_callF F_law_draw (hr.mono (by first | decide | omega)) rfl (pa_cons (pvM 2) (pa_cons pe_int pa_nil))) (fun _ _ => rfl)))) pa_nil)))
      (pss_cons (ps_if (PW.pt (pw_and (pt_cmpR op_gt (pvM 4) pe_int (nomark _)) (pw_and1 (pt_cmpR op_eq (pe_callF F_law_draw (hr.mono (by first | decide | omega)) rfl (pa_cons (pvM 0) (pa_cons pe_int pa_nil))) pe_int (nomark _))))) (pss_cons (ps_set (i := 6) nd rfl (by first | exact Or.inl rfl | exact Or.inr rfl) (pe_callF F_law_draw (hr.mono (by first | decide | omega)) rfl (pa_cons (pvM 0) (pa_cons (pe_callB call_lenS rfl T.b_len PySem.boot_len (pa_cons (pe_ix ix_L (pvM 3) (pe_un un_neg pe_int) (fun _ _ => rfl)) pa_nil)) pa_nil))))
      (pss_one (ps_set (i := 5) nd rfl (by first | exact Or.inl rfl | exact Or.inr rfl) (pe_op op_catS (pe_op op_catS (pe_slice sl_str (pe_ix ix_L (pvM 3) (pe_un un_neg pe_int) (fun _ _ => rfl)) po_none (po_some (pvM 6))) (pe_ix ix_S (pvM 5) pe_int (fun _ _ => rfl))) (pe_slice sl_str (pe_ix ix_L (pvM 3) (pe_un un_neg pe_int) (fun _ _ => rfl)) (po_some (pe_op op_add (pvM 6) pe_int)) po_none))))) pss_nil)
      (pss_cons (ps_while PassesOwn.never (PW.pt (pw_or (pt_cmpR op_inL (pvM 5) (pvM 3) (by with_unfolding_all rfl)) (pw_or1 (pt_cmpR op_inL (pvM 5) (pe_lst (pa_cons pe_str (pa_cons pe_str (pa_cons pe_str (pa_cons pe_str pa_nil))))) (by with_unfolding_all rfl))))) (pss_one (ps_set (i := 5) nd rfl (by first | exact Or.inl rfl | exact Or.inr rfl) (pe_op op_catS (pe_ix ix_S (pvM 2) (pe_op op_mod (pe_op op_add (pe_mS PySem.F.slot_str_index PySem.F.type_str_index ms_index (pvM 2) (pa_cons (pe_ix ix_S (pvM 5) pe_int (fun _ _ => rfl)) pa_nil)) pe_int) pe_int) (fun _ _ => rfl)) (pe_slice sl_str (pvM 5) (po_some pe_int) po_none)))))
      (pss_one (ps_expr (pe_mL PySem.F.slot_list_append PySem.F.type_list_append ml_append (pvM 3) (pa_cons (pvM 5) pa_nil))))))))
      (pss_one (ps_ret (pvM 3)))))), ?_⟩
    (try ctx_has vcx true_and)
    refine ⟨by decide, fun p hp => ⟨by omega, by omega, ?_⟩⟩
    have np := D.ne hp
    refine for_g wlk_range (fun i σ H' => ∃ (ws : List Str) (vk vw vp : Option V), σ = [some (.ref d), some (.int m), some (.str (Str.ofString "abcdefghijklmnopqrstuvwxyz")), some (.ref p), vk, vw, vp] ∧ NamesOk ws ∧ ws.length = i ∧ H' p = some (.lst (ws.map V.str)) ∧ DealAt H' d l ∧ But d l H H')
      ⟨[], _, _, _, rfl, .nil, rfl, upd_same, D.new hp, (But.refl H).new hp⟩ (fun _ _ _ _ => True.intro) ?_ ?_
    · rintro i x σ H2 hi hx ⟨ws, vk, vw, vp, rfl, ok, hlen, h2, D2, B2⟩
      rw [rngV_length] at hi
      rw [rngV_get hi] at hx
      obtain rfl := Option.some.inj hx
      (try ctx_has vcx true_and)
      refine draw_rd D2 (by decide) (by decide) fun r H3 r0 r1 D3 B3 => ?_
      (try ctx_has vcx true_and)
      refine ⟨by omega, by omega, fun q hq => ?_⟩
      have h3 := B3 p _ np.1 np.2 h2
      have nq := D3.ne hq
      have npq : p ≠ q := ne_of_none h3 hq
      refine comp_g wlk_range (fun j ys H4 => ∃ cs : List Nat, ys = cs.map (fun c => V.str ⟨#[c]⟩) ∧ cs.length = j ∧ (∀ c ∈ cs, smallB c = true) ∧ H4 q = some (.lst ys) ∧ H4 p = some (.lst (ws.map V.str)) ∧ DealAt H4 d l ∧ But d l H H4)
        ⟨[], rfl, rfl, by simp, upd_same, by rw [upd_ne npq]; exact h3, D3.new hq, (B2.trans B3).new hq⟩ (fun _ _ _ _ => True.intro) ?_ ?_
      · rintro j x ys H4 hj hx ⟨cs, rfl, hcl, hcs, h4, h4p, D4, B4⟩
        (try ctx_has vcx true_and)
        rw [rngV_length] at hj
        refine draw_rd D4 (by decide) (by decide) fun r5 H5 r50 r51 D5 B5 => ?_
        have h5 := B5 q _ nq.1 nq.2 h4
        have h5p := B5 p _ np.1 np.2 h4p
        refine ⟨r5, rfl, letters_len, _, letters_at r50 r51, h5, by simp; exact small1000 (by omega), cs ++ [97 + r5.toNat], by simp, by simp; omega, fun c hc => ?_, upd_same, by rw [upd_ne npq]; exact h5p, D5.put nq.1 nq.2, (B4.trans B5).put (B2.free D2 ((B3.free D3 hq)))⟩
        rcases List.mem_append.mp hc with z | z
        · exact hcs c z
        · rw [List.mem_singleton.mp z]
          unfold smallB
          rw [Bool.and_eq_true, decide_eq_true_eq, decide_eq_true_eq]
          omega
      · rintro ys H4 ⟨cs, rfl, hcl, hcs, h4, h4p, D4, B4⟩
        rw [rngV_length] at hcl
        (try ctx_has vcx true_and)
        refine ⟨cs.map fun c => ⟨#[c]⟩, by rw [h4]; simp, by rw [sum_ones, show (Str.ofString "").length = 0 by decide +kernel]; omega, ?_⟩
        have hj := join_signs cs
        generalize Txt.join (Str.ofString "") (cs.map fun c => Str.mk #[c]) = wd at hj ⊢
        obtain ⟨c0, cs', rfl⟩ : ∃ c0 cs', cs = c0 :: cs' := by
          cases cs with
          | nil => simp at hcl; omega
          | cons a b => exact ⟨a, b, rfl⟩
        have nwd : IsNm wd := .of hj (hcs c0 (by simp)) (fun x hx => hcs x (by simp [hx])) (by simp at hcl; omega)
        have hwl : ∀ {w : Str}, IsNm w → w.length ≤ sizeLine := fun h => Nat.le_of_lt (small1000 (Nat.le_trans h.le (by decide)))
        have hws : ws.length ≤ 20 := by omega
        have fin : ∀ (wd' : Str) (H5 H6 : Hp), DealAt H5 d l → But d l H H5 → Same H5 H6 → IsNm wd' → wd' ∉ ws → wd' ∉ marks4 → ∃ ws', NamesOk ws' ∧ ws'.length = i + 1 ∧ upd H6 p (HO.lst (ws.map V.str ++ [V.str wd'])) p = some (HO.lst (ws'.map V.str)) ∧ DealAt (upd H6 p (HO.lst (ws.map V.str ++ [V.str wd']))) d l ∧ But d l H (upd H6 p (HO.lst (ws.map V.str ++ [V.str wd']))) :=
          fun wd' H5 H6 D5 B5 sm n f1 f2 => ⟨ws ++ [wd'], ok.snoc n f1 f2, by simp [hlen], by rw [upd_same]; simp, (D5.same sm).put np.1 np.2, (B5.same sm).put hp⟩
        refine ite2 (fun h => ?_) (fun h => ?_)
        · refine draw_rd D4 (by decide) (by decide) fun r5 H5 r50 r51 D5 B5 => ?_
          (try ctx_has vcx true_and)
          have h5 := B5 p _ np.1 np.2 h4p
          refine ite2 (fun h6 => ?_) (fun h6 => ?_)
          · rcases List.eq_nil_or_concat ws with rfl | ⟨ws0, z, rfl⟩
            · simp at hlen; omega
            have nz : IsNm z := ok.nm z (by simp)
            refine ⟨_, h5, _, by rw [List.concat_eq_append, List.map_append]; exact atI_last _ _, z, rfl, hwl nz, ?_⟩
            refine draw_rd D5 (by have := nz.pos; omega) (by have := nz.le; omega) fun r7 H7 r70 r71 D7 B7 => ?_
            have h7 := B7 p _ np.1 np.2 h5
            (try ctx_has vcx true_and h7)
            have hla : atI (List.map V.str (ws0.concat z)) (-1) = some (V.str z) := by rw [List.concat_eq_append, List.map_append]; exact atI_last _ _
            have l1 := Txt.slice_le z none (some r7)
            have l2 := Txt.slice_le z (some (r7 + 1)) none
            have l3 := nz.le
            refine ⟨_, hla, z, rfl, hwl nz, hwl nwd, c0, by rw [hj]; exact atI_zero _ _, Nat.le_of_lt (small1000 (by show _ + 1 ≤ 1000; omega)), _, hla, z, rfl, hwl nz, Nat.le_of_lt (small1000 (by rw [str_len_append]; show _ + 1 + _ ≤ 1000; omega)), ?_⟩
            refine names_while (edit_nm nz (hcs c0 (by simp)) r70 r71) hws h7 fun wd' H8 n f1 f2 sm => ?_
            have h8 := sm _ _ h7
            (try ctx_has vcx true_and h8)
            exact ⟨by simp only [List.length_map]; exact small1000 (by omega), fin wd' H7 H8 D7 ((B4.trans B5).trans B7) sm n f1 f2⟩
          · refine names_while nwd hws h5 fun wd' H6 n f1 f2 sm => ?_
            have h6 := sm _ _ h5
            (try ctx_has vcx true_and h6)
            exact ⟨by simp; exact small1000 (by omega), fin wd' H5 H6 D5 (B4.trans B5) sm n f1 f2⟩
        · refine names_while nwd hws h4p fun wd' H6 n f1 f2 sm => ?_
          have h6 := sm _ _ h4p
          (try ctx_has vcx true_and h6)
          exact ⟨by simp; exact small1000 (by omega), fin wd' H4 H6 D4 B4 sm n f1 f2⟩
    · rintro σ H2 ⟨ws, vk, vw, vp, rfl, ok, hlen, h2, D2, B2⟩
      (try ctx_has vcx true_and)
      rw [rngV_length] at hlen
      exact k p ws H2 hp ok hlen h2 D2 B2
theorem ok__law_pool {P : Program} {w : World} {K : PySem.W.Frag} {mg : Str → Option Value} {base : Heap}  (T : Txt K mg) (L : FnL K mg "_law_pool" s__law_pool ["_law_deal_here"]) (F_law_draw : Fn P w K mg base "_law_draw" 1 ["_law_deal_here", "_law_many"] (spDraw)) : Fn P w K mg base "_law_pool" 2 ["_law_deal_here"] (spPool5) := by
  have nd := sc__law_pool.nd
  refine L.ok sc__law_pool (fun vs H Q E h => ?_) (fun f cdv A outer s H vs Q E hr h => ?_)
  · obtain ⟨d, l, rfl, D, k⟩ := h
    rfl
  · obtain ⟨d, l, rfl, D, k⟩ := h
    have hu := hu_of hr
    refine ⟨_, (pss_cons (ps_set (i := 1) nd rfl (by first | exact Or.inl rfl | exact Or.inr rfl) (pe_op op_sub (pe_callF F_law_draw (hr.mono (by first | decide | omega)) rfl (pa_cons (pvM 0) (pa_cons pe_int pa_nil))) pe_int))
      (pss_cons (ps_if (pt_cmpR op_eq (pe_callF F_law_draw (hr.mono (by first | decide | omega)) rfl (pa_cons (pvM 0) (pa_cons pe_int pa_nil))) pe_int (nomark _)) (pss_one (ps_set (i := 1) nd rfl (by first | exact Or.inl rfl | exact Or.inr rfl) (pe_op op_sub (pe_callF F_law_draw (hr.mono (by first | decide | omega)) rfl (pa_cons (pvM 0) (pa_cons pe_int pa_nil))) pe_int))) pss_nil)
      (pss_cons (ps_set (i := 2) nd rfl (by first | exact Or.inl rfl | exact Or.inr rfl) (pe_lst pa_nil))
      (pss_cons (ps_for PassesOwn.never rfl (pi_range1 rfl T.b_range (pa_cons pe_int pa_nil)) (pg_name (i := 3) nd rfl (by first | exact Or.inl rfl | exact Or.inr rfl)) (pss_cons (ps_expr (pe_mL PySem.F.slot_list_append PySem.F.type_list_append ml_append (pvM 2) (pa_cons (pvM 1) pa_nil)))
      (pss_one (ps_set (i := 1) nd rfl (by first | exact Or.inl rfl | exact Or.inr rfl) (pe_op op_add (pe_op op_add (pvM 1) pe_int) (pe_ix ix_L (pe_lst (pa_cons pe_int (pa_cons (pe_callF F_law_draw (hr.mono (by first | decide | omega)) rfl (pa_cons (pvM 0) (pa_cons pe_int pa_nil))) (pa_cons pe_int pa_nil)))) (pe_callF F_law_draw (hr.mono (by first | decide | omega)) rfl (pa_cons (pvM 0) (pa_cons pe_int pa_nil))) (fun _ _ => rfl)))))))
      (pss_one (ps_ret (pvM 2))))))), ?_⟩
    (try ctx_has vcx true_and)
    refine draw_rd D (by decide) (by decide) fun r H1 r0 r1 D1 B1 => ?_
    (try ctx_has vcx true_and)
    refine draw_rd D1 (by decide) (by decide) fun r2 H2 r20 r21 D2 B2 => ?_
    (try ctx_has vcx true_and)
    refine ite2 (fun h => ?_) (fun h => ?_)
    · refine draw_rd D2 (by decide) (by decide) fun r3 H3 r30 r31 D3 B3 => ?_
      have B3 := (B1.trans B2).trans B3
      refine ⟨_, rfl, by decide, fun p hp => ?_⟩
      have np := D3.ne hp
      have fp : H p = none := B3.free D3 hp
      refine ⟨by decide, by decide, ?_⟩
      refine for_g wlk_range (fun i σ H' => ∃ (ns : List Int) (low : Int) (vk : Option V), σ = [some (.ref d), some (.int low), some (.ref p), vk] ∧ ns.length = i ∧ ns.Pairwise (· < ·) ∧ (∀ x ∈ ns, x < low ∧ -1000000 ≤ x ∧ x ≤ 1000000) ∧ -999500 ≤ low ∧ low ≤ 999500 + 98 * (i : Int) ∧ H' p = some (.lst (ns.map V.int)) ∧ DealAt H' d l ∧ But d l H H')
        ⟨[], _, _, rfl, rfl, .nil, by simp, by omega, by omega, upd_same, D3.new hp, B3.new hp⟩ (fun _ _ _ _ => True.intro) ?_ ?_
      · rintro i x σ H2 hi hx ⟨ns, low, vk, rfl, hlen, hpw, hall, lo0, lo1, h2, D2, B2⟩
        rw [rngV_length] at hi
        have hi5 : i < 5 := hi
        (try ctx_has vcx true_and h2)
        refine ⟨by rw [List.length_map]; exact small1000 (by omega), ?_⟩
        refine draw_rd (D2.put np.1 np.2) (by decide) (by decide) fun r3 H3 r30 r31 D3 B3 => ?_
        refine ⟨by decide, fun p2 hp2 => ?_⟩
        refine draw_of D3 hp2 (by decide) (by decide) rfl fun r5 v H5 hv ha D5 B5 h5 => ?_
        have h5p := B5 p _ np.1 np.2 (B3 p _ np.1 np.2 upd_same)
        obtain ⟨y, rfl, y0, y1⟩ : ∃ y : Int, v = .int y ∧ 0 ≤ y ∧ y ≤ 97 := by
          simp only [List.mem_cons, List.not_mem_nil, or_false] at hv
          rcases hv with rfl | rfl | rfl
          · exact ⟨0, rfl, by decide, by decide⟩
          · exact ⟨r3, rfl, r30, by omega⟩
          · exact ⟨97, rfl, by decide, by decide⟩
        (try ctx_has vcx true_and h5 ha)
        refine ⟨ns ++ [low], by simp; omega, ?_, fun z hz => ?_, by omega, by omega, by rw [h5p]; simp, D5, ((B2.put fp).trans B3).trans B5⟩
        · rw [List.pairwise_append]
          exact ⟨hpw, List.pairwise_singleton _ _, fun x hx y hy => by rw [List.mem_singleton.mp hy]; exact (hall x hx).1⟩
        · rcases List.mem_append.mp hz with q | q
          · have := hall z q; omega
          · rw [List.mem_singleton.mp q]; omega
      · rintro σ H2 ⟨ns, low, vk, rfl, hlen, hpw, hall, lo0, lo1, h2, D2, B2⟩
        rw [rngV_length] at hlen
        (try ctx_has vcx true_and)
        exact k p ns H2 fp hlen hpw (fun x hx => (hall x hx).2) h2 D2 B2
    · have B2 := B1.trans B2
      refine ⟨by decide, fun p hp => ?_⟩
      have np := D2.ne hp
      have fp : H p = none := B2.free D2 hp
      refine ⟨by decide, by decide, ?_⟩
      refine for_g wlk_range (fun i σ H' => ∃ (ns : List Int) (low : Int) (vk : Option V), σ = [some (.ref d), some (.int low), some (.ref p), vk] ∧ ns.length = i ∧ ns.Pairwise (· < ·) ∧ (∀ x ∈ ns, x < low ∧ -1000000 ≤ x ∧ x ≤ 1000000) ∧ -999500 ≤ low ∧ low ≤ 999500 + 98 * (i : Int) ∧ H' p = some (.lst (ns.map V.int)) ∧ DealAt H' d l ∧ But d l H H')
        ⟨[], _, _, rfl, rfl, .nil, by simp, by omega, by omega, upd_same, D2.new hp, B2.new hp⟩ (fun _ _ _ _ => True.intro) ?_ ?_
      · rintro i x σ H2 hi hx ⟨ns, low, vk, rfl, hlen, hpw, hall, lo0, lo1, h2, D2, B2⟩
        rw [rngV_length] at hi
        have hi5 : i < 5 := hi
        (try ctx_has vcx true_and h2)
        refine ⟨by rw [List.length_map]; exact small1000 (by omega), ?_⟩
        refine draw_rd (D2.put np.1 np.2) (by decide) (by decide) fun r3 H3 r30 r31 D3 B3 => ?_
        refine ⟨by decide, fun p2 hp2 => ?_⟩
        refine draw_of D3 hp2 (by decide) (by decide) rfl fun r5 v H5 hv ha D5 B5 h5 => ?_
        have h5p := B5 p _ np.1 np.2 (B3 p _ np.1 np.2 upd_same)
        obtain ⟨y, rfl, y0, y1⟩ : ∃ y : Int, v = .int y ∧ 0 ≤ y ∧ y ≤ 97 := by
          simp only [List.mem_cons, List.not_mem_nil, or_false] at hv
          rcases hv with rfl | rfl | rfl
          · exact ⟨0, rfl, by decide, by decide⟩
          · exact ⟨r3, rfl, r30, by omega⟩
          · exact ⟨97, rfl, by decide, by decide⟩
        (try ctx_has vcx true_and h5 ha)
        refine ⟨ns ++ [low], by simp; omega, ?_, fun z hz => ?_, by omega, by omega, by rw [h5p]; simp, D5, ((B2.put fp).trans B3).trans B5⟩
        · rw [List.pairwise_append]
          exact ⟨hpw, List.pairwise_singleton _ _, fun x hx y hy => by rw [List.mem_singleton.mp hy]; exact (hall x hx).1⟩
        · rcases List.mem_append.mp hz with q | q
          · have := hall z q; omega
          · rw [List.mem_singleton.mp q]; omega
      · rintro σ H2 ⟨ns, low, vk, rfl, hlen, hpw, hall, lo0, lo1, h2, D2, B2⟩
        rw [rngV_length] at hlen
        (try ctx_has vcx true_and)
        exact k p ns H2 fp hlen hpw (fun x hx => (hall x hx).2) h2 D2 B2
theorem ok__law_rooms {P : Program} {w : World} {K : PySem.W.Frag} {mg : Str → Option Value} {base : Heap}  (T : Txt K mg) (L : FnL K mg "_law_rooms" s__law_rooms ["_law_deal_here", "_law_names_here", "_law_pool_here", "_law_most"]) (F_law_draw : Fn P w K mg base "_law_draw" 1 ["_law_deal_here", "_law_many"] (spDraw)) : Fn P w K mg base "_law_rooms" 2 ["_law_deal_here", "_law_names_here", "_law_pool_here", "_law_most"] (spRoomsP) := by
  have nd := sc__law_rooms.nd
  refine L.ok sc__law_rooms (fun vs H Q E h => ?_) (fun f cdv A outer s H vs Q E hr h => ?_)
  · obtain ⟨d, l, a, p, ws, ns, m, rfl, D, na, np, ha, hwl, hp, hn5, hnp, m0, m1, k⟩ := h
    rfl
  · obtain ⟨d, l, a, p, ws, ns, m, rfl, D, na, np, ha, hwl, hp, hn5, hnp, m0, m1, k⟩ := h
    have hu := hu_of hr
    refine ⟨_, (pss_cons (ps_set (i := 4) nd rfl (by first | exact Or.inl rfl | exact Or.inr rfl) pe_dnewK)
      (pss_cons (ps_for PassesOwn.never rfl (pi_LK (K := K) rfl (pvM 1)) (pg_name (i := 5) nd rfl (by first | exact Or.inl rfl | exact Or.inr rfl)) (pss_cons (ps_setC (i := 6) (N := ["_law_value", "_law_deal_here"]) (nt := 1) (js := [0]) nd rfl (by first | exact Or.inl rfl | exact Or.inr rfl) rfl (compOk_of ["_law_deal_here", "_law_names_here", "_law_pool_here", "_law_most", "_law_rooms_here", "_law_name", "_law_some"] (defScope s__law_rooms).names rfl rfl rfl (by decide +kernel)) (pi_LK (K := K) rfl (pvM 2)) (fun _ _ _ _ _ _ => (pg_name (i := 0) (show List.Nodup [("_law_value" : Str), ("_law_deal_here" : Str)] by decide +kernel) rfl (Or.inl rfl))) (tgOk_name (by decide)) (fun _ _ _ _ _ _ => pts_one (pt_cmpR op_eq (pe_callF F_law_draw (hr.mono (by first | decide | omega)) rfl (pa_cons (pvM 1) (pa_cons pe_int pa_nil))) pe_int (nomark _))) (fun _ _ _ _ _ _ => (pvM 0)))
      (pss_cons (ps_dp hu (pvM 4) (pvM 5) (pe_callTy call_tupL rfl T.b_tuple (show bootBuiltins "tuple" = some (.type "tuple") by decide +kernel) (pa_cons (pe_slice sl_L (pvM 6) po_none (po_some (pvM 3))) pa_nil)) rfl)
      (pss_one (ps_if (pt_cmpR (op_eqD (hu100 hr)) (pvM 6) (pe_lst pa_nil) (nomark _)) (pss_one (ps_dp hu (pvM 4) (pvM 5) (pe_tup (pa_cons (pe_ix ix_L (pvM 2) (pe_callF F_law_draw (hr.mono (by first | decide | omega)) rfl (pa_cons (pvM 0) (pa_cons pe_int pa_nil))) (fun _ _ => rfl)) pa_nil)) rfl)) pss_nil)))))
      (pss_one (ps_ret (pvM 4))))), ?_⟩
    (try ctx_has vcx true_and)
    intro q hq
    have nq := D.ne hq
    have aq : a ≠ q := ne_of_none ha hq
    have pq : p ≠ q := ne_of_none hp hq
    refine ⟨_, by rw [upd_ne aq]; exact ha, ?_⟩
    refine for_g wlk_list (fun i σ H' => ∃ (kvs : List (Key × V)) (rm : Str → List Int) (v5 v6 : Option V), σ = [some (.ref d), some (.ref a), some (.ref p), some (.int m), some (.ref q), v5, v6] ∧ H' q = some (.dK kvs) ∧ RoomsFor H' kvs (ws.take i) rm ∧
        (∀ c ∈ ws.take i, rm c ≠ [] ∧ ((rm c).length : Int) ≤ m ∧ (rm c).Pairwise (· < ·) ∧ ∀ v ∈ rm c, v ∈ ns) ∧ (∀ x ∈ kvs, plainV x.2 = true) ∧ (kvs.length ≤ 2 * i ∧ KeysIn kvs (ws.take i)) ∧ H' a = some (.lst (ws.map V.str)) ∧ H' p = some (.lst (ns.map V.int)) ∧ DealAt H' d l ∧ But d l H H')
      ⟨[], fun _ => [], _, _, rfl, upd_same, fun c hc => by simp at hc, fun c hc => by simp at hc, by simp, ⟨Nat.zero_le _, by simp, fun x hx => by simp at hx⟩, by rw [upd_ne aq]; exact ha, by rw [upd_ne pq]; exact hp, D.new hq, (But.refl H).new hq⟩ (fun i σ H' zq37 => by obtain ⟨_, _, _, _, _, _, _, _, _, _, h, _⟩ := zq37; exact (.of h)) ?_ ?_
    · rintro i x σ H2 hi hx ⟨kvs, rm, v5, v6, rfl, h2, hrf, hgd, hpl, ⟨hkl, hki⟩, h2a, h2p, D2, B2⟩
      rw [List.length_map] at hi
      obtain ⟨c, hcx, rfl⟩ : ∃ c, ws[i]? = some c ∧ V.str c = x := by
        rw [List.getElem?_map] at hx
        cases e : ws[i]? with
        | none => rw [e] at hx; cases hx
        | some nm => rw [e] at hx; exact ⟨nm, rfl, Option.some.inj hx⟩
      have etk : ws.take (i + 1) = ws.take i ++ [c] := by rw [List.take_add_one, hcx]; rfl
      have hsub : ∀ x ∈ ws.take (i + 1), x = c ∨ x ∈ ws.take i := fun x hx => by
        rw [etk] at hx
        rcases List.mem_append.mp hx with z | z
        · exact .inr z
        · exact .inl (List.mem_singleton.mp z)
      (try ctx_has vcx true_and h2p)
      intro g hg
      have ng := D2.ne hg
      have fg : H g = none := B2.free D2 hg
      refine comp_g wlk_list (fun j ys H5 => ∃ got : List Int, ys = got.map V.int ∧ got.Sublist (ns.take j) ∧ H5 g = some (.lst ys) ∧ H5 p = some (.lst (ns.map V.int)) ∧ (∀ b o, b ≠ d → b ≠ l → H2 b = some o → H5 b = some o) ∧ DealAt H5 d l)
        ⟨[], rfl, by simp, upd_same, by rw [upd_ne (ne_of_none h2p hg)]; exact h2p, fun b o _ _ e => by rw [upd_ne (ne_of_none e hg)]; exact e, D2.new hg⟩ (fun j ys H5 zq38 => by obtain ⟨_, _, _, _, h, _⟩ := zq38; exact (.of h)) ?_ ?_
      · rintro j y ys H5 hj hy ⟨got, rfl, hgs, h5g, h5p, k5, D5⟩
        rw [List.length_map] at hj
        obtain ⟨z, hz, rfl⟩ : ∃ z, ns[j]? = some z ∧ V.int z = y := by
          rw [List.getElem?_map] at hy
          cases e : ns[j]? with
          | none => rw [e] at hy; cases hy
          | some nm => rw [e] at hy; exact ⟨nm, rfl, Option.some.inj hy⟩
        have en : ns.take (j + 1) = ns.take j ++ [z] := by rw [List.take_add_one, hz]; rfl
        have hgl : got.length ≤ 5 := Nat.le_trans hgs.length_le (by simp; omega)
        (try ctx_has vcx true_and)
        refine draw_rd D5 (by decide) (by decide) fun r6 H6 r60 r61 D6 B6 => ?_
        have h6g := B6 g _ ng.1 ng.2 h5g
        have h6p := B6 p _ np.1 np.2 h5p
        (try ctx_has vcx true_and)
        refine ite2 (fun hr1 => ?_) (fun hr1 => ?_)
        · refine ⟨h6g, by rw [List.length_map]; exact small1000 (by omega), got ++ [z], by simp, by rw [en]; exact hgs.append_right [z], upd_same, by rw [upd_ne (ne_of_none h2p hg)]; exact h6p, fun b o h1 h2 e => by rw [upd_ne (ne_of_none e hg)]; exact B6 b o h1 h2 (k5 b o h1 h2 e), D6.put ng.1 ng.2⟩
        · exact ⟨got, rfl, by rw [en]; exact hgs.trans (List.sublist_append_left _ _), h6g, h6p, fun b o h1 h2 e => B6 b o h1 h2 (k5 b o h1 h2 e), D6⟩
      · rintro ys H5 ⟨got, rfl, hgs, h5g, h5p, k5, D5⟩
        rw [List.length_map] at hgs
        rw [List.take_length] at hgs
        (try ctx_has vcx true_and h5g)
        intro u hu1
        refine ⟨_, upd_same, fun t ht => ?_⟩
        obtain ⟨mn, rfl⟩ := Int.eq_ofNat_of_zero_le (show 0 ≤ m by omega)
        rw [cut_map] at ht ⊢
        have ut : u ≠ t := by rintro rfl; rw [upd_same] at ht; cases ht
        have ht5 : H5 t = none := by rwa [upd_ne ut.symm] at ht
        have s5 : Same H5 (upd (upd H5 u (.lst ((got.take mn).map V.int))) t (.tup ((got.take mn).map V.int))) := (Same.upd0 hu1).upd_new ht
        have h5q := k5 q _ nq.1 nq.2 h2
        have h5a := k5 a _ na.1 na.2 h2a
        refine ⟨kvs, s5 _ _ h5q, small1000 (by omega), ?_⟩
        have tq : t ≠ q := (ne_of_none h5q ht5).symm
        have ktup : ∀ b vs, H2 b = some (.tup vs) → upd (upd (upd H5 u (.lst ((got.take mn).map V.int))) t (.tup ((got.take mn).map V.int))) q (.dK (putK kvs (Sum.inr c) (.ref t))) b = some (.tup vs) := fun b vs e => by
          obtain ⟨m', sd, n', xs', hd', hl', _⟩ := D2.ex
          rw [upd_ne (ne_of e h2 (by intro z; cases z))]
          exact s5 _ _ (k5 b _ (ne_of e hd' (by intro z; cases z)) (ne_of e hl' (by intro z; cases z)) e)
        have hq6 : ∀ b o, b ≠ q → H5 b = some o → upd (upd (upd H5 u (.lst ((got.take mn).map V.int))) t (.tup ((got.take mn).map V.int))) q (.dK (putK kvs (Sum.inr c) (.ref t))) b = some o := fun b o hb e => by rw [upd_ne hb]; exact s5 _ _ e
        have gq : g ≠ q := (ne_of_none h2 hg).symm
        have h6g := hq6 g _ gq h5g
        have h6a := hq6 a _ aq h5a
        have h6p := hq6 p _ pq h5p
        have D6 := (D5.same s5).put (o := .dK (putK kvs (Sum.inr c) (.ref t))) nq.1 nq.2
        have B5 : But d l H H5 := fun b o h1 h2 e => k5 b o h1 h2 (B2 b o h1 h2 e)
        have B6 := (B5.same s5).put (o := .dK (putK kvs (Sum.inr c) (.ref t))) hq
        have r6 : RoomsFor (upd (upd (upd H5 u (.lst ((got.take mn).map V.int))) t (.tup ((got.take mn).map V.int))) q (.dK (putK kvs (Sum.inr c) (.ref t)))) (putK kvs (Sum.inr c) (.ref t)) (ws.take (i + 1)) (setF rm c (got.take mn)) := hrf.putG ktup (by rw [upd_ne tq]; exact upd_same) hsub
        have h6q : upd (upd (upd H5 u (.lst ((got.take mn).map V.int))) t (.tup ((got.take mn).map V.int))) q (.dK (putK kvs (Sum.inr c) (.ref t))) q = some (.dK (putK kvs (Sum.inr c) (.ref t))) := upd_same
        have hk6 := length_putK kvs (Sum.inr c) (.ref t)
        have hsub2 : ∀ x ∈ ws.take i, x ∈ ws.take (i + 1) := fun x hx => by rw [etk]; exact List.mem_append_left _ hx
        have hcin : c ∈ ws.take (i + 1) := by rw [etk]; simp
        have hki6 : KeysIn (putK kvs (Sum.inr c) (V.ref t)) (ws.take (i + 1)) := hki.put hcin hsub2
        have pl6 := plain_put (k := Sum.inr c) (v := V.ref t) hpl rfl
        generalize hH6 : upd (upd (upd H5 u (.lst ((got.take mn).map V.int))) t (.tup ((got.take mn).map V.int))) q (.dK (putK kvs (Sum.inr c) (.ref t))) = H6 at h6g h6a h6p D6 B6 r6 h6q ⊢
        generalize putK kvs (Sum.inr c) (.ref t) = kv6 at r6 h6q hk6 hki6 pl6 ⊢
        refine ⟨by decide, fun e0 he0 => ?_⟩
        have s7 : Same H6 (upd H6 e0 (.lst [])) := Same.upd0 he0
        refine ⟨.list (got.map PyData.int), .list [], .lst (.of (s7 _ _ h6g)) (Reps.ints got), .lst (.of upd_same) .nil, by unfold PyData.canLay0; exact lay_ints got, rfl, by unfold PyData.depth; rw [depth_ints]; decide, ?_⟩
        rw [eq_nil_ints]
        have D7 := D6.new (o := .lst []) he0
        have B7 := B6.new (o := .lst []) he0
        refine ⟨_, rfl, ite2 (fun hg0 => ?_) (fun hg0 => ?_)⟩
        · refine draw_rd D7 (by decide) (by decide) fun r8 H8 r80 r81 D8 B8 => ?_
          obtain ⟨z, hz1, hz2⟩ := atI_mem (xs := ns) r80 (by omega)
          have hzV : atI (ns.map V.int) r8 = some (V.int z) := by
            obtain ⟨n, rfl⟩ := Int.eq_ofNat_of_zero_le r80
            have hn : n < ns.length := by omega
            have e1 : ns[n]? = some z := by
              have := atI_nat (xs := ns) (j := n) (v := ns[n]) (by simp)
              rw [this] at hz1
              rw [← hz1]; simp
            exact atI_nat (by rw [List.getElem?_map, e1]; rfl)
          refine ⟨r8, rfl, _, B8 p _ np.1 np.2 (s7 _ _ h6p), _, hzV, by decide, fun t2 ht2 => ?_⟩
          have h8q := B8 q _ nq.1 nq.2 (s7 _ _ h6q)
          have q2 : t2 ≠ q := (ne_of_none h8q ht2).symm
          have s9 : Same H8 (upd H8 t2 (.tup [V.int z])) := Same.upd0 ht2
          refine ⟨kv6, s9 _ _ h8q, small1000 (by omega), ?_⟩
          have kt : ∀ b vs, H6 b = some (.tup vs) → upd (upd H8 t2 (.tup [V.int z])) q (.dK (putK kv6 (Sum.inr c) (.ref t2))) b = some (.tup vs) := fun b vs e => by
            rw [upd_ne (ne_of e h6q (by intro z; cases z))]
            obtain ⟨m', sd, n', xs', hd', hl', _⟩ := D6.ex
            exact s9 _ _ (B8 b _ (ne_of e hd' (by intro z; cases z)) (ne_of e hl' (by intro z; cases z)) (s7 _ _ e))
          refine ⟨_, upd_same, setF (setF rm c (got.take mn)) c [z], r6.putG (ns := [z]) kt (by rw [upd_ne q2]; exact upd_same) (fun x hx => .inr hx), fun x hx => ?_, plain_put pl6 rfl, Nat.le_trans (length_putK _ _ _) (by omega), hki6.put hcin fun _ h => h, ?_, ?_, (D8.new ht2).put nq.1 nq.2, ((B7.trans B8).new ht2).put hq⟩
          · by_cases e : x = c
            · subst e
              unfold setF
              rw [if_pos rfl]
              exact ⟨by simp, by simp; omega, by simp, fun v hv => by rw [List.mem_singleton.mp hv]; exact hz2⟩
            · unfold setF
              rw [if_neg e, if_neg e]
              exact hgd x ((hsub x hx).resolve_left e)
          · rw [upd_ne aq]; exact s9 _ _ (B8 a _ na.1 na.2 (s7 _ _ h6a))
          · rw [upd_ne pq]; exact s9 _ _ (B8 p _ np.1 np.2 (s7 _ _ h6p))
        · refine ⟨_, s7 _ _ h6q, setF rm c (got.take mn), r6.same (fun a vs e => s7 _ _ e), fun x hx => ?_, pl6, by omega, hki6, s7 _ _ h6a, s7 _ _ h6p, D7, B7⟩
          by_cases e : x = c
          · subst e
            unfold setF
            rw [if_pos rfl]
            have hne : got ≠ [] := by simpa using hg0
            refine ⟨?_, by simp; omega, ?_, fun v hv => hgs.subset (List.mem_of_mem_take hv)⟩
            · cases got with
              | nil => exact absurd rfl hne
              | cons y ys =>
                obtain ⟨k', rfl⟩ : ∃ k', mn = k' + 1 := ⟨mn - 1, by omega⟩
                simp
            · exact (hnp.sublist hgs).sublist (List.take_sublist _ _)
          · unfold setF
            rw [if_neg e]
            exact hgd x ((hsub x hx).resolve_left e)
    · rintro σ H2 ⟨kvs, rm, v5, v6, rfl, h2, hrf, hgd, hpl, ⟨hkl, hki⟩, h2a, h2p, D2, B2⟩
      rw [List.length_map, List.take_length] at hrf hgd
      rw [List.length_map] at hkl
      rw [List.length_map, List.take_length] at hki
      (try ctx_has vcx true_and)
      exact k q kvs rm H2 hq h2 hrf hgd hpl ⟨hkl, hki⟩ D2 B2
noncomputable def spLaw (K : PySem.W.Frag) : Sp := fun vs H Q _ => ∃ (a : Addr) (ns : List Int), vs = [.ref a] ∧ SqL K H a (ns.map V.int) ∧ ns.length ≤ 63 ∧ ∀ H', Q (.bl true) H'
noncomputable def nameOf : Key → Str | .inr c => c | .inl _ => ""
theorem keysIn_names {kvs : List (Key × V)} {ws : List Str} (h : KeysIn kvs ws) : kvs.map (·.1) = (kvs.map fun x => nameOf x.1).map Sum.inr ∧ (kvs.map fun x => nameOf x.1).Nodup ∧ ∀ c ∈ kvs.map fun x => nameOf x.1, c ∈ ws := by
  have e : kvs.map (·.1) = (kvs.map fun x => nameOf x.1).map Sum.inr := by
    rw [List.map_map]
    refine List.map_congr_left fun x hx => ?_
    obtain ⟨c, _, ec⟩ := h.2 x hx
    show x.1 = Sum.inr (nameOf x.1)
    rw [ec]
    rfl
  refine ⟨e, ?_, fun c hc => ?_⟩
  · have := h.1
    rw [e] at this
    exact (List.pairwise_map.mp this).imp fun hne z => hne (by rw [z])
  · obtain ⟨x, hx, rfl⟩ := List.mem_map.mp hc
    obtain ⟨c, hc, ec⟩ := h.2 x hx
    rw [ec]
    exact hc
theorem names_all {H : Hp} {kvs : List (Key × V)} {ws : List Str} {rm : Str → List Int} (hrf : RoomsFor H kvs ws rm) {c : Str} (hc : c ∈ ws) : c ∈ kvs.map fun x => nameOf x.1 := by
  obtain ⟨a, ha, _⟩ := hrf c hc
  unfold valV at ha
  obtain ⟨x, hx, _⟩ := Option.map_eq_some_iff.mp ha
  exact List.mem_map.mpr ⟨x, List.mem_of_find?_eq_some hx, by
    have := List.find?_some hx
    rw [of_decide_eq_true this]
    rfl⟩
theorem rooms_K {H : Hp} {kvs : List (Key × V)} {ws : List Str} {rm : Str → List Int} (h : KeysIn kvs ws) (hrf : RoomsFor H kvs ws rm) : RoomsK H kvs rm := fun x hx => by
  obtain ⟨c, hc, ec⟩ := h.2 x hx
  obtain ⟨a, ha, ht⟩ := hrf c hc
  have := valV_mem h.1 (show (Sum.inr c, x.2) ∈ kvs by rw [← ec]; exact hx)
  rw [ha] at this
  exact ⟨c, a, by rw [← ec]; exact Prod.ext rfl (Option.some.inj this).symm, ht⟩
theorem K_rooms {H : Hp} {kvs : List (Key × V)} {cs ws : List Str} {rm : Str → List Int} (hks : kvs.map (·.1) = cs.map Sum.inr) (hcn : cs.Nodup) (hrk : RoomsK H kvs rm) (h : ∀ c ∈ ws, c ∈ cs) : RoomsFor H kvs ws rm := fun c hc => room_at hks hcn hrk (h c hc)
theorem name_strOk {w : Str} (h : IsNm w) : PyData.strOk w = true := by
  unfold PyData.strOk
  rw [Array.all_eq_true']
  intro c hc
  have := h.small c (by simpa using hc)
  unfold smallB at this
  simp at this ⊢
  omega
theorem sizeR_le {cs : List Str} {rm : Str → List Int} {m : Nat} (h : ∀ c ∈ cs, (rm c).length ≤ m) : sizeR cs rm ≤ m * cs.length := by
  induction cs with
  | nil => simp [sizeR]
  | cons x xs ih =>
    have h1 := h x (by simp)
    have h2 := ih fun c hc => h c (by simp [hc])
    unfold sizeR at h2 ⊢
    simp only [List.map_cons, List.sum_cons, List.length_cons, Nat.mul_succ]
    omega
theorem unitU_le {cs : List Str} {cls : List (List L3)} {rm : Str → List Int} {m : Nat} (h : ∀ c ∈ cls, c.length ≤ m) : (unitU cs cls rm).length ≤ m * cls.length + 2 * sizeR cs rm := by
  have h1 : (cls.flatMap id).length ≤ m * cls.length := by
    induction cls with
    | nil => simp
    | cons x xs ih =>
      have a1 := h x (by simp)
      have a2 := ih fun c hc => h c (by simp [hc])
      simp only [List.flatMap_cons, List.length_append, id_eq, List.length_cons, Nat.mul_succ]
      omega
  have h2 : (cs.flatMap (fun c => (rm c).flatMap fun v => [((c, Str.ofString "is", v) : L3), (c, Str.ofString "not", v)])).length = 2 * sizeR cs rm := by
    induction cs with
    | nil => rfl
    | cons x xs ih =>
      have a3 : ∀ ns : List Int, (ns.flatMap fun v => [((x, Str.ofString "is", v) : L3), (x, Str.ofString "not", v)]).length = 2 * ns.length := fun ns => by
        induction ns with
        | nil => rfl
        | cons n ns ihn => simp only [List.flatMap_cons, List.length_append, List.length_cons, List.length_nil]; omega
      rw [List.flatMap_cons, List.length_append, a3, ih]
      unfold sizeR
      simp only [List.map_cons, List.sum_cons]
      omega
  unfold unitU
  rw [List.length_append]
  omega
theorem keeps_iff {cs ws : List Str} {cls : List (List L3)} {rm r' : Str → List Int} (h : ∀ c, c ∈ cs ↔ c ∈ ws) : keepsR cs cls rm r' ↔ keepsR ws cls rm r' := by
  unfold keepsR goodR subR
  simp only [h]
theorem by_rd {mg : Str → Option Value} {H : Hp} {r c : Addr} {ws : List Str} {kvs : List (Key × V)} {rm : Str → List Int} {us : List V} {cls : List (List L3)} {Q : VK} {E : XK} (hki : KeysIn kvs ws) (hkl : kvs.length ≤ 45) (hrd : H r = some (.dK kvs)) (hrf : RoomsFor H kvs ws rm) (hgd : ∀ c ∈ ws, rm c ≠ [] ∧ (rm c).length ≤ 10 ∧ (rm c).Nodup) (hwo : ∀ w ∈ ws, PyData.strOk w = true)
    (hc : H c = some (.lst us)) (hC : ClsAt H us cls) (hcl : cls.length ≤ 200) (hco : ∀ c ∈ cls, c.length ≤ 40 ∧ clOk ws c)
    (k0 : (∀ r', ¬ keepsR ws cls rm r') → ∀ H', Same H H' → Q .non H') (k1 : ∀ q kv' rm' H', H q = none → H' q = some (.dK kv') → kv'.map (·.1) = kvs.map (·.1) → KeysIn kv' ws → RoomsFor H' kv' ws rm' → LeftBy ws cls rm rm' → Same H H' → Q (.ref q) H') : spBy mg [.ref r, .ref c] H Q E := by
  obtain ⟨hks, hcn, hcw⟩ := keysIn_names hki
  have hiff : ∀ c, c ∈ (kvs.map fun x => nameOf x.1) ↔ c ∈ ws := fun c => ⟨hcw c, names_all hrf⟩
  have hsz : sizeR (kvs.map fun x => nameOf x.1) rm ≤ 450 := by
    have := sizeR_le (cs := kvs.map fun x => nameOf x.1) (rm := rm) (m := 10) fun c hc => (hgd c (hcw c hc)).2.1
    rw [List.length_map] at this
    omega
  refine ⟨r, c, _, kvs, rm, us, cls, rfl, hrd, hks, rooms_K hki hrf, fun c hc => ⟨(hgd c (hcw c hc)).1, (hgd c (hcw c hc)).2.2⟩, hcn, by rw [List.length_map]; omega, by omega, fun c hc => hwo c (hcw c hc), hc, hC, by omega, fun x hx => ⟨(hco x hx).2.1, by have := (hco x hx).1; omega, fun l hl => ⟨⟨(hiff _).mpr ((hco x hx).2.2 l hl).1, ((hco x hx).2.2 l hl).2.1⟩, ((hco x hx).2.2 l hl).2.2⟩⟩, ?_, fun h => k0 fun r' hr' => h r' ((keeps_iff hiff).mpr hr'), fun q kv' rm' H' h1 h2 h3 h4 h5 h6 => ?_⟩
  · have := unitU_le (cs := kvs.map fun x => nameOf x.1) (rm := rm) fun x hx => (hco x hx).1
    omega
  · refine k1 q kv' rm' H' h1 h2 h3 ⟨by rw [h3]; exact hki.1, fun x hx => ?_⟩ (K_rooms (h3.trans hks) hcn h4 fun c hc => (hiff c).mpr hc) ⟨fun c hc => h5.gd c ((hiff c).mpr hc), fun c hc => h5.sl c ((hiff c).mpr hc), h5.cl, fun r' hr' => ?_⟩ h6
    · have : x.1 ∈ kv'.map (·.1) := List.mem_map.mpr ⟨x, hx, rfl⟩
      rw [h3] at this
      obtain ⟨y, hy, e⟩ := List.mem_map.mp this
      obtain ⟨c', hc', ec⟩ := hki.2 y hy
      exact ⟨c', hc', by rw [← e]; exact ec⟩
    · have := h5.top r' ((keeps_iff hiff).mpr hr')
      exact fun c hc => this c ((hiff c).mpr hc)
theorem sub_filter {l1 l : List Int} (h : l1.Sublist l) (hn : l.Nodup) : l.filter (fun v => decide (v ∈ l1)) = l1 := by
  induction h with
  | slnil => rfl
  | @cons l1 l2 a h ih =>
    rw [List.nodup_cons] at hn
    rw [List.filter_cons, if_neg (by simpa using fun z => hn.1 (h.subset z))]
    exact ih hn.2
  | @cons_cons l1 l2 a h ih =>
    rw [List.nodup_cons] at hn
    rw [List.filter_cons, if_pos (by simp)]
    congr 1
    rw [← ih hn.2]
    refine List.filter_congr fun v hv => ?_
    rw [ih hn.2]
    have : v ≠ a := fun e => hn.1 (e ▸ hv)
    simp [this]
theorem sub_eq {l1 l2 l : List Int} (h1 : l1.Sublist l) (h2 : l2.Sublist l) (hn : l.Nodup) (h : ∀ v, v ∈ l1 ↔ v ∈ l2) : l1 = l2 := by
  rw [← sub_filter h1 hn, ← sub_filter h2 hn]
  exact List.filter_congr fun v _ => by rw [decide_eq_decide]; exact h v
noncomputable def TellsU (H : Hp) (ws : List Str) (cls : List (List L3)) (rm : Str → List Int) (kvs : List (Key × V)) (x : V) : Prop := (x = .non ∧ ∀ r', ¬ keepsR ws cls rm r') ∨ ∃ q kv' rm', x = .ref q ∧ H q = some (.dK kv') ∧ kv'.map (·.1) = kvs.map (·.1) ∧ KeysIn kv' ws ∧ RoomsFor H kv' ws rm' ∧ LeftBy ws cls rm rm'
theorem TellsU.same {H H' : Hp} {ws : List Str} {cls : List (List L3)} {rm : Str → List Int} {kvs : List (Key × V)} {x : V} (h : TellsU H ws cls rm kvs x) (s : Same H H') : TellsU H' ws cls rm kvs x := by
  rcases h with h | ⟨q, kv', rm', h1, h2, h3, h4, h5, h6⟩
  · exact .inl h
  · exact .inr ⟨q, kv', rm', h1, s _ _ h2, h3, h4, h5.same (fun _ _ e => s _ _ e), h6⟩
theorem LeftBy.keeps {ws : List Str} {cls : List (List L3)} {rm rm' : Str → List Int} (h : LeftBy ws cls rm rm') : keepsR ws cls rm rm' := ⟨h.gd, fun c hc v hv => (h.sl c hc).subset hv, h.cl⟩
theorem by_tells {mg : Str → Option Value} {H : Hp} {r c : Addr} {ws : List Str} {kvs : List (Key × V)} {rm : Str → List Int} {us : List V} {cls : List (List L3)} {Q : VK} {E : XK} (hki : KeysIn kvs ws) (hkl : kvs.length ≤ 45) (hrd : H r = some (.dK kvs)) (hrf : RoomsFor H kvs ws rm) (hgd : ∀ c ∈ ws, rm c ≠ [] ∧ (rm c).length ≤ 10 ∧ (rm c).Nodup) (hwo : ∀ w ∈ ws, PyData.strOk w = true)
    (hc : H c = some (.lst us)) (hC : ClsAt H us cls) (hcl : cls.length ≤ 200) (hco : ∀ c ∈ cls, c.length ≤ 40 ∧ clOk ws c)
    (k : ∀ x H', TellsU H' ws cls rm kvs x → (∀ q, x = .ref q → H q = none) → Same H H' → Q x H') : spBy mg [.ref r, .ref c] H Q E :=
  by_rd hki hkl hrd hrf hgd hwo hc hC hcl hco (fun h H' s => k _ _ (.inl ⟨rfl, h⟩) (fun q e => by cases e) s) fun q kv' rm' H' h1 h2 h3 h4 h5 h6 s => k _ _ (.inr ⟨q, kv', rm', rfl, h2, h3, h4, h5, h6⟩) (fun q' e => by cases e; exact h1) s
theorem left_uniq {ws : List Str} {c1 c2 : List (List L3)} {rm r1 r2 : Str → List Int} (hn : ∀ c ∈ ws, (rm c).Nodup) (hm : ∀ c, c ∈ c1 ↔ c ∈ c2) (h1 : LeftBy ws c1 rm r1) (h2 : LeftBy ws c2 rm r2) : ∀ c ∈ ws, r1 c = r2 c := fun c hc => by
  refine sub_eq (h1.sl c hc) (h2.sl c hc) (hn c hc) fun v => ⟨fun hv => ?_, fun hv => ?_⟩
  · exact h2.top r1 ⟨h1.gd, fun c hc v hv => (h1.sl c hc).subset hv, fun x hx => h1.cl x ((hm x).mpr hx)⟩ c hc v hv
  · exact h1.top r2 ⟨h2.gd, fun c hc v hv => (h2.sl c hc).subset hv, fun x hx => h2.cl x ((hm x).mp hx)⟩ c hc v hv
theorem tells_ne {K : PySem.W.Frag} {H : Hp} {ws : List Str} {rm : Str → List Int} {cl1 cl2 : List (List L3)} {kvs : List (Key × V)} {x y : V} {Q : VK} (hn : ∀ c ∈ ws, (rm c).Nodup) (hm : ∀ c, c ∈ cl1 ↔ c ∈ cl2) (h1 : TellsU H ws cl1 rm kvs x) (h2 : TellsU H ws cl2 rm kvs y) (q : Q (.bl false) H) : rNeNA K x y H Q := by
  have kk : ∀ r', keepsR ws cl1 rm r' ↔ keepsR ws cl2 rm r' := fun r' => by unfold keepsR; simp only [hm]
  rcases h1 with ⟨rfl, n1⟩ | ⟨a, ka, ra, rfl, ha, hka, hia, hfa, hla⟩
  · rcases h2 with ⟨rfl, n2⟩ | ⟨b, kb, rb, rfl, hb, hkb, hib, hfb, hlb⟩
    · exact .inl ⟨rfl, rfl, q⟩
    · exact absurd ((kk _).mpr hlb.keeps) (n1 _)
  · rcases h2 with ⟨rfl, n2⟩ | ⟨b, kb, rb, rfl, hb, hkb, hib, hfb, hlb⟩
    · exact absurd ((kk _).mp hla.keeps) (n2 _)
    · have e := left_uniq hn hm hla hlb
      refine .inr ⟨a, rfl, b, rfl, ka, kb, ha, hb, ?_, fun p hp => ?_, q⟩
      · have := congrArg List.length (hka.trans hkb.symm)
        simpa using this
      · obtain ⟨c, hc, ec⟩ := hia.2 p hp
        obtain ⟨x1, v1, t1⟩ := hfa c hc
        obtain ⟨x2, v2, t2⟩ := hfb c hc
        have hpv := valV_mem hia.1 (show (p.1, p.2) ∈ ka from hp)
        rw [ec, v1] at hpv
        rw [ec]
        refine ⟨_, v2, dRow (ra c), ?_, ?_, lay_row _, Nat.le_trans (depth_row _) (by decide), by rw [eqv_row]; exact decide_eq_true rfl⟩
        · rw [← Option.some.inj hpv]; exact .tup (.of t1) (Reps.ints _)
        · rw [e c hc]; exact .tup (.of t2) (Reps.ints _)
theorem open_is {rm : Str → List Int} {c : Str} {z : Int} : openB rm (c, Str.ofString "is", z) = decide (z ∈ rm c) := by
  unfold openB
  rw [Bool.eq_iff_iff, List.any_eq_true, decide_eq_true_eq]
  constructor
  · rintro ⟨v, hv, h⟩
    rw [holds_is, decide_eq_true_eq] at h
    exact h ▸ hv
  · exact fun h => ⟨z, h, by rw [holds_is]; exact decide_eq_true rfl⟩
theorem open_not {rm : Str → List Int} {c : Str} {z : Int} (hne : rm c ≠ []) (hnd : (rm c).Nodup) : openB rm (c, Str.ofString "not", z) = !decide (rm c = [z]) := by
  unfold openB
  rw [Bool.eq_iff_iff, List.any_eq_true, Bool.not_eq_true', decide_eq_false_iff_not]
  dsimp only
  constructor
  · rintro ⟨v, hv, h⟩ e
    rw [e] at hv
    rw [holds_not, List.mem_singleton.mp hv] at h
    simp at h
  · intro h
    refine Classical.byContradiction fun q => h ?_
    have hall : ∀ v ∈ rm c, v = z := fun v hv => Classical.byContradiction fun e => q ⟨v, hv, by rw [holds_not]; simp [e]⟩
    match hm : rm c, hne, hnd, hall with
    | [], hne, _, _ => exact absurd rfl hne
    | [v], _, _, hall => rw [hall v (by simp)]
    | v :: v' :: r, _, hnd, hall =>
      have e1 := hall v (by simp)
      have e2 := hall v' (by simp)
      rw [e1, e2] at hnd
      simp at hnd
noncomputable def spOpen : Sp := fun vs H Q _ => ∃ (r c : Addr) (kvs : List (Key × V)) (us : List V) (ls : List L3) (cs : List Str) (rm : Str → List Int), vs = [.ref r, .ref c] ∧ H r = some (.dK kvs) ∧ kvs.map (·.1) = cs.map Sum.inr ∧ cs.Nodup ∧ RoomsK H kvs rm ∧ goodR cs rm ∧ H c = some (.tup us) ∧ Rows3 H us ls ∧ ls.length ≤ 1000 ∧ (∀ l ∈ ls, litOk cs l) ∧ ∀ q ys H', H q = none → H' q = some (.lst ys) → Rows3 H' ys (ls.filter fun l => openB rm l) → Same H H' → Q (.ref q) H'
theorem ok__law_open {P : Program} {w : World} {K : PySem.W.Frag} {mg : Str → Option Value} {base : Heap}  (T : Txt K mg) (L : FnL K mg "_law_open" s__law_open ["_law_rooms_here", "_law_clause_here"])  : Fn P w K mg base "_law_open" 1 ["_law_rooms_here", "_law_clause_here"] (spOpen) := by
  have nd := sc__law_open.nd
  refine L.ok sc__law_open (fun vs H Q E h => ?_) (fun f cdv A outer s H vs Q E hr h => ?_)
  · obtain ⟨r, c, kvs, us, ls, cs, rm, rfl, hrd, hks, hcn, hrk, hgd, hc, hRw, hll, hlo, k⟩ := h
    rfl
  · obtain ⟨r, c, kvs, us, ls, cs, rm, rfl, hrd, hks, hcn, hrk, hgd, hc, hRw, hll, hlo, k⟩ := h
    have hu := hu_of hr
    refine ⟨_, (pss_cons (ps_set (i := 2) nd rfl (by first | exact Or.inl rfl | exact Or.inr rfl) (pe_lst pa_nil))
      (pss_cons (ps_for PassesOwn.never rfl (pi_TK (K := K) rfl (pvM 1)) (pg_tupT (n := 3) rfl (pgs_cons (pg_name (i := 3) nd rfl (by first | exact Or.inl rfl | exact Or.inr rfl)) (pgs_cons (pg_name (i := 4) nd rfl (by first | exact Or.inl rfl | exact Or.inr rfl)) (pgs_cons (pg_name (i := 5) nd rfl (by first | exact Or.inl rfl | exact Or.inr rfl)) pgs_nil)))) (pss_one (ps_if (PW.pt (pw_or (PW.pt (pw_and (pt_cmpR op_eq (pvM 4) pe_str (nomark _)) (pw_and1 (pt_cmpR op_inT (pvM 5) (pe_dg hu (pvM 0) (pvM 3) (fun _ _ => rfl)) (by with_unfolding_all rfl))))) (pw_or1 (PW.pt (pw_and (pt_cmpR op_eq (pvM 4) pe_str (nomark _)) (pw_and1 (pt_cmpR (op_neD (hu100 hr)) (pe_dg hu (pvM 0) (pvM 3) (fun _ _ => rfl)) (pe_tup (pa_cons (pvM 5) pa_nil)) (nomark _)))))))) (pss_one (ps_expr (pe_mL PySem.F.slot_list_append PySem.F.type_list_append ml_append (pvM 2) (pa_cons (pe_tup (pa_cons (pvM 3) (pa_cons (pvM 4) (pa_cons (pvM 5) pa_nil)))) pa_nil)))) pss_nil)))
      (pss_one (ps_ret (pvM 2))))), ?_⟩
    (try ctx_has vcx true_and)
    refine ⟨by decide, fun fq hfq => ?_⟩
    have s1 : Same H (upd H fq (.lst [])) := Same.upd0 hfq
    refine ⟨_, s1 _ _ hc, ?_⟩
    refine for_g wlk_tup (fun i σ H' => ∃ ys v3 v4 v5, σ = [some (.ref r), some (.ref c), some (.ref fq), v3, v4, v5] ∧ H' fq = some (.lst ys) ∧ Rows3 H' ys ((ls.take i).filter fun l => openB rm l) ∧ Same H H') ⟨[], _, _, _, rfl, upd_same, Rows3.nil, s1⟩ (fun i σ H' zq39 => by obtain ⟨_, _, _, _, _, _, _, sm⟩ := zq39; exact (.of (sm _ _ hc))) ?_ ?_
    · rintro i x σ H2 hi hx ⟨ys, v3, v4, v5, rfl, h2f, hR2, s2⟩
      obtain ⟨t, l, rfl, hli, ht⟩ := hRw.get hx
      have hlm := List.mem_of_getElem? hli
      have ht2 := s2 _ _ ht
      obtain ⟨a, hva, ha⟩ := room_at hks hcn hrk (hlo l hlm).1
      have hr2 := s2 _ _ hrd
      have ha2 := s2 _ _ ha
      have etk : ls.take (i + 1) = ls.take i ++ [l] := by rw [List.take_add_one, hli]; rfl
      have hyl : ys.length ≤ 1000 := by rw [hR2.length]; exact Nat.le_trans (List.length_filter_le _ _) (Nat.le_trans (List.length_take_le' _ _) hll)
      have hg := hgd _ (hlo l hlm).1
      have hlw := (hlo l hlm).2
      obtain ⟨lc, lw, lz⟩ := l
      unfold l3V at ht2
      dsimp only at hva ha ha2 hg hlw
      (try ctx_has vcx true_and ht2 hr2 hva ha2)
      rw [etk, List.filter_append]
      have add : ∀ H3, Same H2 H3 → openB rm (lc, lw, lz) = true → (∃ xs, H3 fq = some (HO.lst xs)) ∧ 3 ≤ sizeLine ∧ ∀ p, H3 p = none → ∃ xs, upd H3 p (HO.tup [V.str lc, V.str lw, V.int lz]) fq = some (HO.lst xs) ∧ xs.length < sizeLine ∧ ∃ ys, upd (upd H3 p (HO.tup [V.str lc, V.str lw, V.int lz])) fq (HO.lst (xs ++ [V.ref p])) fq = some (HO.lst ys) ∧ Rows3 (upd (upd H3 p (HO.tup [V.str lc, V.str lw, V.int lz])) fq (HO.lst (xs ++ [V.ref p]))) ys (List.filter (fun l => openB rm l) (List.take i ls) ++ List.filter (fun l => openB rm l) [(lc, lw, lz)]) ∧ Same H (upd (upd H3 p (HO.tup [V.str lc, V.str lw, V.int lz])) fq (HO.lst (xs ++ [V.ref p]))) := fun H3 s3 ho => by
        have h3f := s3 _ _ h2f
        refine ⟨⟨_, h3f⟩, by decide, fun p hp => ⟨ys, (Same.upd0 hp) _ _ h3f, Nat.lt_of_le_of_lt hyl (by decide), _, upd_same, ?_, fun b o e => ?_⟩⟩
        · have kt : ∀ a vs, H3 a = some (.tup vs) → upd (upd H3 p (.tup [.str lc, .str lw, .int lz])) fq (.lst (ys ++ [V.ref p])) a = some (.tup vs) := fun a vs e => by rw [upd_ne (ne_of e h3f (by intro z; cases z)), upd_ne (ne_of_none e hp)]; exact e
          have := ((hR2.keep fun _ _ e => s3 _ _ e).keep kt).snoc (l := (lc, lw, lz)) (t := p) (by rw [upd_ne (ne_of_none h3f hp).symm, upd_same]; rfl)
          simpa [ho] using this
        · rw [upd_ne (ne_of_none e hfq), upd_ne (ne_of_none (s3 _ _ (s2 _ _ e)) hp)]; exact s3 _ _ (s2 _ _ e)
      have skip : ∀ H3, Same H2 H3 → openB rm (lc, lw, lz) = false → ∃ ys, H3 fq = some (HO.lst ys) ∧ Rows3 H3 ys (List.filter (fun l => openB rm l) (List.take i ls) ++ List.filter (fun l => openB rm l) [(lc, lw, lz)]) ∧ Same H H3 := fun H3 s3 ho => ⟨ys, s3 _ _ h2f, by simpa [ho] using hR2.keep (fun _ _ e => s3 _ _ e), s2.trans s3⟩
      rcases hlw with e | e
      · have e : lw = Str.ofString "is" := e
        subst e
        rw [if_pos rfl]
        refine ⟨rfl, flat_ints _, ?_⟩
        rw [show inV (V.int lz) ((rm lc).map V.int) = decide (lz ∈ rm lc) from inV_ints _ _]
        by_cases h : lz ∈ rm lc
        · rw [if_pos (decide_eq_true h)]
          exact add H2 (Same.refl _) (by rw [open_is]; exact decide_eq_true h)
        · rw [if_neg (by simpa using h), if_neg (fun z => is_not z.symm)]
          exact skip H2 (Same.refl _) (by rw [open_is]; exact decide_eq_false h)
      · have e : lw = Str.ofString "not" := e
        subst e
        rw [if_neg is_not, if_pos rfl]
        refine ⟨by decide, fun pe hpe => ?_⟩
        have s3 : Same H2 (upd H2 pe (.tup [.int lz])) := Same.upd0 hpe
        refine ⟨dRow (rm lc), dRow [lz], .tup (.of (s3 _ _ ha2)) (Reps.ints _), .tup (.of upd_same) (Reps.ints [lz]), lay_row _, lay_row _, Nat.le_trans (depth_row _) (by decide), ⟨_, rfl, ?_⟩⟩
        rw [eqv_row]
        by_cases h : rm lc = [lz]
        · rw [if_neg (by simp [h])]
          exact skip _ s3 (by rw [open_not hg.1 hg.2]; simp [h])
        · rw [if_pos (by simp [h])]
          exact add _ s3 (by rw [open_not hg.1 hg.2]; simp [h])
    · rintro σ H2 ⟨ys, v3, v4, v5, rfl, h2f, hR2, s2⟩
      rw [hRw.length, List.take_length] at hR2
      (try ctx_has vcx true_and)
      exact k fq ys H2 hfq h2f hR2 s2
theorem closed_congr {cs : List Str} {r1 r2 : Str → List Int} {c : List L3} (h : ∀ x ∈ cs, r1 x = r2 x) (hc : ∀ l ∈ c, l.1 ∈ cs) (k : closedC r1 c) : closedC r2 c := by
  have u : ∀ l ∈ c, untL l r1 ↔ untL l r2 := fun l hl => by unfold untL; rw [h _ (hc l hl)]
  have t : ∀ l ∈ c, truL l r1 ↔ truL l r2 := fun l hl => by unfold truL; rw [h _ (hc l hl)]
  obtain ⟨⟨l, hl, hn⟩, k2⟩ := k
  exact ⟨⟨l, hl, fun z => hn ((u l hl).mpr z)⟩, fun m hm q => (t m hm).mp (k2 m hm fun x hx hne => (u x hx).mpr (q x hx hne))⟩
theorem closed_many {rm : Str → List Int} {c : List L3} {l0 l1 : L3} {r : List L3} (hn : c.Nodup) (h : (c.filter fun l => openB rm l) = l0 :: l1 :: r) : closedC rm c := by
  have hf : (c.filter fun l => openB rm l).Nodup := hn.sublist List.filter_sublist
  rw [h] at hf
  simp only [List.nodup_cons, List.mem_cons, not_or] at hf
  have m0 : l0 ∈ c ∧ ¬ untL l0 rm := by
    have : l0 ∈ c.filter fun l => openB rm l := by rw [h]; simp
    exact ⟨(List.mem_filter.mp this).1, open_iff.mp (List.mem_filter.mp this).2⟩
  have m1 : l1 ∈ c ∧ ¬ untL l1 rm := by
    have : l1 ∈ c.filter fun l => openB rm l := by rw [h]; simp
    exact ⟨(List.mem_filter.mp this).1, open_iff.mp (List.mem_filter.mp this).2⟩
  refine ⟨⟨l0, m0⟩, fun l hl k => ?_⟩
  by_cases e : l0 = l
  · subst e
    exact absurd (k l1 m1.1 (Ne.symm hf.1.1)) m1.2
  · exact absurd (k l0 m0.1 e) m0.2
theorem closed_one {rm : Str → List Int} {c : List L3} {l : L3} (h : (c.filter fun l => openB rm l) = [l]) (ht : truL l rm) : closedC rm c := by
  have ml : l ∈ c ∧ ¬ untL l rm := by
    have : l ∈ c.filter fun l => openB rm l := by rw [h]; simp
    exact ⟨(List.mem_filter.mp this).1, open_iff.mp (List.mem_filter.mp this).2⟩
  refine ⟨⟨l, ml⟩, fun m hm k => ?_⟩
  by_cases e : l = m
  · subst e; exact ht
  · exact absurd (k l ml.1 e) ml.2
theorem sub_len {l1 l2 : List Int} (h : l1.Sublist l2) (hl : l2.length ≤ l1.length) : l1 = l2 := h.eq_of_length_le hl
theorem sizeR_eq {cs : List Str} {r1 r2 : Str → List Int} (h : ∀ c ∈ cs, (r1 c).Sublist (r2 c)) (hl : sizeR cs r2 ≤ sizeR cs r1) : ∀ c ∈ cs, r1 c = r2 c := by
  induction cs with
  | nil => intro c hc; simp at hc
  | cons x xs ih =>
    have h1 := (h x (by simp)).length_le
    have h2 := sizeR_sub (cs := xs) fun c hc => h c (by simp [hc])
    unfold sizeR at hl h2 ih
    simp only [List.map_cons, List.sum_cons] at hl
    intro c hc
    rcases List.mem_cons.mp hc with rfl | hc
    · exact sub_len (h c (by simp)) (by omega)
    · exact ih (fun c hc => h c (by simp [hc])) (by omega) c hc
theorem eqv_nil3 (fl : List L3) : PyData.eqv (.list (fl.map l3D)) (.list []) = decide (fl = []) := by
  cases fl with
  | nil => rfl
  | cons n ns => simp [PyData.eqv, PyData.eqvAll]
theorem depth_l3L (fl : List L3) : (PyData.list (fl.map l3D)).depth ≤ 100 := by
  have := depth_l3s fl
  simp only [PyData.depth]
  omega
theorem holds_eq (lc lw : Str) (lz v : Int) : holdsL (lc, lw, lz) v = decide (decide (v = lz) = decide (lw = Str.ofString "is")) := by
  unfold holdsL
  dsimp only
  by_cases h : lw = Str.ofString "is"
  · rw [if_pos h]; simp [h]
  · rw [if_neg h]; simp [h]
structure MidU (cs : List Str) (cls : List (List L3)) (rm : Str → List Int) (kvs : List (Key × V)) (H : Hp) (rq : Addr) (kv : List (Key × V)) (rmc : Str → List Int) : Prop where
  fr : H rq = some (.dK kv)
  ks : kv.map (·.1) = kvs.map (·.1)
  rk : RoomsK H kv rmc
  gd : goodR cs rmc
  sl : ∀ c ∈ cs, (rmc c).Sublist (rm c)
  top : ∀ r', keepsR cs cls rm r' → subR cs r' rmc
theorem MidU.same {cs : List Str} {cls : List (List L3)} {rm : Str → List Int} {kvs : List (Key × V)} {H H' : Hp} {rq : Addr} {kv : List (Key × V)} {rmc : Str → List Int} (h : MidU cs cls rm kvs H rq kv rmc) (s : Same H H') : MidU cs cls rm kvs H' rq kv rmc := ⟨s _ _ h.fr, h.ks, h.rk.keep (fun _ _ e => s _ _ e), h.gd, h.sl, h.top⟩
noncomputable def spUnits : Sp := fun vs H Q _ => ∃ (r c : Addr) (cs : List Str) (kvs : List (Key × V)) (rm : Str → List Int) (us : List V) (cls : List (List L3)), vs = [.ref r, .ref c] ∧ H r = some (.dK kvs) ∧ kvs.map (·.1) = cs.map Sum.inr ∧ RoomsK H kvs rm ∧ goodR cs rm ∧ cs.Nodup ∧ cs ≠ [] ∧ cs.length ≤ 500 ∧ (∀ c ∈ cs, (rm c).length ≤ 1000) ∧
  H c = some (.lst us) ∧ ClsAt H us cls ∧ (∀ c ∈ cls, c.Nodup ∧ c.length ≤ 1000 ∧ ∀ l ∈ c, litOk cs l ∧ okL3 l) ∧
  ((∀ r', ¬ keepsR cs cls rm r') → ∀ H', Same H H' → Q .non H') ∧ ∀ q kv' rm' H', H q = none → H' q = some (.dK kv') → kv'.map (·.1) = kvs.map (·.1) → RoomsK H' kv' rm' → LeftBy cs cls rm rm' → Same H H' → Q (.ref q) H'
theorem ok__law_units {P : Program} {w : World} {K : PySem.W.Frag} {mg : Str → Option Value} {base : Heap}  (T : Txt K mg) (L : FnL K mg "_law_units" s__law_units ["_law_rooms_here", "_law_clauses_here"]) (F_law_open : Fn P w K mg base "_law_open" 1 ["_law_rooms_here", "_law_clause_here"] (spOpen)) : Fn P w K mg base "_law_units" 2 ["_law_rooms_here", "_law_clauses_here"] (spUnits) := by
  have nd := sc__law_units.nd
  refine L.ok sc__law_units (fun vs H Q E h => ?_) (fun f cdv A outer s H vs Q E hr h => ?_)
  · obtain ⟨r, c, cs, kvs, rm, us, cls, rfl, hrd, hks, hrk, hgd, hcn, hcne, hcl, hrl, hc, hC, hco, k0, k1⟩ := h
    rfl
  · obtain ⟨r, c, cs, kvs, rm, us, cls, rfl, hrd, hks, hrk, hgd, hcn, hcne, hcl, hrl, hc, hC, hco, k0, k1⟩ := h
    have hu := hu_of hr
    refine ⟨_, (pss_cons (ps_set (i := 0) nd rfl (by first | exact Or.inl rfl | exact Or.inr rfl) (pe_callTy call_dictD rfl T.b_dict (show bootBuiltins "dict" = some (.type "dict") by decide +kernel) (pa_cons (pvM 0) pa_nil)))
      (pss_cons (ps_set (i := 2) nd rfl (by first | exact Or.inl rfl | exact Or.inr rfl) pe_dnewK)
      (pss_cons (ps_while PassesOwn.never (pt_cmpR (op_neDG (hu102 hr)) (pvM 2) (pvM 0) (nomark _)) (pss_cons (ps_set (i := 2) nd rfl (by first | exact Or.inl rfl | exact Or.inr rfl) (pe_callTy call_dictD rfl T.b_dict (show bootBuiltins "dict" = some (.type "dict") by decide +kernel) (pa_cons (pvM 0) pa_nil)))
      (pss_one (ps_for PassesOwn.never rfl (pi_LK (K := K) rfl (pvM 1)) (pg_name (i := 3) nd rfl (by first | exact Or.inl rfl | exact Or.inr rfl)) (pss_cons (ps_set (i := 4) nd rfl (by first | exact Or.inl rfl | exact Or.inr rfl) (pe_callF F_law_open (hr.mono (by first | decide | omega)) rfl (pa_cons (pvM 0) (pa_cons (pvM 3) pa_nil))))
      (pss_cons (ps_if (pt_cmpR (op_eqD (hu100 hr)) (pvM 4) (pe_lst pa_nil) (nomark _)) (pss_one (ps_ret pe_non)) pss_nil)
      (pss_one (ps_if (pt_cmpR op_eq (pe_callB call_lenL rfl T.b_len PySem.boot_len (pa_cons (pvM 4) pa_nil)) pe_int (nomark _)) (pss_cons (ps_asg (pe_ix ix_L (pvM 4) pe_int (fun _ _ => rfl)) (pg_tupT (n := 3) rfl (pgs_cons (pg_name (i := 5) nd rfl (by first | exact Or.inl rfl | exact Or.inr rfl)) (pgs_cons (pg_name (i := 6) nd rfl (by first | exact Or.inl rfl | exact Or.inr rfl)) (pgs_cons (pg_name (i := 7) nd rfl (by first | exact Or.inl rfl | exact Or.inr rfl)) pgs_nil)))))
      (pss_one (ps_dp hu (pvM 0) (pvM 5) (pe_callTy call_tupL rfl T.b_tuple (show bootBuiltins "tuple" = some (.type "tuple") by decide +kernel) (pa_cons (pe_comp (N := ["_law_one", "_law_value", "_law_word"]) (nt := 1) (js := [7, 6]) rfl (compOk_of ["_law_rooms_here", "_law_clauses_here", "_law_before", "_law_clause_here", "_law_some", "_law_cell", "_law_word", "_law_value"] (defScope s__law_units).names rfl rfl rfl (by decide +kernel)) (pi_TK (K := K) rfl (pe_dg hu (pvM 0) (pvM 5) (fun _ _ => rfl))) (fun _ _ _ _ _ _ => (pg_name (i := 0) (show List.Nodup [("_law_one" : Str), ("_law_value" : Str), ("_law_word" : Str)] by decide +kernel) rfl (Or.inl rfl))) (tgOk_name (by decide)) (fun _ _ _ _ _ _ => pts_one (pt_cmpR op_eq (pe_cmpR op_eq (pvM 0) (pvM 1) (nomark _)) (pe_cmpR op_eq (pvM 2) pe_str (nomark _)) (nomark _))) (fun _ _ _ _ _ _ => (pvM 0))) pa_nil)) rfl))) pss_nil))))))))
      (pss_one (ps_ret (pvM 0)))))), ?_⟩
    (try ctx_has vcx true_and hrd)
    intro rq hrq bq0 hbq0
    have s1 : Same H (upd (upd H rq (.dK kvs)) bq0 (.dK [])) := (Same.upd0 hrq).upd_new hbq0
    have hb0 : rq ≠ bq0 := fun z => by rw [← z, upd_same] at hbq0; cases hbq0
    have hbH : H bq0 = none := by rw [upd_ne hb0.symm] at hbq0; exact hbq0
    have h1r : upd (upd H rq (.dK kvs)) bq0 (.dK []) rq = some (.dK kvs) := by rw [upd_ne hb0]; exact upd_same
    have h1b : upd (upd H rq (.dK kvs)) bq0 (.dK []) bq0 = some (.dK []) := upd_same
    generalize upd (upd H rq (.dK kvs)) bq0 (.dK []) = H1 at s1 h1r h1b ⊢
    have M1 : MidU cs cls rm kvs H1 rq kvs rm := ⟨h1r, rfl, hrk.keep (fun _ _ e => s1 _ _ e), hgd, fun c _ => List.Sublist.refl _, fun r' h => h.2.1⟩
    have hkl : kvs.length = cs.length := by have := congrArg List.length hks; simpa using this
    refine while_rd (fun m σ H' => ∃ bq kb rb kv rmc v3 v4 v5 v6 v7, σ = [some (.ref rq), some (.ref c), some (.ref bq), v3, v4, v5, v6, v7] ∧ MidU cs cls rm kvs H' rq kv rmc ∧ bq ≠ rq ∧ H' bq = some (.dK kb) ∧ Same H H' ∧ ((kb = [] ∧ m = sizeR cs rmc + sizeR cs rm + 1) ∨ (kb.map (·.1) = kvs.map (·.1) ∧ RoomsK H' kb rb ∧ (∀ c ∈ cs, (rmc c).Sublist (rb c)) ∧ ((∀ c ∈ cs, rmc c = rb c) → ∀ x ∈ cls, closedC rmc x) ∧ m = sizeR cs rmc + sizeR cs rb)))
      (fun σ H' => ∃ kv rmc v2 v3 v4 v5 v6 v7, σ = [some (.ref rq), some (.ref c), v2, v3, v4, v5, v6, v7] ∧ MidU cs cls rm kvs H' rq kv rmc ∧ (∀ x ∈ cls, closedC rmc x) ∧ Same H H')
      ⟨_, bq0, [], fun _ => [], kvs, rm, _, _, _, _, _, rfl, M1, hb0.symm, h1b, s1, .inl ⟨rfl, rfl⟩⟩ ?_ ?_
    · rintro R hR m σ H2 ⟨bq, kb, rb, kv, rmc, v3, v4, v5, v6, v7, rfl, M2, hbr, h2b, s2, hm⟩
      have hks2 := M2.ks.trans hks
      have hkl2 : kv.length = cs.length := by have := congrArg List.length hks2; simpa using this
      have hkn2 : (kv.map (·.1)).Nodup := by rw [hks2]; exact List.pairwise_map.mpr (hcn.imp fun h z => h (Sum.inr.inj z))
      have ask : ∀ Qf : VK, (sizeR cs rmc + sizeR cs rmc < m → Qf (.bl true) H2) → ((∀ x ∈ cls, closedC rmc x) → Qf (.bl false) H2) → rNeDG (V.ref bq) (V.ref rq) H2 Qf := fun Qf qT qF => by
        refine ⟨bq, rfl, rq, rfl, kb, kv, h2b, M2.fr, ?_⟩
        have hpos : 0 < cs.length := List.length_pos_iff.mpr hcne
        rcases hm with ⟨rfl, hm⟩ | ⟨hkb, hRb, hsb, hcb, hm⟩
        · refine .inl ⟨by simp; omega, qT ?_⟩
          have := sizeR_sub M2.sl
          omega
        · have hklb : kb.length = kv.length := by have := congrArg List.length (hkb.trans M2.ks.symm); simpa using this
          refine .inr ⟨hklb, fun k => rb (nameOf k), fun k => rmc (nameOf k), fun p hp => ?_, ?_⟩
          · obtain ⟨x, ax, rfl, hax⟩ := hRb p hp
            have hxc : x ∈ cs := by
              have : (Sum.inr x : Key) ∈ kb.map (·.1) := List.mem_map.mpr ⟨_, hp, rfl⟩
              rw [hkb, hks] at this
              obtain ⟨y, hy, e⟩ := List.mem_map.mp this
              exact Sum.inr.inj e ▸ hy
            obtain ⟨a2, hv2, ha2⟩ := room_at hks2 hcn M2.rk hxc
            exact ⟨ax, a2, rfl, hax, hv2, ha2⟩
          · have hall : (kb.all fun p => decide (rb (nameOf p.1) = rmc (nameOf p.1))) = true ↔ ∀ x ∈ cs, rmc x = rb x := by
              rw [List.all_eq_true]
              constructor
              · intro h x hx
                have : (Sum.inr x : Key) ∈ kb.map (·.1) := by rw [hkb, hks]; exact List.mem_map.mpr ⟨x, hx, rfl⟩
                obtain ⟨p, hp, e⟩ := List.mem_map.mp this
                have := of_decide_eq_true (h p hp)
                rw [e] at this
                exact this.symm
              · intro h p hp
                obtain ⟨x, ax, rfl, hax⟩ := hRb p hp
                have hxc : x ∈ cs := by
                  have : (Sum.inr x : Key) ∈ kb.map (·.1) := List.mem_map.mpr ⟨_, hp, rfl⟩
                  rw [hkb, hks] at this
                  obtain ⟨y, hy, e⟩ := List.mem_map.mp this
                  exact Sum.inr.inj e ▸ hy
                exact decide_eq_true (h x hxc).symm
            cases e : kb.all fun p => decide (rb (nameOf p.1) = rmc (nameOf p.1)) with
            | true => exact qF (hcb (hall.mp e))
            | false =>
              refine qT ?_
              rcases Nat.lt_or_ge (sizeR cs rmc) (sizeR cs rb) with h | h
              · omega
              · have := hall.mpr (sizeR_eq hsb h)
                rw [e] at this
                cases this
      (try ctx_has vcx true_and)
      refine ask _ (fun hdec => ⟨_, rfl, ?_⟩) fun hcd => ⟨_, rfl, ?_⟩
      · rw [if_pos rfl]
        refine ⟨fun σ' H' => ∃ m', m' < m ∧ ∃ bq kb rb kv rmc v3 v4 v5 v6 v7, σ' = [some (.ref rq), some (.ref c), some (.ref bq), v3, v4, v5, v6, v7] ∧ MidU cs cls rm kvs H' rq kv rmc ∧ bq ≠ rq ∧ H' bq = some (.dK kb) ∧ Same H H' ∧ ((kb = [] ∧ m' = sizeR cs rmc + sizeR cs rm + 1) ∨ (kb.map (·.1) = kvs.map (·.1) ∧ RoomsK H' kb rb ∧ (∀ c ∈ cs, (rmc c).Sublist (rb c)) ∧ ((∀ c ∈ cs, rmc c = rb c) → ∀ x ∈ cls, closedC rmc x) ∧ m' = sizeR cs rmc + sizeR cs rb)), fun _ _ h => h, kv, M2.fr, fun nb hnb => ⟨_, (Same.upd0 hnb) _ _ (s2 _ _ hc), ?_⟩⟩
        have nbr : nb ≠ rq := (ne_of_none M2.fr hnb).symm
        have s3 : Same H2 (upd H2 nb (.dK kv)) := Same.upd0 hnb
        have h3n : upd H2 nb (.dK kv) nb = some (.dK kv) := upd_same
        generalize upd H2 nb (.dK kv) = H3 at s3 h3n ⊢
        have M3 := M2.same s3
        have hnbH : H nb = none := s2.free hnb
        refine for_g wlk_list (fun i σ H' => ∃ kv1 rm1 v3 v4 v5 v6 v7, σ = [some (.ref rq), some (.ref c), some (.ref nb), v3, v4, v5, v6, v7] ∧ MidU cs cls rm kvs H' rq kv1 rm1 ∧ H' nb = some (.dK kv) ∧ RoomsK H' kv rmc ∧ (∀ c ∈ cs, (rm1 c).Sublist (rmc c)) ∧ ((∀ c ∈ cs, rm1 c = rmc c) → ∀ x ∈ cls.take i, closedC rmc x) ∧ Same H H') ⟨kv, rmc, _, _, _, _, _, rfl, M3, h3n, M3.rk, fun c _ => List.Sublist.refl _, fun _ x hx => by simp at hx, s2.trans s3⟩ (fun i σ H' h => by obtain ⟨_, _, _, _, _, _, _, _, _, _, _, _, _, sm⟩ := h; exact .of (sm _ _ hc)) ?_ ?_
        · rintro i x σ H4 hi hx ⟨kv1, rm1, w3, w4, w5, w6, w7, rfl, M4, h4n, hRn, hs4, hcl4, s4⟩
          obtain ⟨ct, uc, ls, rfl, hli, hct, hRc⟩ := hC.get hx
          have hlm := List.mem_of_getElem? hli
          obtain ⟨lnd, lle, llo⟩ := hco ls hlm
          have etk : cls.take (i + 1) = cls.take i ++ [ls] := by rw [List.take_add_one, hli]; rfl
          have hks4 := M4.ks.trans hks
          (try ctx_has vcx true_and)
          refine ⟨rq, ct, kv1, uc, ls, cs, rm1, rfl, M4.fr, hks4, hcn, M4.rk, M4.gd, s4 _ _ hct, hRc.keep (fun _ _ e => s4 _ _ e), lle, fun l hl => (llo l hl).1, fun sq ys H5 hsq h5s hR5 s5 => ?_⟩
          (try ctx_has vcx true_and)
          refine ⟨by decide, fun pe hpe => ?_⟩
          have s6 : Same H5 (upd H5 pe (.lst [])) := Same.upd0 hpe
          have h6e : upd H5 pe (.lst []) pe = some (.lst []) := upd_same
          generalize upd H5 pe (.lst []) = H6 at s6 h6e ⊢
          have h6s := s6 _ _ h5s
          have hR6 := hR5.keep fun _ _ e => s6 _ _ e
          have s46 := s5.trans s6
          have M6 := M4.same s46
          refine ⟨.list ((ls.filter fun l => openB rm1 l).map l3D), .list [], .lst (.of h6s) hR6.reps, .lst (.of h6e) .nil, by unfold PyData.canLay0; exact lay_l3s _ (fun x hx => (llo x (List.mem_filter.mp hx).1).2), rfl, depth_l3L _, _, rfl, ?_⟩
          rw [eqv_nil3]
          have hRn6 := hRn.keep (H' := H6) fun _ _ e => s46 _ _ e
          match hfl : (ls.filter fun l => openB rm1 l), hR6 with
          | [], _ =>
            rw [if_pos (by simp)]
            refine k0 (fun r' hr' => ?_) H6 (s4.trans s46)
            obtain ⟨l, hl, hn⟩ := (hr'.2.2 ls hlm).1
            have : l ∈ ls.filter fun l => openB rm1 l := List.mem_filter.mpr ⟨hl, open_iff.mpr fun z => hn (unt_mono (M4.top r' hr') (llo l hl).1.1 z)⟩
            rw [hfl] at this
            simp at this
          | l0 :: l1 :: rr, hR6 =>
            rw [if_neg (by simp)]
            have hyl := hR6.length
            refine ⟨ys, h6s, ?_⟩
            rw [if_neg (by rw [hyl]; simp; omega)]
            refine ⟨kv1, rm1, M6, s46 _ _ h4n, hRn6, hs4, fun he x hx => ?_, s4.trans s46⟩
            rw [etk] at hx
            rcases List.mem_append.mp hx with z | z
            · exact hcl4 he x z
            · rw [List.mem_singleton.mp z]
              exact closed_congr he (fun l hl => (llo l hl).1.1) (closed_many lnd hfl)
          | [l], hR6 =>
            rw [if_neg (by simp)]
            obtain ⟨us0, t, ls0, l', e1, e2, _, ht6⟩ := rows_last hR6 (fun z => by have := hR6.length; rw [z] at this; simp at this)
            have e3 : ls0 = [] ∧ l' = l := by
              cases ls0 with
              | nil => simp at e2; exact ⟨rfl, e2.symm⟩
              | cons a b => simp at e2
            obtain ⟨rfl, rfl⟩ := e3
            have e4 : us0 = [] := by
              have := hR6.length
              rw [e1] at this
              simp at this
              exact this
            subst e4 e1
            have hml : l' ∈ ls := (List.mem_filter.mp (show l' ∈ ls.filter _ by rw [hfl]; simp)).1
            have hop : ¬ untL l' rm1 := open_iff.mp (List.mem_filter.mp (show l' ∈ ls.filter (fun l => openB rm1 l) by rw [hfl]; simp)).2
            obtain ⟨a, hva, ha⟩ := room_at hks4 hcn M6.rk (llo l' hml).1.1
            have hun : ∀ x ∈ ls, x ≠ l' → untL x rm1 := fun x hx hne => Classical.byContradiction fun z => by
              have : x ∈ ls.filter fun l => openB rm1 l := List.mem_filter.mpr ⟨hx, open_iff.mpr z⟩
              rw [hfl] at this
              exact hne (List.mem_singleton.mp this)
            have htop : ∀ r', keepsR cs cls rm r' → subR cs r' (makeT l' rm1) := fun r' hr' => makeT_top (M4.top r' hr') ((hr'.2.2 ls hlm).2 l' hml fun x hx hne => unt_mono (M4.top r' hr') (llo x hx).1.1 (hun x hx hne))
            have hlc := (llo l' hml).1.1
            obtain ⟨lc, lw, lz⟩ := l'
            refine ⟨_, h6s, ?_⟩
            rw [if_pos (by simp)]
            unfold l3V at ht6
            dsimp only at hva ha hlc
            have h6r := M6.fr
            refine ⟨_, h6s, _, atI_nat (j := 0) rfl, t, rfl, _, ht6, rfl, _, _, rfl, _, _, rfl, _, _, rfl, rfl, Sum.inr lc, rfl, kv1, h6r, _, hva, a, rfl, _, ha, fun D hD => ?_⟩
            have hrl1 : (rm1 lc).length ≤ 1000 := Nat.le_trans (M4.sl lc hlc).length_le (hrl lc hlc)
            refine comp_filterS wlk_tup (onI fun v => holdsL (lc, lw, lz) v) id hD (fun H' s => .of (s _ _ ha)) (by simp; omega) ?_ ?_ ?_
            · intro x H7 Q7 hx sm q7
              obtain ⟨v, _, rfl⟩ := List.mem_map.mp hx
              (try ctx_has vcx true_and)
              have := q7 H7 (Same.refl _)
              rw [show onI (fun v => holdsL (lc, lw, lz) v) (V.int v) = holdsL (lc, lw, lz) v from rfl, holds_eq] at this
              exact this
            · intro x H7 Q7 hx hp sm q7
              (try ctx_has vcx true_and)
              exact q7 H7 (Same.refl _)
            · intro H7 sm h7
              rw [filter_onI, List.map_id] at h7
              have e5 : (rm1 lc).filter (fun v => holdsL (lc, lw, lz) v) = makeT (lc, lw, lz) rm1 lc := (makeT_at (lc, lw, lz) rm1).symm
              rw [e5] at h7
              (try ctx_has vcx true_and h7)
              intro tq htq
              have s8 : Same H7 (upd H7 tq (.tup ((makeT (lc, lw, lz) rm1 lc).map V.int))) := Same.upd0 htq
              have h8t : upd H7 tq (.tup ((makeT (lc, lw, lz) rm1 lc).map V.int)) tq = some (.tup ((makeT (lc, lw, lz) rm1 lc).map V.int)) := upd_same
              generalize upd H7 tq (.tup ((makeT (lc, lw, lz) rm1 lc).map V.int)) = H8 at s8 h8t ⊢
              have s68 := sm.trans s8
              have h8r := s68 _ _ h6r
              have hkl1 : kv1.length ≤ 500 := by have := congrArg List.length hks4; simp at this; omega
              have hmk : Sum.inr lc ∈ kv1.map (·.1) := by rw [hks4]; exact List.mem_map.mpr ⟨lc, hlc, rfl⟩
              refine ⟨kv1, h8r, small1000 (by omega), ?_⟩
              have k9 : ∀ b o, b ≠ rq → H8 b = some o → upd H8 rq (.dK (putK kv1 (Sum.inr lc) (.ref tq))) b = some o := fun b o hb e => by rw [upd_ne hb]; exact e
              have kt9 : ∀ b vs, H8 b = some (.tup vs) → upd H8 rq (.dK (putK kv1 (Sum.inr lc) (.ref tq))) b = some (.tup vs) := fun b vs e => k9 _ _ (ne_of e h8r (by intro z; cases z)) e
              have hRK : RoomsK (upd H8 rq (.dK (putK kv1 (Sum.inr lc) (.ref tq)))) (putK kv1 (Sum.inr lc) (.ref tq)) (makeT (lc, lw, lz) rm1) := by
                have := RoomsK.put (H' := upd H8 rq (.dK (putK kv1 (Sum.inr lc) (.ref tq)))) (M6.rk.keep fun _ _ e => s68 _ _ e) hmk kt9 (kt9 _ _ h8t)
                rwa [show setF rm1 lc (makeT (lc, lw, lz) rm1 lc) = makeT (lc, lw, lz) rm1 by rw [show makeT (lc, lw, lz) rm1 lc = _ from makeT_at (lc, lw, lz) rm1]; rfl] at this
              have hmsl : ∀ x ∈ cs, (makeT (lc, lw, lz) rm1 x).Sublist (rm1 x) := fun x hx => by
                by_cases e : x = lc
                · subst e
                  rw [show makeT (x, lw, lz) rm1 x = _ from makeT_at (x, lw, lz) rm1]
                  exact List.filter_sublist
                · rw [makeT_ne (l := (lc, lw, lz)) e]; exact List.Sublist.refl _
              refine ⟨_, _, ⟨upd_same, (keys_putK hmk).trans M4.ks, hRK, makeT_good M4.gd hop, fun x hx => (hmsl x hx).trans (M4.sl x hx), htop⟩, k9 _ _ nbr (s68 _ _ (s46 _ _ h4n)), (hRn6.keep fun _ _ e => s68 _ _ e).keep kt9, fun x hx => (hmsl x hx).trans (hs4 x hx), fun he x hx => ?_, fun b o e => k9 _ _ (ne_of_none e hrq) (s68 _ _ (s46 _ _ (s4 _ _ e)))⟩
              have he1 : ∀ y ∈ cs, rm1 y = rmc y := fun y hy => sub_len (hs4 y hy) (by have := congrArg List.length (he y hy); have := (hmsl y hy).length_le; omega)
              rw [etk] at hx
              rcases List.mem_append.mp hx with z | z
              · exact hcl4 he1 x z
              · rw [List.mem_singleton.mp z]
                refine closed_congr he1 (fun l hl => (llo l hl).1.1) (closed_one hfl fun v hv => ?_)
                dsimp only at hv
                have e6 : makeT (lc, lw, lz) rm1 lc = rm1 lc := (he lc hlc).trans (he1 lc hlc).symm
                rw [← e6] at hv
                exact makeT_tru (lc, lw, lz) rm1 v hv
        · rintro σ H4 ⟨kv1, rm1, w3, w4, w5, w6, w7, rfl, M4, h4n, hRn, hs4, hcl4, s4⟩
          rw [hC.length, List.take_length] at hcl4
          refine ⟨sizeR cs rm1 + sizeR cs rmc, by have := sizeR_sub hs4; omega, nb, kv, rmc, kv1, rm1, _, _, _, _, _, rfl, M4, nbr, h4n, s4, .inr ⟨M2.ks, hRn, hs4, fun he x hx => closed_congr (fun y hy => (he y hy).symm) (fun l hl => ((hco x hx).2.2 l hl).1.1) (hcl4 he x hx), rfl⟩⟩
      · rw [if_neg Bool.false_ne_true]
        exact hR _ _ ⟨kv, rmc, _, _, _, _, _, _, rfl, M2, hcd, s2⟩
    · rintro σ H2 ⟨kv, rmc, v2, v3, v4, v5, v6, v7, rfl, M2, hcd, s2⟩
      (try ctx_has vcx true_and)
      exact k1 rq kv rmc H2 hrq M2.fr M2.ks M2.rk ⟨M2.gd, M2.sl, hcd, M2.top⟩ s2
theorem ltrs : (Str.ofString "abcdefghij").cps.toList.length = 10 := by decide +kernel
noncomputable def nmR (k : Nat) : Str := Str.ofString "x" ++ ⟨#[(Str.ofString "abcdefghij").cps.toList[k / 10]?.getD 0]⟩ ++ ⟨#[(Str.ofString "abcdefghij").cps.toList[k % 10]?.getD 0]⟩
theorem ltr_at {k : Nat} (h : k < 10) : (Str.ofString "abcdefghij").cps.toList[k]? = some ((Str.ofString "abcdefghij").cps.toList[k]?.getD 0) := by
  rw [List.getElem?_eq_getElem (by rw [ltrs]; exact h)]
  rfl
theorem nmR_nodup : ((List.range 40).map nmR).Nodup := by decide +kernel
theorem nmR_ok : ∀ k ∈ List.range 40, PyData.strOk (nmR k) = true := by decide +kernel
noncomputable def spRowN : Sp := fun vs H Q _ => ∃ (m : Int), vs = [.int m] ∧ 1 ≤ m ∧ m ≤ 40 ∧ ∀ p (ws : List Str) H', H p = none → H' p = some (.lst (ws.map V.str)) → ws.Nodup → ws.length = m.toNat → (∀ w ∈ ws, PyData.strOk w = true) → Same H H' → Q (.ref p) H'
theorem ok__law_names_of_row {P : Program} {w : World} {K : PySem.W.Frag} {mg : Str → Option Value} {base : Heap}  (T : Txt K mg) (L : FnL K mg "_law_names_of_row" s__law_names_of_row ["_law_many"])  : Fn P w K mg base "_law_names_of_row" 1 ["_law_many"] (spRowN) := by
  have nd := sc__law_names_of_row.nd
  refine L.ok sc__law_names_of_row (fun vs H Q E h => ?_) (fun f cdv A outer s H vs Q E hr h => ?_)
  · obtain ⟨m, rfl, m1, m2, k⟩ := h
    rfl
  · obtain ⟨m, rfl, m1, m2, k⟩ := h
    have hu := hu_of hr
    refine ⟨_, (pss_cons (ps_set (i := 1) nd rfl (by first | exact Or.inl rfl | exact Or.inr rfl) pe_str)
      (pss_one (ps_ret (pe_comp (N := ["_law_k", "_law_letters"]) (nt := 1) (js := [1]) rfl (compOk_of ["_law_many", "_law_letters"] (defScope s__law_names_of_row).names rfl rfl rfl (by decide +kernel)) (pi_range1 rfl T.b_range (pa_cons (pvM 0) pa_nil)) (fun _ _ _ _ _ _ => (pg_name (i := 0) (show List.Nodup [("_law_k" : Str), ("_law_letters" : Str)] by decide +kernel) rfl (Or.inl rfl))) (tgOk_name (by decide)) (fun _ _ _ _ _ _ => pts_nil) (fun _ _ _ _ _ _ => (pe_op op_catS (pe_op op_catS pe_str (pe_ix ix_S (pvM 1) (pe_op op_fdivW (pvM 0) pe_int) (fun _ _ => rfl))) (pe_ix ix_S (pvM 1) (pe_op op_mod (pvM 0) pe_int) (fun _ _ => rfl)))))))), ?_⟩
    (try ctx_has vcx true_and)
    refine ⟨by omega, by omega, fun D hD => ?_⟩
    refine comp_g wlk_range (fun i ys H' => ys = ((List.range i).map fun k => V.str (nmR k)) ∧ H' D = some (.lst ys) ∧ Same H H') ⟨rfl, upd_same, Same.upd0 hD⟩ (fun _ _ _ _ => True.intro) ?_ ?_
    · rintro i x ys H1 hi hx ⟨rfl, h1, s1⟩
      rw [rngV_length] at hi
      rw [rngV_get hi] at hx
      cases hx
      have hz : (Str.ofString "abcdefghij").length ≤ sizeLine := by rw [sizeLine_eq]; decide +kernel
      have hx1 : (Str.ofString "x").length = 1 := by decide +kernel
      have e1 : ∀ c, Str.length { cps := #[c] } = 1 := fun c => rfl
      (try ctx_has vcx true_and)
      have a1 : atI (Str.ofString "abcdefghij").cps.toList ((0 + (i : Int)) / 10) = some ((Str.ofString "abcdefghij").cps.toList[i / 10]?.getD 0) := by
        rw [show (0 + (i : Int)) / 10 = ((i / 10 : Nat) : Int) by omega]
        exact atI_nat (ltr_at (by omega))
      have a2 : atI (Str.ofString "abcdefghij").cps.toList ((0 + (i : Int)) % 10) = some ((Str.ofString "abcdefghij").cps.toList[i % 10]?.getD 0) := by
        rw [show (0 + (i : Int)) % 10 = ((i % 10 : Nat) : Int) by omega]
        exact atI_nat (ltr_at (by omega))
      have l2 : ∀ c, (Str.ofString "x" ++ Str.mk #[c]).length = 2 := fun c => by
        show ((Str.ofString "x").cps ++ #[c]).size = 2
        rw [Array.size_append, show (Str.ofString "x").cps.size = 1 from hx1]; rfl
      refine ⟨⟨by omega, by omega⟩, hz, _, a1, by rw [hx1, e1, sizeLine_eq]; decide, by omega, hz, _, a2, by rw [l2, e1, sizeLine_eq]; decide, h1, ?_, ?_, upd_same, ?_⟩
      · rw [sizeLine_eq]; simp; omega
      · rw [List.range_succ, List.map_append]; rfl
      · exact fun b o e => by rw [upd_ne (fun z => by subst z; rw [hD] at e; cases e)]; exact s1 _ _ e
    · rintro ys H1 ⟨rfl, h1, s1⟩
      rw [rngV_length] at h1
      have hsub : ((List.range m.toNat).map nmR).Sublist ((List.range 40).map nmR) := (List.range_sublist.mpr (by omega)).map nmR
      refine k D ((List.range m.toNat).map nmR) H1 hD (by rw [List.map_map]; exact h1) (nmR_nodup.sublist hsub) (by simp) (fun w hw => ?_) s1
      obtain ⟨j, hj, rfl⟩ := List.mem_map.mp (hsub.subset hw)
      exact nmR_ok j hj
structure RoomsOk (ws : List Str) (kvs : List (Key × V)) (rm : Str → List Int) (H : Hp) : Prop where
  ki : KeysIn kvs ws
  kl : kvs.length ≤ ws.length
  rf : RoomsFor H kvs ws rm
  gd : ∀ c ∈ ws, rm c ≠ [] ∧ (rm c).length ≤ 10 ∧ (rm c).Nodup
theorem RoomsOk.keep {ws : List Str} {kvs : List (Key × V)} {rm : Str → List Int} {H H' : Hp} (h : RoomsOk ws kvs rm H) (kt : ∀ a vs, H a = some (.tup vs) → H' a = some (.tup vs)) : RoomsOk ws kvs rm H' := ⟨h.ki, h.kl, fun c hc => by
  obtain ⟨a, h1, h2⟩ := h.rf c hc
  exact ⟨a, h1, kt _ _ h2⟩, h.gd⟩
theorem RoomsOk.put {ws : List Str} {kvs : List (Key × V)} {rm : Str → List Int} {H : Hp} {c : Str} {t : Addr} {zs : List Int} (h : RoomsOk ws kvs rm H) (hc : c ∉ ws) (ht : H t = some (.tup (zs.map V.int))) (hz : zs ≠ [] ∧ zs.length ≤ 10 ∧ zs.Nodup) : RoomsOk (ws ++ [c]) (putK kvs (Sum.inr c) (.ref t)) (setF rm c zs) H := by
  have hcw : ∀ x ∈ ws, x ≠ c := fun x hx z => hc (z ▸ hx)
  refine ⟨h.ki.put (by simp) (fun x hx => List.mem_append_left _ hx), ?_, fun x hx => ?_, fun x hx => ?_⟩
  · have := length_putK kvs (Sum.inr c) (V.ref t)
    have := h.kl
    simp
    omega
  · rw [valV_put]
    rcases List.mem_append.mp hx with q | q
    · rw [if_neg (fun z => hcw x q (Sum.inr.inj z)), setF_ne rm zs (hcw x q)]
      exact h.rf x q
    · rw [List.mem_singleton.mp q, if_pos rfl, setF_same]
      exact ⟨t, rfl, ht⟩
  · rcases List.mem_append.mp hx with q | q
    · rw [setF_ne rm zs (hcw x q)]
      exact h.gd x q
    · rw [List.mem_singleton.mp q, setF_same]
      exact hz
theorem cls_last {H : Hp} {us : List V} {cls : List (List L3)} (h : ClsAt H us cls) (hne : cls ≠ []) : ∃ us0 ct ut ls, us = us0 ++ [.ref ct] ∧ ls ∈ cls ∧ H ct = some (.tup ut) ∧ Rows3 H ut ls := by
  have hl := h.length
  rcases List.eq_nil_or_concat us with e | ⟨us0, v, e⟩
  · rw [e] at hl
    exact absurd (List.length_eq_zero_iff.mp hl.symm) hne
  · subst e
    obtain ⟨ct, ut, ls, rfl, h2, h3, h4⟩ := h.get (i := us0.length) (v := v) (by simp)
    exact ⟨us0, ct, ut, ls, by simp, List.mem_of_getElem? h2, h3, h4⟩
theorem ClsAt.rev {H : Hp} {us : List V} {cls : List (List L3)} (h : ClsAt H us cls) : ClsAt H us.reverse cls.reverse := by
  obtain ⟨as, h1, h2, h3⟩ := h
  exact ⟨as.reverse, by rw [h1, List.map_reverse], by rw [h2, List.map_reverse], fun x hx => h3 x (List.mem_reverse.mp hx)⟩
noncomputable def sevens (n : Nat) : List Int := (List.range n).map fun (k : Nat) => 7 + (k : Int)
theorem sevens_ok {n : Nat} (h : 1 ≤ n) (h2 : n ≤ 10) : sevens n ≠ [] ∧ (sevens n).length ≤ 10 ∧ (sevens n).Nodup := by
  have e : (sevens n).length = n := by simp [sevens]
  refine ⟨fun z => by rw [z] at e; simp at e; omega, by omega, ?_⟩
  unfold sevens
  exact List.Pairwise.map _ (fun a b h e => h (by omega)) List.nodup_range
theorem seven_comp {Q : VK} {H2 : Hp} {D : Addr} {n : Nat} (hD : H2 D = none) (hn : n ≤ 10) (k : ∀ H', Same H2 H' → H' D = some (.lst ((sevens n).map V.int)) → Q (.ref D) H') : CompG (Itr 0 n) [none] (gName 0) tYes (tOp (rI0 fun i j => V.int (i + j)) (tC (V.int 7)) (tVarM 0)) Q H2 D := by
  refine comp_g wlk_range (fun i ys H' => ys = ((List.range i).map fun (k : Nat) => V.int (7 + (k : Int))) ∧ H' D = some (.lst ys) ∧ Same H2 H') ⟨rfl, upd_same, Same.upd0 hD⟩ (fun _ _ _ _ => True.intro) ?_ ?_
  · rintro i x ys H1 hi hx ⟨rfl, h1, s1⟩
    rw [rngV_length] at hi
    rw [rngV_get hi] at hx
    cases hx
    (try ctx_has vcx true_and)
    refine ⟨h1, by rw [sizeLine_eq]; simp; omega, ?_, upd_same, fun b o e => by rw [upd_ne (fun z => by subst z; rw [hD] at e; cases e)]; exact s1 _ _ e⟩
    rw [List.range_succ, List.map_append]
    simp
  · rintro ys H1 ⟨rfl, h1, s1⟩
    rw [rngV_length] at h1
    exact k H1 s1 (by unfold sevens; rw [List.map_map]; exact h1)
noncomputable def spRow : Sp := fun vs H Q _ => ∃ (d l a : Addr) (ws : List Str), vs = [.ref d, .ref a] ∧ DealAt H d l ∧ (a ≠ d ∧ a ≠ l) ∧ H a = some (.lst (ws.map V.str)) ∧ 1 ≤ ws.length ∧ ws.length ≤ 40 ∧ ws.Nodup ∧ (∀ w ∈ ws, PyData.strOk w = true) ∧
  ∀ (t r c : Addr) (kvs : List (Key × V)) (rm : Str → List Int) (us : List V) (cls : List (List L3)) (H' : Hp), H t = none → H r = none → H c = none → H' t = some (.tup [.ref r, .ref c]) → H' r = some (.dK kvs) → RoomsOk ws kvs rm H' → H' c = some (.lst us) → ClsAt H' us cls → cls.length ≤ 42 → (∀ c ∈ cls, c.length ≤ 40 ∧ clOk ws c) → DealAt H' d l → But d l H H' → Q (.ref t) H'
theorem ok__law_row {P : Program} {w : World} {K : PySem.W.Frag} {mg : Str → Option Value} {base : Heap}  (T : Txt K mg) (L : FnL K mg "_law_row" s__law_row ["_law_deal_here", "_law_names_here"]) (F_law_draw : Fn P w K mg base "_law_draw" 1 ["_law_deal_here", "_law_many"] (spDraw)) : Fn P w K mg base "_law_row" 2 ["_law_deal_here", "_law_names_here"] (spRow) := by
  have nd := sc__law_row.nd
  refine L.ok sc__law_row (fun vs H Q E h => ?_) (fun f cdv A outer s H vs Q E hr h => ?_)
  · obtain ⟨d, l, a, ws, rfl, D, na, ha, hw1, hwl, hwn, hwo, k⟩ := h
    rfl
  · obtain ⟨d, l, a, ws, rfl, D, na, ha, hw1, hwl, hwn, hwo, k⟩ := h
    have hu := hu_of hr
    refine ⟨_, (pss_cons (ps_set (i := 2) nd rfl (by first | exact Or.inl rfl | exact Or.inr rfl) pe_dnewK)
      (pss_cons (ps_set (i := 3) nd rfl (by first | exact Or.inl rfl | exact Or.inr rfl) (pe_lst (pa_cons (pe_tup (pa_cons (pe_tup (pa_cons (pe_ix ix_L (pvM 1) pe_int (fun _ _ => rfl)) (pa_cons pe_str (pa_cons pe_int pa_nil)))) pa_nil)) pa_nil)))
      (pss_cons (ps_for PassesOwn.never rfl (pi_enumL (K := K) rfl rfl T.b_enumerate (pa_cons (pvM 1) pa_nil)) (pg_tupT (n := 2) rfl (pgs_cons (pg_name (i := 4) nd rfl (by first | exact Or.inl rfl | exact Or.inr rfl)) (pgs_cons (pg_name (i := 5) nd rfl (by first | exact Or.inl rfl | exact Or.inr rfl)) pgs_nil))) (pss_cons (ps_dp hu (pvM 2) (pvM 5) (pe_callTy call_tupL rfl T.b_tuple (show bootBuiltins "tuple" = some (.type "tuple") by decide +kernel) (pa_cons (pe_comp (N := ["_law_value"]) (nt := 1) (js := []) rfl (compOk_of ["_law_deal_here", "_law_names_here", "_law_rooms_here", "_law_clauses_here", "_law_k", "_law_name", "_law_literal"] (defScope s__law_row).names rfl rfl rfl (by decide +kernel)) (pi_range1 rfl T.b_range (pa_cons (pe_op op_add pe_int (pe_callF F_law_draw (hr.mono (by first | decide | omega)) rfl (pa_cons (pvM 0) (pa_cons pe_int pa_nil)))) pa_nil)) (fun _ _ _ _ _ _ => (pg_name (i := 0) (show List.Nodup [("_law_value" : Str)] by decide +kernel) rfl (Or.inl rfl))) (tgOk_name (by decide)) (fun _ _ _ _ _ _ => pts_nil) (fun _ _ _ _ _ _ => (pe_op op_add pe_int (pvM 0)))) pa_nil)) rfl)
      (pss_one (ps_if (pt_cmpR op_gt (pvM 4) pe_int (nomark _)) (pss_cons (ps_set (i := 6) nd rfl (by first | exact Or.inl rfl | exact Or.inr rfl) (pe_ix ix_L (pe_lst (pa_cons (pe_tup (pa_cons (pvM 5) (pa_cons pe_str (pa_cons pe_int pa_nil)))) (pa_cons (pe_tup (pa_cons (pvM 5) (pa_cons pe_str (pa_cons pe_int pa_nil)))) pa_nil))) (pe_callF F_law_draw (hr.mono (by first | decide | omega)) rfl (pa_cons (pvM 0) (pa_cons pe_int pa_nil))) (fun _ _ => rfl)))
      (pss_one (ps_expr (pe_mL PySem.F.slot_list_append PySem.F.type_list_append ml_append (pvM 3) (pa_cons (pe_callTy call_tupL rfl T.b_tuple (show bootBuiltins "tuple" = some (.type "tuple") by decide +kernel) (pa_cons (pe_callB call_sortedR rfl T.b_sorted (show bootBuiltins "sorted" = some (.builtin "sorted") by decide +kernel) (pa_cons (pe_lst (pa_cons (pe_tup (pa_cons (pe_ix ix_L (pvM 1) (pe_op op_sub (pvM 4) pe_int) (fun _ _ => rfl)) (pa_cons pe_str (pa_cons (pe_ix ix_T (pe_ix ix_T (pe_ix ix_L (pvM 3) (pe_un un_neg pe_int) (fun _ _ => rfl)) (pe_un un_neg pe_int) (fun _ _ => rfl)) pe_int (fun _ _ => rfl)) pa_nil)))) (pa_cons (pvM 6) pa_nil))) pa_nil)) pa_nil)) pa_nil))))) pss_nil))))
      (pss_cons (ps_if (pt_cmpR op_eq (pe_callF F_law_draw (hr.mono (by first | decide | omega)) rfl (pa_cons (pvM 0) (pa_cons pe_int pa_nil))) pe_int (nomark _)) (pss_one (ps_expr (pe_mL PySem.F.slot_list_append PySem.F.type_list_append ml_append (pvM 3) (pa_cons (pe_tup (pa_cons (pe_tup (pa_cons (pe_ix ix_L (pvM 1) (pe_un un_neg pe_int) (fun _ _ => rfl)) (pa_cons pe_str (pa_cons (pe_op op_add pe_int (pe_callF F_law_draw (hr.mono (by first | decide | omega)) rfl (pa_cons (pvM 0) (pa_cons pe_int pa_nil)))) pa_nil)))) pa_nil)) pa_nil)))) pss_nil)
      (pss_one (ps_ret (pe_tup (pa_cons (pvM 2) (pa_cons (pe_listrev rfl rfl T.b_list rfl T.b_reversed (pvM 3)) pa_nil))))))))), ?_⟩
    (try ctx_has vcx true_and ha)
    intro p hp
    obtain ⟨w0, hw0⟩ : ∃ w0, ws[0]? = some w0 := by
      cases ws with
      | nil => simp at hw1
      | cons x y => exact ⟨x, rfl⟩
    have hw0m : w0 ∈ ws := List.mem_of_getElem? hw0
    refine ⟨_, by rw [upd_ne (ne_of_none ha hp)]; exact ha, V.str w0, atI_nat (j := 0) (by rw [List.getElem?_map, hw0]; rfl), by decide, fun p1 hp1 => ⟨by decide, fun p2 hp2 => ⟨by decide, fun g hg => ?_⟩⟩⟩
    have s1 : Same H (upd H p (.dK [])) := Same.upd0 hp
    have h1p : upd H p (.dK []) p = some (.dK []) := upd_same
    generalize upd H p (.dK []) = H1 at s1 h1p hp1 hp2 hg ⊢
    have s2 : Same H1 (upd H1 p1 (.tup [V.str w0, V.str (Str.ofString "is"), V.int 7])) := Same.upd0 hp1
    have h2p : upd H1 p1 (.tup [V.str w0, V.str (Str.ofString "is"), V.int 7]) p1 = some (.tup (l3V (w0, Str.ofString "is", 7))) := upd_same
    generalize upd H1 p1 (.tup [V.str w0, V.str (Str.ofString "is"), V.int 7]) = H2 at s2 h2p hp2 hg ⊢
    have s3 : Same H2 (upd H2 p2 (.tup [V.ref p1])) := Same.upd0 hp2
    have h3p : upd H2 p2 (.tup [V.ref p1]) p2 = some (.tup [V.ref p1]) := upd_same
    generalize upd H2 p2 (.tup [V.ref p1]) = H3 at s3 h3p hg ⊢
    have s4 : Same H3 (upd H3 g (.lst [V.ref p2])) := Same.upd0 hg
    have h4g : upd H3 g (.lst [V.ref p2]) g = some (.lst [V.ref p2]) := upd_same
    have s03 := s1.trans (s2.trans s3)
    have hgH : H g = none := by
      cases e : H g with
      | none => rfl
      | some o => rw [s03 _ _ e] at hg; cases hg
    generalize upd H3 g (.lst [V.ref p2]) = H4 at s4 h4g ⊢
    have s04 := s03.trans s4
    have h4a := s04 _ _ ha
    have D4 := D.same s04
    have h4p := s4 _ _ (s3 _ _ (s2 _ _ h1p))
    have ngp : g ≠ p := ne_of h4g h4p (by intro z; cases z)
    have np := D.ne hp
    have ng := D.ne hgH
    have okw : ∀ c ∈ ws, ∀ z : Int, okL3 (c, Str.ofString "is", z) ∧ okL3 (c, Str.ofString "not", z) := fun c hc z => ⟨⟨hwo c hc, (show PyData.strOk (Str.ofString "is") = true by decide +kernel)⟩, ⟨hwo c hc, (show PyData.strOk (Str.ofString "not") = true by decide +kernel)⟩⟩
    (try ctx_has vcx true_and h4a iEl)
    refine for_egl (xs := ws.map V.str) (fun j σ H' => ∃ kvs rm ys cls v4 v5 v6, σ = [some (.ref d), some (.ref a), some (.ref p), some (.ref g), v4, v5, v6] ∧ H' p = some (.dK kvs) ∧ RoomsOk (ws.take j) kvs rm H' ∧ H' g = some (.lst ys) ∧ ClsAt H' ys cls ∧ cls ≠ [] ∧ (∀ c ∈ cls, c ≠ []) ∧ cls.length ≤ j + 1 ∧ (∀ c ∈ cls, c.length ≤ 40 ∧ clOk ws c) ∧ DealAt H' d l ∧ But d l H H') ⟨[], fun _ => [], [V.ref p2], [[(w0, Str.ofString "is", 7)]], _, _, _, rfl, h4p, ⟨⟨by simp, fun x hx => by simp at hx⟩, by simp, fun c hc => by simp at hc, fun c hc => by simp at hc⟩, h4g, ClsAt.nil.snoc (s4 _ _ h3p) (Rows3.nil.snoc (ls := []) (s4 _ _ (s3 _ _ h2p))), by simp, ?_, by simp, ?_, D4, (But.refl H).same s04⟩ (fun j σ H' zq40 => by obtain ⟨_, _, _, _, _, _, _, _, _, _, _, _, _, _, _, _, _, B⟩ := zq40; exact (.of (B a _ na.1 na.2 ha))) ?_ ?_
    · intro c hc
      rw [List.mem_singleton.mp hc]; simp
    · intro c hc
      rw [List.mem_singleton.mp hc]
      exact ⟨by simp, by simp, fun x hx => by rw [List.mem_singleton.mp hx]; exact ⟨hw0m, .inl rfl, (okw w0 hw0m 7).1⟩⟩
    · rintro j x σ H5 t hx ⟨kvs, rm, ys, cls, v4, v5, v6, rfl, h5p, hR5, h5g, hC5, hcne, hce, hcl, hco, D5, B5⟩ ht
      obtain ⟨c, hcj, rfl⟩ : ∃ c, ws[j]? = some c ∧ V.str c = x := by
        rw [List.getElem?_map] at hx
        cases e : ws[j]? with
        | none => rw [e] at hx; cases hx
        | some nm => rw [e] at hx; exact ⟨nm, rfl, Option.some.inj hx⟩
      have ett : upd H5 t (.tup [.int (j : Nat), .str c]) t = some (.tup [.int (j : Nat), .str c]) := upd_same
      have st6 : Same H5 (upd H5 t (.tup [.int (j : Nat), .str c])) := Same.upd0 ht
      generalize upd H5 t (.tup [.int (j : Nat), .str c]) = H6 at ett st6 ⊢
      (try ctx_has vcx true_and ett)
      have etk : ws.take (j + 1) = ws.take j ++ [c] := by rw [List.take_add_one, hcj]; rfl
      have hjl : j < ws.length := (List.getElem?_eq_some_iff.mp hcj).1
      have hcm : c ∈ ws := List.mem_of_getElem? hcj
      have hcn : c ∉ ws.take j := fun z => by
        have h1 : (ws.take (j + 1)).Nodup := hwn.sublist (List.take_sublist _ _)
        rw [etk] at h1
        exact (List.nodup_append.mp h1).2.2 c z c (by simp) rfl
      refine draw_rd (D5.same st6) (by decide) (by decide) fun r1 H7 r10 r11 D7 B7 => ⟨r1, rfl, by omega, by omega, fun Dd hDd => seven_comp hDd (by omega) fun H8 s8 h8 => ⟨Dd, rfl, _, h8, fun tt htt => ?_⟩⟩
      have s9 : Same H8 (upd H8 tt (.tup ((sevens (2 + r1).toNat).map V.int))) := Same.upd0 htt
      have h9t : upd H8 tt (.tup ((sevens (2 + r1).toNat).map V.int)) tt = some (.tup ((sevens (2 + r1).toNat).map V.int)) := upd_same
      generalize upd H8 tt (.tup ((sevens (2 + r1).toNat).map V.int)) = H9 at s9 h9t ⊢
      have B59 : But d l H5 H9 := (((But.refl H5).same st6).trans B7).same (s8.trans s9)
      have D9 := D7.same (s8.trans s9)
      have kt9 := (But.keepTI B59 D5).tup
      have h9p := B59 p _ np.1 np.2 h5p
      have h9g := B59 g _ ng.1 ng.2 h5g
      have hkl := hR5.kl
      have hkt : (ws.take j).length ≤ 40 := by rw [List.length_take]; omega
      refine ⟨kvs, h9p, small1000 (by omega), ?_⟩
      have kt10 : ∀ a vs, H9 a = some (.tup vs) → upd H9 p (.dK (putK kvs (Sum.inr c) (.ref tt))) a = some (.tup vs) := fun a vs e => by rw [upd_ne (ne_of e h9p (by intro z; cases z))]; exact e
      have hR10 : RoomsOk (ws.take (j + 1)) (putK kvs (Sum.inr c) (.ref tt)) (setF rm c (sevens (2 + r1).toNat)) (upd H9 p (.dK (putK kvs (Sum.inr c) (.ref tt)))) := by
        rw [etk]
        exact ((hR5.keep kt9).keep kt10).put hcn (kt10 _ _ h9t) (sevens_ok (by omega) (by omega))
      have h10g : upd H9 p (.dK (putK kvs (Sum.inr c) (.ref tt))) g = some (.lst ys) := by rw [upd_ne ngp]; exact h9g
      have h10p : upd H9 p (.dK (putK kvs (Sum.inr c) (.ref tt))) p = some (.dK (putK kvs (Sum.inr c) (.ref tt))) := upd_same
      have hC10 := (hC5.keep kt9).keep kt10
      have D10 : DealAt (upd H9 p (.dK (putK kvs (Sum.inr c) (.ref tt)))) d l := D9.put np.1 np.2
      have B10 : But d l H (upd H9 p (.dK (putK kvs (Sum.inr c) (.ref tt)))) := (B5.trans B59).put hp
      generalize upd H9 p (.dK (putK kvs (Sum.inr c) (.ref tt))) = H10 at hR10 h10g h10p hC10 D10 B10 ⊢
      by_cases hj0 : (0 : Int) < (j : Int)
      · rw [if_pos hj0]
        refine ⟨by decide, fun q1 hq1 => ⟨by decide, fun q2 hq2 => ⟨by decide, fun q3 hq3 => ?_⟩⟩⟩
        have s11 : Same H10 (upd (upd H10 q1 (.tup [V.str c, V.str (Str.ofString "is"), V.int 7])) q2 (.tup [V.str c, V.str (Str.ofString "is"), V.int 8])) := (Same.upd0 hq1).upd_new hq2
        have h11b : upd (upd H10 q1 (.tup [V.str c, V.str (Str.ofString "is"), V.int 7])) q2 (.tup [V.str c, V.str (Str.ofString "is"), V.int 8]) q2 = some (.tup (l3V (c, Str.ofString "is", 8))) := upd_same
        have h11a : upd (upd H10 q1 (.tup [V.str c, V.str (Str.ofString "is"), V.int 7])) q2 (.tup [V.str c, V.str (Str.ofString "is"), V.int 8]) q1 = some (.tup (l3V (c, Str.ofString "is", 7))) := by
          rw [upd_ne (fun z => by rw [← z, upd_same] at hq2; cases hq2)]; exact upd_same
        generalize upd (upd H10 q1 (.tup [V.str c, V.str (Str.ofString "is"), V.int 7])) q2 (.tup [V.str c, V.str (Str.ofString "is"), V.int 8]) = H11 at s11 h11a h11b hq3 ⊢
        have D11 := D10.same s11
        refine draw_of D11 hq3 (by decide) (by decide) rfl fun r2 v H13 hv e13 D13 B13 h13 => ⟨r2, rfl, _, h13, _, e13, ?_⟩
        have B1013 : But d l H10 H13 := ((But.refl H10).same s11).trans B13
        have kt13 := (But.keepTI B13 D11).tup
        obtain ⟨qv, z, rfl, h13q⟩ : ∃ (qv : Addr) (z : Int), v = V.ref qv ∧ H13 qv = some (.tup (l3V (c, Str.ofString "is", z))) := by
          simp only [List.mem_cons, List.not_mem_nil, or_false] at hv
          rcases hv with rfl | rfl
          · exact ⟨_, _, rfl, kt13 _ _ h11a⟩
          · exact ⟨_, _, rfl, kt13 _ _ h11b⟩
        have h13g := B1013 g _ ng.1 ng.2 h10g
        have h13p := B1013 p _ np.1 np.2 h10p
        have h13a := (B10.trans B1013) a _ na.1 na.2 ha
        have hC13 := hC10.keep (But.keepTI B1013 D10).tup
        have hR13 := hR10.keep (But.keepTI B1013 D10).tup
        obtain ⟨cp, hcp⟩ : ∃ cp, ws[j - 1]? = some cp := ⟨ws[j - 1], List.getElem?_eq_getElem _⟩
        have hcpm := List.mem_of_getElem? hcp
        refine ⟨⟨_, h13g⟩, _, h13a, V.str cp, ?_, ?_⟩
        · rw [show (j : Int) - 1 = ((j - 1 : Nat) : Int) by omega]
          exact atI_nat (by rw [List.getElem?_map, hcp]; rfl)
        obtain ⟨us0, ct, ut, lsl, rfl, hlm, h13c, hRl⟩ := cls_last hC13 hcne
        obtain ⟨ut0, tl, ls0, lx, rfl, rfl, _, h13l⟩ := rows_last hRl (fun z => hce _ hlm (by have := hRl.length; rw [z] at this; exact List.length_eq_zero_iff.mp this.symm))
        obtain ⟨lc, lw, lz⟩ := lx
        unfold l3V at h13l
        refine ⟨_, h13g, _, atI_last _ _, ct, rfl, _, h13c, _, atI_last _ _, tl, rfl, _, h13l, _, atI_nat (j := 2) rfl, by decide, fun t1 ht1 => ⟨by decide, fun bo hbo => ?_⟩⟩
        dsimp only at hbo ⊢
        have s14 : Same H13 (upd (upd H13 t1 (.tup [V.str cp, V.str (Str.ofString "not"), V.int lz])) bo (.lst [V.ref t1, V.ref qv])) := (Same.upd0 ht1).upd_new hbo
        have h14b : upd (upd H13 t1 (.tup [V.str cp, V.str (Str.ofString "not"), V.int lz])) bo (.lst [V.ref t1, V.ref qv]) bo = some (.lst [V.ref t1, V.ref qv]) := upd_same
        have h14t : upd (upd H13 t1 (.tup [V.str cp, V.str (Str.ofString "not"), V.int lz])) bo (.lst [V.ref t1, V.ref qv]) t1 = some (.tup (l3V (cp, Str.ofString "not", lz))) := by
          rw [upd_ne (fun z => by rw [← z, upd_same] at hbo; cases hbo)]; exact upd_same
        generalize upd (upd H13 t1 (.tup [V.str cp, V.str (Str.ofString "not"), V.int lz])) bo (.lst [V.ref t1, V.ref qv]) = H14 at s14 h14b h14t ⊢
        have h14q := s14 _ _ h13q
        have hrb : Rows3 H14 [V.ref t1, V.ref qv] [(cp, Str.ofString "not", lz), (c, Str.ofString "is", z)] := (Rows3.nil.snoc (ls := []) h14t).snoc h14q
        (try ctx_has vcx true_and h14b rSortedR)
        refine ⟨[t1, qv], rfl, by simp, fun x hx => ?_, fun q bs hq hperm => ⟨_, upd_same, fun tt2 htt2 => ?_⟩⟩
        · simp only [List.mem_cons, List.not_mem_nil, or_false] at hx
          rcases hx with rfl | rfl
          · exact ⟨_, _, _, h14t⟩
          · exact ⟨_, _, _, h14q⟩
        · obtain ⟨ms, hms, hrm⟩ := Rows3.perm (as := [t1, qv]) hrb hperm
          have s15 : Same H14 (upd (upd H14 q (.lst (bs.map V.ref))) tt2 (.tup (bs.map V.ref))) := (Same.upd0 hq).upd_new htt2
          have h15t : upd (upd H14 q (.lst (bs.map V.ref))) tt2 (.tup (bs.map V.ref)) tt2 = some (.tup (bs.map V.ref)) := upd_same
          generalize upd (upd H14 q (.lst (bs.map V.ref))) tt2 (.tup (bs.map V.ref)) = H15 at s15 h15t ⊢
          have s1315 := s14.trans s15
          have h15g := s1315 _ _ h13g
          have h15p := s1315 _ _ h13p
          have hyl := hC13.length
          have kt16 : ∀ a vs, H15 a = some (.tup vs) → upd H15 g (.lst (us0 ++ [V.ref ct] ++ [V.ref tt2])) a = some (.tup vs) := fun a vs e => by rw [upd_ne (ne_of e h15g (by intro z; cases z))]; exact e
          have hC16 := ((hC13.keep (fun _ _ e => s1315 _ _ e)).keep kt16).snoc (kt16 _ _ h15t) ((hrm.keep (fun _ _ e => s15 _ _ e)).keep kt16)
          refine ⟨_, h15g, small1000 (by omega), _, by rw [upd_ne (Ne.symm ngp)]; exact h15p, _, (hR13.keep (fun _ _ e => s1315 _ _ e)).keep kt16, _, upd_same, cls ++ [ms], hC16, by simp, fun x hx => ?_, by simp; omega, fun x hx => ?_, (D13.same s1315).put ng.1 ng.2, ((B10.trans B1013).same s1315).put hgH⟩
          · rcases List.mem_append.mp hx with w | w
            · exact hce x w
            · rw [List.mem_singleton.mp w]
              exact fun w => by rw [w] at hms; exact absurd hms.length_eq (by simp)
          · rcases List.mem_append.mp hx with w | w
            · exact hco x w
            · rw [List.mem_singleton.mp w]
              have hml := hms.length_eq
              simp only [List.length_cons, List.length_nil] at hml
              refine ⟨by omega, hms.nodup_iff.mpr ?_, fun y hy => ?_⟩
              · have : (Str.ofString "not") ≠ Str.ofString "is" := by decide +kernel
                simp [this]
              · have := hms.mem_iff.mp hy
                simp only [List.mem_cons, List.not_mem_nil, or_false] at this
                rcases this with rfl | rfl
                · exact ⟨hcpm, .inr rfl, (okw cp hcpm lz).2⟩
                · exact ⟨hcm, .inl rfl, (okw c hcm z).1⟩
      · rw [if_neg hj0]
        exact ⟨_, h10p, _, hR10, ys, h10g, cls, hC10, hcne, hce, by omega, hco, D10, B10⟩
    · rintro σ H5 ⟨kvs, rm, ys, cls, v4, v5, v6, rfl, h5p, hR5, h5g, hC5, hcne, hce, hcl, hco, D5, B5⟩
      rw [List.length_map, List.take_length] at hR5
      rw [List.length_map] at hcl
      have fin : ∀ H6 ys cls, H6 p = some (.dK kvs) → RoomsOk ws kvs rm H6 → H6 g = some (.lst ys) → ClsAt H6 ys cls → cls.length ≤ 42 → (∀ c ∈ cls, c.length ≤ 40 ∧ clOk ws c) → DealAt H6 d l → But d l H H6 → ∃ ys, H6 g = some (.lst ys) ∧ ∀ (l : Addr), H6 l = none → 2 ≤ sizeLine ∧ ∀ (p_1 : Addr), upd H6 l (.lst ys.reverse) p_1 = none → Q (V.ref p_1) (upd (upd H6 l (.lst ys.reverse)) p_1 (.tup [V.ref p, V.ref l])) := fun H6 ys cls h6p hR6 h6g hC6 hcl6 hco6 D6 B6 => by
        refine ⟨ys, h6g, fun lq hlq => ⟨by decide, fun tq htq => ?_⟩⟩
        have s7 : Same H6 (upd (upd H6 lq (.lst ys.reverse)) tq (.tup [V.ref p, V.ref lq])) := (Same.upd0 hlq).upd_new htq
        have h7l : upd (upd H6 lq (.lst ys.reverse)) tq (.tup [V.ref p, V.ref lq]) lq = some (.lst ys.reverse) := by
          rw [upd_ne (fun z => by rw [← z, upd_same] at htq; cases htq)]; exact upd_same
        have hlH := B6.free D6 hlq
        have htH : H tq = none := by
          refine B6.free D6 ?_
          cases e : H6 tq with
          | none => rfl
          | some o => rw [(Same.upd0 hlq) _ _ e] at htq; cases htq
        refine k tq p lq kvs rm _ cls.reverse _ htH hp hlH upd_same (s7 _ _ h6p) (hR6.keep fun _ _ e => s7 _ _ e) h7l (hC6.keep fun _ _ e => s7 _ _ e).rev (by simp; omega) (fun x hx => hco6 x (List.mem_reverse.mp hx)) (D6.same s7) (B6.same s7)
      (try ctx_has vcx true_and)
      refine draw_rd D5 (by decide) (by decide) fun r1 H6 r10 r11 D6 B6 => ⟨rfl, ?_⟩
      have B06 := B5.trans B6
      have kt6 := (But.keepTI B6 D5).tup
      have h6g := B6 g _ ng.1 ng.2 h5g
      have h6p := B6 p _ np.1 np.2 h5p
      by_cases h0 : V.int r1 = V.int 0
      · rw [if_pos h0]
        obtain ⟨wl, hwl1, hwlm⟩ : ∃ wl, atI (ws.map V.str) (-1) = some (V.str wl) ∧ wl ∈ ws := by
          rcases List.eq_nil_or_concat ws with e | ⟨w1, w2, e⟩
          · rw [e] at hw1; simp at hw1
          · subst e
            refine ⟨w2, ?_, by simp⟩
            rw [List.concat_eq_append, List.map_append]
            exact atI_last _ _
        refine ⟨⟨_, h6g⟩, _, B06 a _ na.1 na.2 ha, _, hwl1, draw_rd D6 (by decide) (by decide) fun r2 H7 r20 r21 D7 B7 => ⟨r2, rfl, by decide, fun q1 hq1 => ⟨by decide, fun q2 hq2 => ?_⟩⟩⟩
        have s8 : Same H7 (upd (upd H7 q1 (.tup [V.str wl, V.str (Str.ofString "not"), V.int (7 + r2)])) q2 (.tup [V.ref q1])) := (Same.upd0 hq1).upd_new hq2
        have h8b : upd (upd H7 q1 (.tup [V.str wl, V.str (Str.ofString "not"), V.int (7 + r2)])) q2 (.tup [V.ref q1]) q2 = some (.tup [V.ref q1]) := upd_same
        have h8a : upd (upd H7 q1 (.tup [V.str wl, V.str (Str.ofString "not"), V.int (7 + r2)])) q2 (.tup [V.ref q1]) q1 = some (.tup (l3V (wl, Str.ofString "not", 7 + r2))) := by
          rw [upd_ne (fun z => by rw [← z, upd_same] at hq2; cases hq2)]; exact upd_same
        generalize upd (upd H7 q1 (.tup [V.str wl, V.str (Str.ofString "not"), V.int (7 + r2)])) q2 (.tup [V.ref q1]) = H8 at s8 h8a h8b ⊢
        have B68 := B7.same s8
        have h8g := B68 g _ ng.1 ng.2 h6g
        have h8p := B68 p _ np.1 np.2 h6p
        have kt8 := (But.keepTI B68 D6).tup
        have kt9 : ∀ a vs, H8 a = some (.tup vs) → upd H8 g (.lst (ys ++ [V.ref q2])) a = some (.tup vs) := fun a vs e => by rw [upd_ne (ne_of e h8g (by intro z; cases z))]; exact e
        have hyl := hC5.length
        refine ⟨_, h8g, small1000 (by omega), fin _ _ (cls ++ [[(wl, Str.ofString "not", 7 + r2)]]) (by rw [upd_ne (Ne.symm ngp)]; exact h8p) (((hR5.keep kt6).keep kt8).keep kt9) upd_same ((((hC5.keep kt6).keep kt8).keep kt9).snoc (kt9 _ _ h8b) (Rows3.nil.snoc (ls := []) (kt9 _ _ h8a))) (by simp; omega) (fun x hx => ?_) ((D7.same s8).put ng.1 ng.2) ((B06.trans B68).put hgH)⟩
        rcases List.mem_append.mp hx with w | w
        · exact hco x w
        · rw [List.mem_singleton.mp w]
          exact ⟨by simp, by simp, fun y hy => by rw [List.mem_singleton.mp hy]; exact ⟨hwlm, .inr rfl, (okw wl hwlm _).2⟩⟩
      · rw [if_neg h0]
        exact fin H6 ys cls h6p (hR5.keep kt6) h6g (hC5.keep kt6) (by omega) hco D6 B06
noncomputable def GoneV (cls : List (List L3)) (n : Str) (v : Int) : Prop := ∀ r' : Str → List Int, (∀ c ∈ cls, closedC r' c) → v ∉ r' n
theorem GoneV.more {cls : List (List L3)} {n : Str} {v : Int} (h : GoneV cls n v) (ms : List L3) : GoneV (cls ++ [ms]) n v := fun r' hr' => h r' fun c hc => hr' c (List.mem_append_left _ hc)
noncomputable def sevR : Str → List Int := fun _ => [7]
theorem is_ne_not : (Str.ofString "not" : Str) ≠ "is" := by decide +kernel
theorem hold_is (n : Str) (z v : Int) : holdsL (n, Str.ofString "is", z) v = decide (v = z) := by unfold holdsL; rw [if_pos rfl]
theorem hold_not (n : Str) (z v : Int) : holdsL (n, Str.ofString "not", z) v = !decide (v = z) := by unfold holdsL; rw [if_neg is_ne_not]
structure ChainOk (ws : List Str) (cls : List (List L3)) (lb : List L3) : Prop where
  lb : lb = [] ∨ ∃ n z, lb = [(n, Str.ofString "is", z)] ∧ n ∈ ws ∧ z ≠ 7 ∧ GoneV cls n z
  r7 : ∀ c ∈ cls, closedC sevR c
  ok : ∀ c ∈ cls, c.length ≤ 40 ∧ clOk ws c
theorem chain_step {ws : List Str} {cls : List (List L3)} {lb ms : List L3} {n : Str} {v : Int} (h : ChainOk ws cls lb) (hn : n ∈ ws) (hv : v ≠ 7) (hwo : ∀ w ∈ ws, PyData.strOk w = true) (hms : ms.Perm (lb ++ [(n, Str.ofString "not", v)])) :
    ChainOk ws (cls ++ [ms]) [(n, Str.ofString "is", v)] ∧ GoneV (cls ++ [ms]) n v := by
  have okw : ∀ c ∈ ws, ∀ z : Int, okL3 (c, Str.ofString "is", z) ∧ okL3 (c, Str.ofString "not", z) := fun c hc z => ⟨⟨hwo c hc, (show PyData.strOk (Str.ofString "is") = true by decide +kernel)⟩, ⟨hwo c hc, (show PyData.strOk (Str.ofString "not") = true by decide +kernel)⟩⟩
  have hmn : (n, Str.ofString "not", v) ∈ ms := hms.mem_iff.mpr (by simp)
  have hmem : ∀ x ∈ ms, x ∈ lb ∨ x = (n, Str.ofString "not", v) := fun x hx => by
    rcases List.mem_append.mp (hms.mem_iff.mp hx) with q | q
    · exact .inl q
    · exact .inr (List.mem_singleton.mp q)
  have hlb : ∀ x ∈ lb, ∃ m z, x = (m, Str.ofString "is", z) ∧ m ∈ ws ∧ z ≠ 7 ∧ GoneV cls m z := fun x hx => by
    rcases h.lb with e | ⟨m, z, e, h1, h2, h3⟩
    · rw [e] at hx; simp at hx
    · rw [e] at hx; exact ⟨m, z, List.mem_singleton.mp hx, h1, h2, h3⟩
  have hg : GoneV (cls ++ [ms]) n v := fun r' hr' hin => by
    have hc := hr' ms (by simp)
    have hot : truL (n, Str.ofString "not", v) r' := hc.2 _ hmn fun x hx hne => by
      rcases hmem x hx with q | q
      · obtain ⟨m, z, rfl, _, _, hgz⟩ := hlb x q
        intro u hu
        rw [hold_is]
        exact decide_eq_false fun e => by
          subst e
          exact hgz r' (fun c hc => hr' c (List.mem_append_left _ hc)) hu
      · exact absurd q hne
    have := hot v hin
    rw [hold_not] at this
    simp at this
  refine ⟨⟨.inr ⟨n, v, rfl, hn, hv, hg⟩, fun c hc => ?_, fun c hc => ?_⟩, hg⟩
  · rcases List.mem_append.mp hc with q | q
    · exact h.r7 c q
    · rw [List.mem_singleton.mp q]
      have ht : ∀ u ∈ sevR n, holdsL (n, Str.ofString "not", v) u = true := fun u hu => by
        rw [List.mem_singleton.mp hu, hold_not]
        simp [Ne.symm hv]
      have hnu : ¬ untL (n, Str.ofString "not", v) sevR := fun hu => by
        have h1 := hu 7 (by simp [sevR])
        rw [ht 7 (by simp [sevR])] at h1
        cases h1
      refine ⟨⟨_, hmn, hnu⟩, fun l hl hall => ?_⟩
      rcases hmem l hl with w | w
      · obtain ⟨m, z, rfl, _, _, _⟩ := hlb l w
        exact absurd (hall _ hmn fun e => is_ne_not (Prod.mk.inj (Prod.mk.inj e).2).1) hnu
      · rw [w]; exact ht
  · rcases List.mem_append.mp hc with q | q
    · exact h.ok c q
    · rw [List.mem_singleton.mp q]
      have hml := hms.length_eq
      have hll : lb.length ≤ 1 := by
        rcases h.lb with e | ⟨m, z, e, _⟩ <;> rw [e] <;> simp
      rw [List.length_append] at hml
      refine ⟨by simp at hml; omega, hms.nodup_iff.mpr ?_, fun x hx => ?_⟩
      · rcases h.lb with e | ⟨m, z, e, _⟩
        · rw [e]; simp
        · rw [e]
          simp only [List.cons_append, List.nil_append, List.nodup_cons, List.mem_singleton, List.not_mem_nil, not_false_eq_true, List.nodup_nil, and_self, and_true]
          exact fun e => is_ne_not (Prod.mk.inj (Prod.mk.inj e).2).1.symm
      · rcases hmem x hx with w | w
        · obtain ⟨m, z, rfl, hm, _, _⟩ := hlb x w
          exact ⟨hm, .inl rfl, (okw m hm z).1⟩
        · rw [w]; exact ⟨hn, .inr rfl, (okw n hn v).2⟩
theorem seven_left {ws : List Str} {cls : List (List L3)} {rm : Str → List Int} (h7 : ∀ c ∈ ws, 7 ∈ rm c) (hc : ∀ c ∈ cls, closedC sevR c) (hg : ∀ c ∈ ws, ∀ v ∈ rm c, v ≠ 7 → GoneV cls c v) : LeftBy ws cls rm sevR := by
  refine ⟨fun c _ => ⟨by simp [sevR], by simp [sevR]⟩, fun c hc => List.singleton_sublist.mpr (h7 c hc), hc, fun r' hr' c hcw v hv => ?_⟩
  refine Classical.byContradiction fun z => ?_
  exact hg c hcw v (hr'.2.1 c hcw v hv) (fun e => z (by simp [sevR, e])) r' hr'.2.2 hv
theorem seven_dead {ws : List Str} {cls : List (List L3)} {rm : Str → List Int} {n : Str} (hn : n ∈ ws) (hg : ∀ c ∈ ws, ∀ v ∈ rm c, v ≠ 7 → GoneV cls c v) (r' : Str → List Int) : ¬ keepsR ws (cls ++ [[(n, Str.ofString "not", 7)]]) rm r' := fun hr' => by
  obtain ⟨⟨l, hl, hu⟩, _⟩ := hr'.2.2 [(n, Str.ofString "not", 7)] (by simp)
  rw [List.mem_singleton.mp hl] at hu
  refine hu fun v hv => ?_
  dsimp only at hv
  rw [hold_not]
  have : v = 7 := Classical.byContradiction fun z => hg n hn v (hr'.2.1 n hn v hv) z r' (fun c hc => hr'.2.2 c (List.mem_append_left _ hc)) hv
  simp [this]
theorem keys_new {kvs : List (Key × V)} {c : Str} {v : V} (h : Sum.inr c ∉ kvs.map (·.1)) : (putK kvs (Sum.inr c) v).map (·.1) = kvs.map (·.1) ++ [Sum.inr c] := by
  unfold putK
  rw [if_neg (fun z => by
    obtain ⟨y, hy, e⟩ := List.any_eq_true.mp z
    exact h (List.mem_map.mpr ⟨y, hy, of_decide_eq_true e⟩)), List.map_append]
  rfl
theorem inr_notin {ws : List Str} {c : Str} (h : c ∉ ws) : (Sum.inr c : Key) ∉ ws.map Sum.inr := fun z => by
  obtain ⟨x, hx, e⟩ := List.mem_map.mp z
  cases e
  exact h hx
theorem sevens_cons (n : Nat) : sevens (n + 1) = 7 :: (List.range n).map fun (k : Nat) => 7 + ((k + 1 : Nat) : Int) := by
  unfold sevens
  rw [List.range_succ_eq_map, List.map_cons, List.map_map]
  rfl
theorem sevens_tail {n : Nat} (h : 1 ≤ n) : 7 ∈ sevens n ∧ (∀ v ∈ (sevens n).drop 1, v ≠ 7) ∧ (∀ v ∈ sevens n, v ≠ 7 → v ∈ (sevens n).drop 1) ∧ ((sevens n).drop 1).length = n - 1 := by
  obtain ⟨m, rfl⟩ : ∃ m, n = m + 1 := ⟨n - 1, by omega⟩
  rw [sevens_cons]
  refine ⟨by simp, fun v hv => ?_, fun v hv hne => ?_, by simp⟩
  · obtain ⟨k, _, rfl⟩ := List.mem_map.mp hv
    omega
  · rcases List.mem_cons.mp hv with q | q
    · exact absurd q hne
    · exact q
theorem LeftBy.mem {ws : List Str} {c1 c2 : List (List L3)} {rm r : Str → List Int} (hm : ∀ c, c ∈ c1 ↔ c ∈ c2) (h : LeftBy ws c1 rm r) : LeftBy ws c2 rm r := ⟨h.gd, h.sl, fun c hc => h.cl c ((hm c).mpr hc), fun r' hr' => h.top r' ⟨hr'.1, hr'.2.1, fun c hc => hr'.2.2 c ((hm c).mp hc)⟩⟩
theorem TellsU.mem {H : Hp} {ws : List Str} {c1 c2 : List (List L3)} {rm : Str → List Int} {kvs : List (Key × V)} {x : V} (hm : ∀ c, c ∈ c1 ↔ c ∈ c2) (h : TellsU H ws c1 rm kvs x) : TellsU H ws c2 rm kvs x := by
  rcases h with ⟨h1, h2⟩ | ⟨q, kv', rm', h1, h2, h3, h4, h5, h6⟩
  · exact .inl ⟨h1, fun r' hr' => h2 r' ⟨hr'.1, hr'.2.1, fun c hc => hr'.2.2 c ((hm c).mp hc)⟩⟩
  · exact .inr ⟨q, kv', rm', h1, h2, h3, h4, h5, h6.mem hm⟩
noncomputable def spVal : Sp := fun vs H Q _ => ∃ (d l a : Addr) (ws : List Str), vs = [.ref d, .ref a] ∧ DealAt H d l ∧ (a ≠ d ∧ a ≠ l) ∧ H a = some (.lst (ws.map V.str)) ∧ 1 ≤ ws.length ∧ ws.length ≤ 14 ∧ ws.Nodup ∧ (∀ w ∈ ws, PyData.strOk w = true) ∧
  ∀ (t r c : Addr) (due : V) (kvs : List (Key × V)) (rm : Str → List Int) (us : List V) (cls : List (List L3)) (H' : Hp), H t = none → H r = none → H c = none → H' t = some (.lst [.ref r, .ref c, due]) → H' r = some (.dK kvs) → RoomsOk ws kvs rm H' → H' c = some (.lst us) → ClsAt H' us cls → cls.length ≤ 130 → (∀ c ∈ cls, c.length ≤ 40 ∧ clOk ws c) → TellsU H' ws cls rm kvs due → (∀ q, due = .ref q → H q = none) → DealAt H' d l → But d l H H' → Q (.ref t) H'
theorem ok__law_value_by_value {P : Program} {w : World} {K : PySem.W.Frag} {mg : Str → Option Value} {base : Heap}  (T : Txt K mg) (L : FnL K mg "_law_value_by_value" s__law_value_by_value ["_law_deal_here", "_law_names_here"]) (F_law_draw : Fn P w K mg base "_law_draw" 1 ["_law_deal_here", "_law_many"] (spDraw)) : Fn P w K mg base "_law_value_by_value" 2 ["_law_deal_here", "_law_names_here"] (spVal) := by
  have nd := sc__law_value_by_value.nd
  refine L.ok sc__law_value_by_value (fun vs H Q E h => ?_) (fun f cdv A outer s H vs Q E hr h => ?_)
  · obtain ⟨d, l, a, ws, rfl, D, na, ha, hw1, hwl, hwn, hwo, k⟩ := h
    rfl
  · obtain ⟨d, l, a, ws, rfl, D, na, ha, hw1, hwl, hwn, hwo, k⟩ := h
    have hu := hu_of hr
    refine ⟨_, (pss_cons (ps_set (i := 2) nd rfl (by first | exact Or.inl rfl | exact Or.inr rfl) pe_dnewK)
      (pss_cons (ps_set (i := 3) nd rfl (by first | exact Or.inl rfl | exact Or.inr rfl) (pe_lst pa_nil))
      (pss_cons (ps_set (i := 4) nd rfl (by first | exact Or.inl rfl | exact Or.inr rfl) (pe_tup pa_nil))
      (pss_cons (ps_for PassesOwn.never rfl (pi_LK (K := K) rfl (pvM 1)) (pg_name (i := 5) nd rfl (by first | exact Or.inl rfl | exact Or.inr rfl)) (pss_cons (ps_dp hu (pvM 2) (pvM 5) (pe_callTy call_tupL rfl T.b_tuple (show bootBuiltins "tuple" = some (.type "tuple") by decide +kernel) (pa_cons (pe_comp (N := ["_law_value"]) (nt := 1) (js := []) rfl (compOk_of ["_law_deal_here", "_law_names_here", "_law_rooms_here", "_law_clauses_here", "_law_before", "_law_name", "_law_value", "_law_due"] (defScope s__law_value_by_value).names rfl rfl rfl (by decide +kernel)) (pi_range1 rfl T.b_range (pa_cons (pe_op op_add pe_int (pe_callF F_law_draw (hr.mono (by first | decide | omega)) rfl (pa_cons (pvM 0) (pa_cons pe_int pa_nil)))) pa_nil)) (fun _ _ _ _ _ _ => (pg_name (i := 0) (show List.Nodup [("_law_value" : Str)] by decide +kernel) rfl (Or.inl rfl))) (tgOk_name (by decide)) (fun _ _ _ _ _ _ => pts_nil) (fun _ _ _ _ _ _ => (pe_op op_add pe_int (pvM 0)))) pa_nil)) rfl)
      (pss_one (ps_for PassesOwn.never rfl (pi_revT (K := K) rfl rfl T.b_reversed (pa_cons (pe_slice sl_Ts (pe_dg hu (pvM 2) (pvM 5) (fun _ _ => rfl)) (po_some pe_int) po_none) pa_nil)) (pg_name (i := 6) nd rfl (by first | exact Or.inl rfl | exact Or.inr rfl)) (pss_cons (ps_expr (pe_mL PySem.F.slot_list_append PySem.F.type_list_append ml_append (pvM 3) (pa_cons (pe_callTy call_tupL rfl T.b_tuple (show bootBuiltins "tuple" = some (.type "tuple") by decide +kernel) (pa_cons (pe_callB call_sortedRT rfl T.b_sorted (show bootBuiltins "sorted" = some (.builtin "sorted") by decide +kernel) (pa_cons (pe_op op_catTs (pvM 4) (pe_tup (pa_cons (pe_tup (pa_cons (pvM 5) (pa_cons pe_str (pa_cons (pvM 6) pa_nil)))) pa_nil))) pa_nil)) pa_nil)) pa_nil)))
      (pss_one (ps_set (i := 4) nd rfl (by first | exact Or.inl rfl | exact Or.inr rfl) (pe_tup (pa_cons (pe_tup (pa_cons (pvM 5) (pa_cons pe_str (pa_cons (pvM 6) pa_nil)))) pa_nil)))))))))
      (pss_cons (ps_set (i := 7) nd rfl (by first | exact Or.inl rfl | exact Or.inr rfl) pe_dnewK)
      (pss_cons (ps_for PassesOwn.never rfl (pi_LK (K := K) rfl (pvM 1)) (pg_name (i := 5) nd rfl (by first | exact Or.inl rfl | exact Or.inr rfl)) (pss_one (ps_dp hu (pvM 7) (pvM 5) (pe_tup (pa_cons pe_int pa_nil)) rfl)))
      (pss_cons (ps_if (pt_cmpR op_eq (pe_callF F_law_draw (hr.mono (by first | decide | omega)) rfl (pa_cons (pvM 0) (pa_cons pe_int pa_nil))) pe_int (nomark _)) (pss_cons (ps_expr (pe_mL PySem.F.slot_list_append PySem.F.type_list_append ml_append (pvM 3) (pa_cons (pe_tup (pa_cons (pe_tup (pa_cons (pe_ix ix_L (pvM 1) (pe_un un_neg pe_int) (fun _ _ => rfl)) (pa_cons pe_str (pa_cons pe_int pa_nil)))) pa_nil)) pa_nil)))
      (pss_one (ps_set (i := 7) nd rfl (by first | exact Or.inl rfl | exact Or.inr rfl) pe_non))) pss_nil)
      (pss_one (ps_ret (pe_lst (pa_cons (pvM 2) (pa_cons (pe_listrev rfl rfl T.b_list rfl T.b_reversed (pvM 3)) (pa_cons (pvM 7) pa_nil))))))))))))), ?_⟩
    (try ctx_has vcx true_and ha)
    intro p hp
    refine ⟨Nat.zero_le _, fun g hg => ⟨Nat.zero_le _, fun bt hbt => ?_⟩⟩
    have s1 : Same H (upd H p (.dK [])) := Same.upd0 hp
    have h1p : upd H p (.dK []) p = some (.dK []) := upd_same
    generalize upd H p (.dK []) = H1 at s1 h1p hg hbt ⊢
    have hgH : H g = none := by
      cases e : H g with
      | none => rfl
      | some o => rw [s1 _ _ e] at hg; cases hg
    have s2 : Same H1 (upd H1 g (.lst [])) := Same.upd0 hg
    have h2g : upd H1 g (.lst []) g = some (.lst []) := upd_same
    generalize upd H1 g (.lst []) = H2 at s2 h2g hbt ⊢
    have s3 : Same H2 (upd H2 bt (.tup [])) := Same.upd0 hbt
    have h3b : upd H2 bt (.tup []) bt = some (.tup []) := upd_same
    generalize upd H2 bt (.tup []) = H3 at s3 h3b ⊢
    have s03 := s1.trans (s2.trans s3)
    have h3a := s03 _ _ ha
    have h3p := s3 _ _ (s2 _ _ h1p)
    have h3g := s3 _ _ h2g
    have ngp : g ≠ p := ne_of h3g h3p (by intro z; cases z)
    have np := D.ne hp
    have ng := D.ne hgH
    refine ⟨_, h3a, ?_⟩
    refine for_g wlk_list (fun i σ H' => ∃ kvs rm ys cls b ub lb v5 v6, σ = [some (.ref d), some (.ref a), some (.ref p), some (.ref g), some (.ref b), v5, v6, none] ∧ H' p = some (.dK kvs) ∧ kvs.map (·.1) = (ws.take i).map Sum.inr ∧ RoomsOk (ws.take i) kvs rm H' ∧ (∀ c ∈ ws.take i, 7 ∈ rm c ∧ ∀ v ∈ rm c, v ≠ 7 → GoneV cls c v) ∧ H' g = some (.lst ys) ∧ ClsAt H' ys cls ∧ cls.length ≤ 9 * i ∧ H' b = some (.tup ub) ∧ Rows3 H' ub lb ∧ ChainOk ws cls lb ∧ DealAt H' d l ∧ But d l H H')
      ⟨[], fun _ => [], [], [], bt, [], [], _, _, rfl, h3p, (by simp), ⟨⟨by simp, fun x hx => by simp at hx⟩, by simp, fun c hc => by simp at hc, fun c hc => by simp at hc⟩, (fun c hc => by simp at hc), h3g, ClsAt.nil, Nat.zero_le _, h3b, Rows3.nil, ⟨.inl rfl, fun c hc => by simp at hc, fun c hc => by simp at hc⟩, D.same s03, (But.refl H).same s03⟩ (fun j σ H' zq41 => by obtain ⟨_, _, _, _, _, _, _, _, _, _, _, _, _, _, _, _, _, _, _, _, _, B⟩ := zq41; exact (.of (B a _ na.1 na.2 ha))) ?_ ?_
    · rintro i x σ H5 hi hx ⟨kvs, rm, ys, cls, b, ub, lb, v5, v6, rfl, h5p, hks, hR5, hgn, h5g, hC5, hcl, h5b, hRb, hch, D5, B5⟩
      obtain ⟨c, hcj, rfl⟩ : ∃ c, ws[i]? = some c ∧ V.str c = x := by
        rw [List.getElem?_map] at hx
        cases e : ws[i]? with
        | none => rw [e] at hx; cases hx
        | some nm => rw [e] at hx; exact ⟨nm, rfl, Option.some.inj hx⟩
      have etk : ws.take (i + 1) = ws.take i ++ [c] := by rw [List.take_add_one, hcj]; rfl
      have hjl : i < ws.length := (List.getElem?_eq_some_iff.mp hcj).1
      have hcm : c ∈ ws := List.mem_of_getElem? hcj
      have hcn : c ∉ ws.take i := fun z => by
        have h1 : (ws.take (i + 1)).Nodup := hwn.sublist (List.take_sublist _ _)
        rw [etk] at h1
        exact (List.nodup_append.mp h1).2.2 c z c (by simp) rfl
      (try ctx_has vcx true_and)
      refine draw_rd D5 (by decide) (by decide) fun r1 H7 r10 r11 D7 B7 => ⟨r1, rfl, by omega, by omega, fun Dd hDd => seven_comp hDd (by omega) fun H8 s8 h8 => ⟨Dd, rfl, _, h8, fun tt htt => ?_⟩⟩
      have s9 : Same H8 (upd H8 tt (.tup ((sevens (2 + r1).toNat).map V.int))) := Same.upd0 htt
      have h9t : upd H8 tt (.tup ((sevens (2 + r1).toNat).map V.int)) tt = some (.tup ((sevens (2 + r1).toNat).map V.int)) := upd_same
      generalize upd H8 tt (.tup ((sevens (2 + r1).toNat).map V.int)) = H9 at s9 h9t ⊢
      have B59 : But d l H5 H9 := B7.same (s8.trans s9)
      have D9 := D7.same (s8.trans s9)
      have kt9 := (But.keepTI B59 D5).tup
      have h9p := B59 p _ np.1 np.2 h5p
      have h9g := B59 g _ ng.1 ng.2 h5g
      have hkl := hR5.kl
      have hkt : (ws.take i).length ≤ 14 := by rw [List.length_take]; omega
      refine ⟨kvs, h9p, small1000 (by omega), ?_⟩
      have kt10 : ∀ a vs, H9 a = some (.tup vs) → upd H9 p (.dK (putK kvs (Sum.inr c) (.ref tt))) a = some (.tup vs) := fun a vs e => by rw [upd_ne (ne_of e h9p (by intro z; cases z))]; exact e
      have hR10 : RoomsOk (ws.take (i + 1)) (putK kvs (Sum.inr c) (.ref tt)) (setF rm c (sevens (2 + r1).toNat)) (upd H9 p (.dK (putK kvs (Sum.inr c) (.ref tt)))) := by
        rw [etk]
        exact ((hR5.keep kt9).keep kt10).put hcn (kt10 _ _ h9t) (sevens_ok (by omega) (by omega))
      have h10g : upd H9 p (.dK (putK kvs (Sum.inr c) (.ref tt))) g = some (.lst ys) := by rw [upd_ne ngp]; exact h9g
      have h10p : upd H9 p (.dK (putK kvs (Sum.inr c) (.ref tt))) p = some (.dK (putK kvs (Sum.inr c) (.ref tt))) := upd_same
      have h10t := kt10 _ _ h9t
      have h10b := kt10 _ _ (kt9 _ _ h5b)
      have hRb10 := (hRb.keep kt9).keep kt10
      have hC10 := (hC5.keep kt9).keep kt10
      have D10 : DealAt (upd H9 p (.dK (putK kvs (Sum.inr c) (.ref tt)))) d l := D9.put np.1 np.2
      have B10 : But d l H (upd H9 p (.dK (putK kvs (Sum.inr c) (.ref tt)))) := (B5.trans B59).put hp
      generalize upd H9 p (.dK (putK kvs (Sum.inr c) (.ref tt))) = H10 at hR10 h10g h10p h10t h10b hRb10 hC10 D10 B10 ⊢
      have hks10 : (putK kvs (Sum.inr c) (V.ref tt)).map (·.1) = (ws.take (i + 1)).map Sum.inr := by
        rw [keys_new (by rw [hks]; exact inr_notin hcn), hks, etk, List.map_append]
        rfl
      have hvp : valV (putK kvs (Sum.inr c) (V.ref tt)) (Sum.inr c) = some (V.ref tt) := by rw [valV_put, if_pos rfl]
      obtain ⟨h7m, hn7, hin7, hl7⟩ := sevens_tail (n := (2 + r1).toNat) (by omega)
      generalize hkv : putK kvs (Sum.inr c) (V.ref tt) = kv2 at *
      generalize hsv : sevens (2 + r1).toNat = sv at *
      refine ⟨_, h10p, _, hvp, tt, rfl, _, h10t, fun q H11 h11q s11 => ?_⟩
      rw [show cutV (sv.map V.int) (some 1) none = (sv.drop 1).map V.int from cut_map_from V.int sv 1] at h11q
      refine ⟨_, h11q, ?_⟩
      have D11 := D10.same s11
      have B11 := B10.same s11
      refine for_g wlk_rev (fun j σ H' => ∃ ys cls b ub lb v6, σ = [some (.ref d), some (.ref a), some (.ref p), some (.ref g), some (.ref b), some (.str c), v6, none] ∧ H' g = some (.lst ys) ∧ ClsAt H' ys cls ∧ cls.length ≤ 9 * i + j ∧ H' b = some (.tup ub) ∧ Rows3 H' ub lb ∧ ChainOk ws cls lb ∧ (∀ x ∈ ws.take i, ∀ v ∈ rm x, v ≠ 7 → GoneV cls x v) ∧ (∀ v ∈ (sv.drop 1).reverse.take j, GoneV cls c v) ∧ DealAt H' d l ∧ ∀ b o, b ≠ g → H11 b = some o → H' b = some o)
        ⟨ys, cls, b, ub, lb, _, rfl, s11 _ _ h10g, hC10.keep (fun _ _ e => s11 _ _ e), by omega, s11 _ _ h10b, hRb10.keep (fun _ _ e => s11 _ _ e), hch, (fun x hx => (hgn x hx).2), (fun v hv => by simp at hv), D11, fun _ _ _ e => e⟩ ?_ ?_ ?_
      · rintro j σ H' ⟨_, _, _, _, _, _, _, _, _, _, _, _, _, _, _, _, B⟩
        exact .of (B q _ (ne_of h11q (s11 _ _ h10g) (by intro z; cases z)) h11q)
      · rintro j x σ H12 hj hx ⟨ys, cls, b, ub, lb, v6, rfl, h12g, hC12, hcl12, h12b, hRb12, hch12, hg12, hgc12, D12, B12⟩
        obtain ⟨v, hvj, rfl⟩ : ∃ v, (sv.drop 1).reverse[j]? = some v ∧ V.int v = x := by
          rw [← List.map_reverse, List.getElem?_map] at hx
          cases e : (sv.drop 1).reverse[j]? with
          | none => rw [e] at hx; cases hx
          | some nm => rw [e] at hx; exact ⟨nm, rfl, Option.some.inj hx⟩
        have hvt : v ∈ sv.drop 1 := List.mem_reverse.mp (List.mem_of_getElem? hvj)
        have hj9 : j < 9 := by
          have := (List.getElem?_eq_some_iff.mp hvj).1
          rw [List.length_reverse, hl7] at this
          omega
        have hyl := hC12.length
        (try ctx_has vcx true_and h12b rCTs)
        refine ⟨⟨_, h12g⟩, by decide, fun q1 hq1 => ⟨by decide, fun q2 hq2 => ?_⟩⟩
        have s13 : Same H12 (upd (upd H12 q1 (.tup [V.str c, V.str (Str.ofString "not"), V.int v])) q2 (.tup [V.ref q1])) := (Same.upd0 hq1).upd_new hq2
        have h13b : upd (upd H12 q1 (.tup [V.str c, V.str (Str.ofString "not"), V.int v])) q2 (.tup [V.ref q1]) q2 = some (.tup [V.ref q1]) := upd_same
        have h13a : upd (upd H12 q1 (.tup [V.str c, V.str (Str.ofString "not"), V.int v])) q2 (.tup [V.ref q1]) q1 = some (.tup (l3V (c, Str.ofString "not", v))) := by
          rw [upd_ne (fun z => by rw [← z, upd_same] at hq2; cases hq2)]; exact upd_same
        generalize upd (upd H12 q1 (.tup [V.str c, V.str (Str.ofString "not"), V.int v])) q2 (.tup [V.ref q1]) = H13 at s13 h13a h13b ⊢
        have hll : ub.length ≤ 1 := by
          rw [hRb12.length]
          rcases hch12.lb with e | ⟨m, z, e, _⟩ <;> rw [e] <;> simp
        refine ⟨ub, s13 _ _ h12b, _, h13b, Nat.le_of_lt (small1000 (by simp; omega)), fun q3 H14 h14 s14 => ?_⟩
        have s1214 := s13.trans s14
        have hRb14 : Rows3 H14 (ub ++ [V.ref q1]) (lb ++ [(c, Str.ofString "not", v)]) := (hRb12.keep fun _ _ e => s1214 _ _ e).snoc (s14 _ _ h13a)
        obtain ⟨as, e1, e2, e3⟩ := id hRb14
        have e1' : ub ++ [V.ref q1] = (as.map (·.1)).map V.ref := by rw [e1, List.map_map]; rfl
        have hal : (as.map (·.1)).length ≤ 2 := by
          have := congrArg List.length e1'
          rw [List.length_append, List.length_map] at this
          simp only [List.length_cons, List.length_nil] at this
          omega
        rw [e1'] at h14 hRb14
        refine ⟨q3, rfl, as.map (·.1), h14, by omega, fun x hx => ?_, fun q4 bs hq4 hperm => ⟨q4, rfl, _, upd_same, fun tt2 htt2 => ?_⟩⟩
        · obtain ⟨y, hy, rfl⟩ := List.mem_map.mp hx
          exact ⟨_, _, _, e3 y hy⟩
        obtain ⟨ms, hms, hrm⟩ := Rows3.perm (as := as.map (·.1)) hRb14 hperm
        have s15 : Same H14 (upd (upd H14 q4 (.lst (bs.map V.ref))) tt2 (.tup (bs.map V.ref))) := (Same.upd0 hq4).upd_new htt2
        have h15t : upd (upd H14 q4 (.lst (bs.map V.ref))) tt2 (.tup (bs.map V.ref)) tt2 = some (.tup (bs.map V.ref)) := upd_same
        generalize upd (upd H14 q4 (.lst (bs.map V.ref))) tt2 (.tup (bs.map V.ref)) = H15 at s15 h15t ⊢
        have s1215 := s1214.trans s15
        have h15g := s1215 _ _ h12g
        refine ⟨_, h15g, small1000 (by omega), by decide, fun q5 hq5 => ⟨by decide, fun q6 hq6 => ?_⟩⟩
        have k16 : ∀ b o, b ≠ g → H15 b = some o → upd H15 g (.lst (ys ++ [V.ref tt2])) b = some o := fun b o hb e => by rw [upd_ne hb]; exact e
        have kt16 : ∀ a vs, H15 a = some (.tup vs) → upd H15 g (.lst (ys ++ [V.ref tt2])) a = some (.tup vs) := fun a vs e => k16 _ _ (ne_of e h15g (by intro z; cases z)) e
        have h16g : upd H15 g (.lst (ys ++ [V.ref tt2])) g = some (.lst (ys ++ [V.ref tt2])) := upd_same
        have D16 : DealAt (upd H15 g (.lst (ys ++ [V.ref tt2]))) d l := (D12.same s1215).put ng.1 ng.2
        generalize upd H15 g (.lst (ys ++ [V.ref tt2])) = H16 at k16 kt16 h16g D16 hq5 hq6 ⊢
        have s17 : Same H16 (upd (upd H16 q5 (.tup [V.str c, V.str (Str.ofString "is"), V.int v])) q6 (.tup [V.ref q5])) := (Same.upd0 hq5).upd_new hq6
        have h17b : upd (upd H16 q5 (.tup [V.str c, V.str (Str.ofString "is"), V.int v])) q6 (.tup [V.ref q5]) q6 = some (.tup [V.ref q5]) := upd_same
        have h17a : upd (upd H16 q5 (.tup [V.str c, V.str (Str.ofString "is"), V.int v])) q6 (.tup [V.ref q5]) q5 = some (.tup (l3V (c, Str.ofString "is", v))) := by
          rw [upd_ne (fun z => by rw [← z, upd_same] at hq6; cases hq6)]; exact upd_same
        generalize upd (upd H16 q5 (.tup [V.str c, V.str (Str.ofString "is"), V.int v])) q6 (.tup [V.ref q5]) = H17 at s17 h17a h17b ⊢
        have kt17 : ∀ a vs, H15 a = some (.tup vs) → H17 a = some (.tup vs) := fun a vs e => s17 _ _ (kt16 _ _ e)
        obtain ⟨hch2, hgo⟩ := chain_step hch12 hcm (hn7 v hvt) hwo hms
        refine ⟨_, s17 _ _ h16g, cls ++ [ms], ((hC12.keep fun _ _ e => s1215 _ _ e).keep kt17).snoc (kt17 _ _ h15t) ((hrm.keep fun _ _ e => s15 _ _ e).keep kt17), by simp; omega, _, h17b, _, Rows3.nil.snoc (ls := []) h17a, hch2, fun x hx w hw hne => (hg12 x hx w hw hne).more ms, fun w hw => ?_, D16.same s17, fun x o hx e => s17 _ _ (k16 _ _ hx (s1215 _ _ (B12 _ _ hx e)))⟩
        rw [List.take_add_one, hvj] at hw
        rcases List.mem_append.mp hw with z | z
        · exact (hgc12 w z).more ms
        · rw [show w = v by simpa using z]; exact hgo
      · rintro σ H12 ⟨ys, cls, b, ub, lb, v6, rfl, h12g, hC12, hcl12, h12b, hRb12, hch12, hg12, hgc12, D12, B12⟩
        have h11g := s11 _ _ h10g
        have kt12 : ∀ a vs, H10 a = some (.tup vs) → H12 a = some (.tup vs) := fun a vs e => B12 _ _ (ne_of (s11 _ _ e) h11g (by intro z; cases z)) (s11 _ _ e)
        rw [List.length_reverse, List.length_map, hl7] at hcl12
        rw [List.take_of_length_le (by simp)] at hgc12
        refine ⟨kv2, _, ys, cls, b, ub, lb, _, _, rfl, B12 _ _ (Ne.symm ngp) (s11 _ _ h10p), hks10, hR10.keep kt12, fun x hx => ?_, h12g, hC12, by omega, h12b, hRb12, hch12, D12, fun x o hx1 hx2 e => B12 _ _ (ne_of_none e hgH) (B11 x o hx1 hx2 e)⟩
        rw [etk] at hx
        rcases List.mem_append.mp hx with z | z
        · have hxc : x ≠ c := fun e => hcn (e ▸ z)
          rw [setF_ne rm sv hxc]
          exact ⟨(hgn x z).1, hg12 x z⟩
        · rw [List.mem_singleton.mp z, setF_same]
          exact ⟨h7m, fun w hw hne => hgc12 w (List.mem_reverse.mpr (hin7 w hw hne))⟩
    · rintro σ H5 ⟨kvs, rm, ys, cls, b, ub, lb, v5, v6, rfl, h5p, hks, hR5, hgn, h5g, hC5, hcl, h5b, hRb, hch, D5, B5⟩
      rw [List.length_map] at hcl
      rw [List.length_map, List.take_length] at hR5 hgn
      (try ctx_has vcx true_and)
      intro dq hdq
      have h5a := B5 a _ na.1 na.2 ha
      have hdqH := B5.free D5 hdq
      have ndq := D.ne hdqH
      refine ⟨_, (Same.upd0 hdq) _ _ h5a, ?_⟩
      refine for_g wlk_list (fun i σ H' => ∃ kd v5, σ = [some (.ref d), some (.ref a), some (.ref p), some (.ref g), some (.ref b), v5, v6, some (.ref dq)] ∧ H' dq = some (.dK kd) ∧ kd.map (·.1) = (ws.take i).map Sum.inr ∧ RoomsOk (ws.take i) kd sevR H' ∧ ∀ b o, b ≠ dq → H5 b = some o → H' b = some o)
        ⟨[], _, rfl, upd_same, (by simp), ⟨⟨by simp, fun x hx => by simp at hx⟩, by simp, fun c hc => by simp at hc, fun c hc => by simp at hc⟩, fun b o hb e => by rw [upd_ne hb]; exact e⟩ (fun j σ H' zq42 => by obtain ⟨_, _, _, _, _, _, B⟩ := zq42; exact (.of (B a _ (ne_of_none h5a hdq) h5a))) ?_ ?_
      · rintro i x σ H6 hi hx ⟨kd, v5, rfl, h6d, hkd, hR6, B6⟩
        obtain ⟨c, hcj, rfl⟩ : ∃ c, ws[i]? = some c ∧ V.str c = x := by
          rw [List.getElem?_map] at hx
          cases e : ws[i]? with
          | none => rw [e] at hx; cases hx
          | some nm => rw [e] at hx; exact ⟨nm, rfl, Option.some.inj hx⟩
        have etk : ws.take (i + 1) = ws.take i ++ [c] := by rw [List.take_add_one, hcj]; rfl
        have hjl : i < ws.length := (List.getElem?_eq_some_iff.mp hcj).1
        have hcn : c ∉ ws.take i := fun z => by
          have h1 : (ws.take (i + 1)).Nodup := hwn.sublist (List.take_sublist _ _)
          rw [etk] at h1
          exact (List.nodup_append.mp h1).2.2 c z c (by simp) rfl
        have hkl := hR6.kl
        have hkt : (ws.take i).length ≤ 14 := by rw [List.length_take]; omega
        (try ctx_has vcx true_and)
        refine ⟨by decide, fun q1 hq1 => ?_⟩
        have s7 : Same H6 (upd H6 q1 (.tup [V.int 7])) := Same.upd0 hq1
        have h7t : upd H6 q1 (.tup [V.int 7]) q1 = some (.tup [V.int 7]) := upd_same
        generalize upd H6 q1 (.tup [V.int 7]) = H7 at s7 h7t ⊢
        have h7d := s7 _ _ h6d
        have kt8 : ∀ a vs, H7 a = some (.tup vs) → upd H7 dq (.dK (putK kd (Sum.inr c) (.ref q1))) a = some (.tup vs) := fun a vs e => by rw [upd_ne (ne_of e h7d (by intro z; cases z))]; exact e
        have hsf : setF sevR c [7] = sevR := by
          funext x
          unfold setF sevR
          split <;> rfl
        refine ⟨kd, h7d, small1000 (by omega), _, upd_same, ?_, ?_, fun b o hb e => by rw [upd_ne hb]; exact s7 _ _ (B6 b o hb e)⟩
        · rw [keys_new (by rw [hkd]; exact inr_notin hcn), hkd, etk, List.map_append]
          rfl
        · rw [etk]
          have := (((hR6.keep fun _ _ e => s7 _ _ e).keep kt8).put (t := q1) (zs := [7]) hcn (kt8 _ _ h7t) (by simp))
          rwa [hsf] at this
      · rintro σ H6 ⟨kd, v5, rfl, h6d, hkd, hR6, B6⟩
        rw [List.length_map, List.take_length] at hkd hR6
        have nd6 : ∀ x o, H5 x = some o → x ≠ dq := fun x o e => ne_of_none e hdq
        have kt6 : ∀ a vs, H5 a = some (.tup vs) → H6 a = some (.tup vs) := fun a vs e => B6 _ _ (nd6 _ _ e) e
        have s56 : Same H5 H6 := fun x o e => B6 _ _ (nd6 _ _ e) e
        have D6 := D5.same s56
        have B06 : But d l H H6 := B5.same s56
        have fin : ∀ H7 ys cls due, H7 p = some (.dK kvs) → RoomsOk ws kvs rm H7 → H7 g = some (.lst ys) → ClsAt H7 ys cls → cls.length ≤ 130 → (∀ c ∈ cls, c.length ≤ 40 ∧ clOk ws c) → TellsU H7 ws cls rm kvs due → (∀ q, due = .ref q → H q = none) → DealAt H7 d l → But d l H H7 → ∃ ys, H7 g = some (.lst ys) ∧ ∀ (l : Addr), H7 l = none → 3 ≤ sizeLine ∧ ∀ (p_1 : Addr), upd H7 l (.lst ys.reverse) p_1 = none → Q (V.ref p_1) (upd (upd H7 l (.lst ys.reverse)) p_1 (.lst [V.ref p, V.ref l, due])) := fun H7 ys cls due h7p hR7 h7g hC7 hcl7 hco7 hT7 hqd D7 B7 => by
          refine ⟨ys, h7g, fun lq hlq => ⟨by decide, fun tq htq => ?_⟩⟩
          have s8 : Same H7 (upd (upd H7 lq (.lst ys.reverse)) tq (.lst [V.ref p, V.ref lq, due])) := (Same.upd0 hlq).upd_new htq
          have h8l : upd (upd H7 lq (.lst ys.reverse)) tq (.lst [V.ref p, V.ref lq, due]) lq = some (.lst ys.reverse) := by
            rw [upd_ne (fun z => by rw [← z, upd_same] at htq; cases htq)]; exact upd_same
          have hlH := B7.free D7 hlq
          have htH : H tq = none := by
            refine B7.free D7 ?_
            cases e : H7 tq with
            | none => rfl
            | some o => rw [(Same.upd0 hlq) _ _ e] at htq; cases htq
          exact k tq p lq due kvs rm _ cls.reverse _ htH hp hlH upd_same (s8 _ _ h7p) (hR7.keep fun _ _ e => s8 _ _ e) h8l (hC7.keep fun _ _ e => s8 _ _ e).rev (by simp; omega) (fun x hx => hco7 x (List.mem_reverse.mp hx)) ((hT7.same s8).mem fun c => by simp) hqd (D7.same s8) (B7.same s8)
        have hgn2 : ∀ c ∈ ws, ∀ v ∈ rm c, v ≠ 7 → GoneV cls c v := fun c hc => (hgn c hc).2
        (try ctx_has vcx true_and)
        refine draw_rd D6 (by decide) (by decide) fun r1 H7 r10 r11 D7 B7 => ⟨rfl, ?_⟩
        have B07 := B06.trans B7
        have kt7 := (But.keepTI B7 D6).tup
        have h7g := B7 g _ ng.1 ng.2 (s56 _ _ h5g)
        have h7p := B7 p _ np.1 np.2 (s56 _ _ h5p)
        have h7d := B7 dq _ ndq.1 ndq.2 h6d
        have hC7 := (hC5.keep kt6).keep kt7
        have hR7 := (hR5.keep kt6).keep kt7
        have hyl := hC5.length
        by_cases h0 : V.int r1 = V.int 0
        · rw [if_pos h0]
          obtain ⟨wl, hwl1, hwlm⟩ : ∃ wl, atI (ws.map V.str) (-1) = some (V.str wl) ∧ wl ∈ ws := by
            rcases List.eq_nil_or_concat ws with e | ⟨w1, w2, e⟩
            · rw [e] at hw1; simp at hw1
            · subst e
              refine ⟨w2, ?_, by simp⟩
              rw [List.concat_eq_append, List.map_append]
              exact atI_last _ _
          refine ⟨⟨_, h7g⟩, _, B07 a _ na.1 na.2 ha, _, hwl1, by decide, fun q1 hq1 => ⟨by decide, fun q2 hq2 => ?_⟩⟩
          have s8 : Same H7 (upd (upd H7 q1 (.tup [V.str wl, V.str (Str.ofString "not"), V.int 7])) q2 (.tup [V.ref q1])) := (Same.upd0 hq1).upd_new hq2
          have h8b : upd (upd H7 q1 (.tup [V.str wl, V.str (Str.ofString "not"), V.int 7])) q2 (.tup [V.ref q1]) q2 = some (.tup [V.ref q1]) := upd_same
          have h8a : upd (upd H7 q1 (.tup [V.str wl, V.str (Str.ofString "not"), V.int 7])) q2 (.tup [V.ref q1]) q1 = some (.tup (l3V (wl, Str.ofString "not", 7))) := by
            rw [upd_ne (fun z => by rw [← z, upd_same] at hq2; cases hq2)]; exact upd_same
          generalize upd (upd H7 q1 (.tup [V.str wl, V.str (Str.ofString "not"), V.int 7])) q2 (.tup [V.ref q1]) = H8 at s8 h8a h8b ⊢
          have h8g := s8 _ _ h7g
          have kt9 : ∀ a vs, H8 a = some (.tup vs) → upd H8 g (.lst (ys ++ [V.ref q2])) a = some (.tup vs) := fun a vs e => by rw [upd_ne (ne_of e h8g (by intro z; cases z))]; exact e
          have kt8 : ∀ a vs, H7 a = some (.tup vs) → H8 a = some (.tup vs) := fun _ _ e => s8 _ _ e
          refine ⟨_, h8g, small1000 (by omega), fin _ _ (cls ++ [[(wl, Str.ofString "not", 7)]]) _ (by rw [upd_ne (Ne.symm ngp)]; exact s8 _ _ h7p) ((hR7.keep kt8).keep kt9) upd_same (((hC7.keep kt8).keep kt9).snoc (kt9 _ _ h8b) (Rows3.nil.snoc (ls := []) (kt9 _ _ h8a))) (by simp; omega) (fun x hx => ?_) (.inl ⟨rfl, seven_dead hwlm hgn2⟩) (fun q e => by cases e) ((D7.same s8).put ng.1 ng.2) ((B07.same s8).put hgH)⟩
          rcases List.mem_append.mp hx with w | w
          · exact hch.ok x w
          · rw [List.mem_singleton.mp w]
            exact ⟨by simp, by simp, fun y hy => by rw [List.mem_singleton.mp hy]; exact ⟨hwlm, .inr rfl, ⟨hwo wl hwlm, (show PyData.strOk (Str.ofString "not") = true by decide +kernel)⟩⟩⟩
        · rw [if_neg h0]
          have hR7d := hR6.keep kt7
          exact fin H7 ys cls _ h7p hR7 h7g hC7 (by omega) hch.ok (.inr ⟨dq, kd, sevR, rfl, h7d, by rw [hkd, hks, List.length_map, List.take_length], hR7d.ki, hR7d.rf, seven_left (fun c hc => (hgn c hc).1) hch.r7 hgn2⟩) (fun q e => by cases e; exact hdqH) D7 B07
theorem tells_eq {K : PySem.W.Frag} {H : Hp} {ws : List Str} {rm : Str → List Int} {cl1 cl2 : List (List L3)} {kvs : List (Key × V)} {x y : V} {Q : VK} (hn : ∀ c ∈ ws, (rm c).Nodup) (hm : ∀ c, c ∈ cl1 ↔ c ∈ cl2) (h1 : TellsU H ws cl1 rm kvs x) (h2 : TellsU H ws cl2 rm kvs y) (q : Q (.bl true) H) : rEqNA K x y H Q := by
  have kk : ∀ r', keepsR ws cl1 rm r' ↔ keepsR ws cl2 rm r' := fun r' => by unfold keepsR; simp only [hm]
  rcases h1 with ⟨rfl, n1⟩ | ⟨a, ka, ra, rfl, ha, hka, hia, hfa, hla⟩
  · rcases h2 with ⟨rfl, n2⟩ | ⟨b, kb, rb, rfl, hb, hkb, hib, hfb, hlb⟩
    · exact .inl ⟨rfl, rfl, q⟩
    · exact absurd ((kk _).mpr hlb.keeps) (n1 _)
  · rcases h2 with ⟨rfl, n2⟩ | ⟨b, kb, rb, rfl, hb, hkb, hib, hfb, hlb⟩
    · exact absurd ((kk _).mp hla.keeps) (n2 _)
    · have e := left_uniq hn hm hla hlb
      refine .inr ⟨a, rfl, b, rfl, ka, kb, ha, hb, ?_, fun p hp => ?_, q⟩
      · have := congrArg List.length (hka.trans hkb.symm)
        simpa using this
      · obtain ⟨c, hc, ec⟩ := hia.2 p hp
        obtain ⟨x1, v1, t1⟩ := hfa c hc
        obtain ⟨x2, v2, t2⟩ := hfb c hc
        have hpv := valV_mem hia.1 (show (p.1, p.2) ∈ ka from hp)
        rw [ec, v1] at hpv
        rw [ec]
        refine ⟨_, v2, dRow (ra c), ?_, ?_, lay_row _, Nat.le_trans (depth_row _) (by decide), by rw [eqv_row]; exact decide_eq_true rfl⟩
        · rw [← Option.some.inj hpv]; exact .tup (.of t1) (Reps.ints _)
        · rw [e c hc]; exact .tup (.of t2) (Reps.ints _)
noncomputable def spLong : Sp := fun vs H Q _ => ∃ (d l : Addr), vs = [.ref d] ∧ DealAt H d l ∧ ∀ H', Q (.bl true) H'
theorem ok__law_long {P : Program} {w : World} {K : PySem.W.Frag} {mg : Str → Option Value} {base : Heap}  (T : Txt K mg) (L : FnL K mg "_law_long" s__law_long ["_law_deal_here"]) (F_law_draw : Fn P w K mg base "_law_draw" 1 ["_law_deal_here", "_law_many"] (spDraw)) (F_law_names_of_row : Fn P w K mg base "_law_names_of_row" 1 ["_law_many"] (spRowN)) (F_law_value_by_value : Fn P w K mg base "_law_value_by_value" 2 ["_law_deal_here", "_law_names_here"] (spVal)) (Fby_units : Fn P w K mg base "by_units" 6 ["rooms", "clauses"] (spBy mg)) : Fn P w K mg base "_law_long" 7 ["_law_deal_here"] (spLong) := by
  have nd := sc__law_long.nd
  refine L.ok sc__law_long (fun vs H Q E h => ?_) (fun f cdv A outer s H vs Q E hr h => ?_)
  · obtain ⟨d, l, rfl, D, k⟩ := h
    rfl
  · obtain ⟨d, l, rfl, D, k⟩ := h
    have hu := hu_of hr
    refine ⟨_, (pss_cons (ps_asg (pe_callF F_law_value_by_value (hr.mono (by first | decide | omega)) rfl (pa_cons (pvM 0) (pa_cons (pe_callF F_law_names_of_row (hr.mono (by first | decide | omega)) rfl (pa_cons (pe_op op_add pe_int (pe_callF F_law_draw (hr.mono (by first | decide | omega)) rfl (pa_cons (pvM 0) (pa_cons pe_int pa_nil)))) pa_nil)) pa_nil))) (pg_tupL (n := 3) rfl (pgs_cons (pg_name (i := 1) nd rfl (by first | exact Or.inl rfl | exact Or.inr rfl)) (pgs_cons (pg_name (i := 2) nd rfl (by first | exact Or.inl rfl | exact Or.inr rfl)) (pgs_cons (pg_name (i := 3) nd rfl (by first | exact Or.inl rfl | exact Or.inr rfl)) pgs_nil)))))
      (pss_cons (ps_if (pt_cmpR (op_neNA (hu102 hr)) (pe_callF Fby_units (hr.mono (by first | decide | omega)) rfl (pa_cons (pvM 1) (pa_cons (pvM 2) pa_nil))) (pvM 3) (nomark _)) (pss_one (ps_ret pe_bl)) pss_nil)
      (pss_one (ps_ret (pe_cmpR (op_eqNA (hu102 hr)) (pe_callF Fby_units (hr.mono (by first | decide | omega)) rfl (pa_cons (pvM 1) (pa_cons (pe_listrev rfl rfl T.b_list rfl T.b_reversed (pvM 2)) pa_nil))) (pvM 3) (nomark _)))))), ?_⟩
    (try ctx_has vcx true_and gTupL)
    refine draw_rd D (by decide) (by decide) fun r1 H1 r10 r11 D1 B1 => ?_
    (try ctx_has vcx true_and)
    refine ⟨2 + r1, rfl, by omega, by omega, fun p ws H2 hp h2 hwn hwl hwo s2 => ?_⟩
    have D2 := D1.same s2
    refine ⟨d, l, p, ws, rfl, D2, D1.ne hp, h2, by omega, by omega, hwn, hwo, fun t r c due kvs rm us cls H3 ht hr hc h3t h3r hR3 h3c hC3 hcl hco hT hqd D3 B3 => ?_⟩
    have hkl := hR3.kl
    have hnd : ∀ c ∈ ws, (rm c).Nodup := fun c hc => (hR3.gd c hc).2.2
    refine ⟨t, rfl, _, h3t, rfl, _, _, rfl, _, _, rfl, _, _, rfl, rfl, ?_⟩
    refine by_tells hR3.ki (by omega) h3r hR3.rf hR3.gd hwo h3c hC3 (by omega) hco fun x H4 t4 hx4 s4 => ?_
    refine tells_ne hnd (fun _ => Iff.rfl) t4 (hT.same s4) ⟨_, rfl, ?_⟩
    rw [if_neg Bool.false_ne_true]
    refine ⟨c, rfl, us, s4 _ _ h3c, fun lq hlq => ?_⟩
    have s5 : Same H4 (upd H4 lq (.lst us.reverse)) := Same.upd0 hlq
    have h5l : upd H4 lq (.lst us.reverse) lq = some (.lst us.reverse) := upd_same
    generalize upd H4 lq (.lst us.reverse) = H5 at s5 h5l ⊢
    have s35 := s4.trans s5
    have hR5 := hR3.keep fun _ _ e => s35 _ _ e
    refine by_tells hR5.ki (by omega) (s35 _ _ h3r) hR5.rf hR5.gd hwo h5l (hC3.keep fun _ _ e => s35 _ _ e).rev (by simp; omega) (fun x hx => hco x (List.mem_reverse.mp hx)) fun x H6 t6 hx6 s6 => ?_
    exact tells_eq hnd (fun c => by simp) t6 ((hT.same s35).same s6) (k _)
theorem ClsAt.reps {K : PySem.W.Frag} {H : Hp} {us : List V} {cls : List (List L3)} (h : ClsAt H us cls) : Reps K H us (cls.map fun c => PyData.tuple (c.map l3D)) := by
  obtain ⟨as, rfl, rfl, h3⟩ := h
  induction as with
  | nil => exact .nil
  | cons x as ih =>
    obtain ⟨us, e1, e2⟩ := h3 x (by simp)
    exact .cons (rep_cl e1 e2) (ih fun y hy => h3 y (by simp [hy]))
theorem lay_cls : ∀ {cls : List (List L3)}, (∀ c ∈ cls, ∀ x ∈ c, okL3 x) → PyData.canLayAll0 (cls.map fun c => PyData.tuple (c.map l3D)) = true
  | [], _ => rfl
  | c :: cls, h => by
    rw [List.map_cons]
    unfold PyData.canLayAll0
    rw [lay_cls fun d hd => h d (by simp [hd]), lay_cl (h c (by simp))]
    rfl
theorem depth_cls : ∀ cls : List (List L3), PyData.depthAll (cls.map fun c => PyData.tuple (c.map l3D)) ≤ 3
  | [] => by simp [PyData.depthAll]
  | c :: cls => by
    have h1 := depth_l3s c
    have h2 := depth_cls cls
    simp only [List.map_cons, PyData.depthAll, PyData.depth]
    omega
theorem eqv_l3s : ∀ c : List L3, PyData.eqvAll (c.map l3D) (c.map l3D) = true
  | [] => rfl
  | x :: c => by
    rw [List.map_cons]
    unfold PyData.eqvAll
    rw [eqv_l3s c, eqv_l3]
    simp
theorem eqv_cls : ∀ cls : List (List L3), PyData.eqvAll (cls.map fun c => PyData.tuple (c.map l3D)) (cls.map fun c => PyData.tuple (c.map l3D)) = true
  | [] => rfl
  | c :: cls => by
    rw [List.map_cons]
    unfold PyData.eqvAll
    rw [eqv_cls cls]
    have : PyData.eqv (.tuple (c.map l3D)) (.tuple (c.map l3D)) = true := by
      unfold PyData.eqv
      exact eqv_l3s c
    rw [this]
    rfl
theorem RoomsOk.alike {K : PySem.W.Frag} {ws : List Str} {kvs : List (Key × V)} {rm : Str → List Int} {H : Hp} (h : RoomsOk ws kvs rm H) : AlikeD K H kvs kvs := fun p hp => by
  obtain ⟨c, hc, ec⟩ := h.ki.2 p hp
  obtain ⟨x1, v1, t1⟩ := h.rf c hc
  have hpv := valV_mem h.ki.1 (show (p.1, p.2) ∈ kvs from hp)
  rw [ec, v1] at hpv
  rw [ec]
  refine ⟨_, v1, dRow (rm c), ?_, .tup (.of t1) (Reps.ints _), lay_row _, Nat.le_trans (depth_row _) (by decide), by rw [eqv_row]; exact decide_eq_true rfl⟩
  rw [← Option.some.inj hpv]
  exact .tup (.of t1) (Reps.ints _)
theorem units_tells {H : Hp} {r c : Addr} {ws : List Str} {kvs : List (Key × V)} {rm : Str → List Int} {us : List V} {cls : List (List L3)} {Q : VK} {E : XK} (hR : RoomsOk ws kvs rm H) (hw1 : 1 ≤ ws.length) (hwl : ws.length ≤ 45) (hrd : H r = some (.dK kvs))
    (hc : H c = some (.lst us)) (hC : ClsAt H us cls) (hco : ∀ c ∈ cls, c.length ≤ 40 ∧ clOk ws c)
    (k : ∀ x H', TellsU H' ws cls rm kvs x → (∀ q, x = .ref q → H q = none) → Same H H' → Q x H') : spUnits [.ref r, .ref c] H Q E := by
  obtain ⟨hki, hkl, hrf, hgd⟩ := hR
  obtain ⟨hks, hcn, hcw⟩ := keysIn_names hki
  have hiff : ∀ c, c ∈ (kvs.map fun x => nameOf x.1) ↔ c ∈ ws := fun c => ⟨hcw c, names_all hrf⟩
  have hne : (kvs.map fun x => nameOf x.1) ≠ [] := fun z => by
    cases ws with
    | nil => simp at hw1
    | cons w ws =>
      have := (hiff w).mpr (by simp)
      rw [z] at this
      simp at this
  refine ⟨r, c, _, kvs, rm, us, cls, rfl, hrd, hks, rooms_K hki hrf, fun c hc => ⟨(hgd c (hcw c hc)).1, (hgd c (hcw c hc)).2.2⟩, hcn, hne, by rw [List.length_map]; omega, fun c hc => by have := (hgd c (hcw c hc)).2.1; omega, hc, hC, fun x hx => ⟨(hco x hx).2.1, by have := (hco x hx).1; omega, fun l hl => ⟨⟨(hiff _).mpr ((hco x hx).2.2 l hl).1, ((hco x hx).2.2 l hl).2.1⟩, ((hco x hx).2.2 l hl).2.2⟩⟩, fun h H' s => k _ _ (.inl ⟨rfl, fun r' hr' => h r' ((keeps_iff hiff).mpr hr')⟩) (fun q e => by cases e) s, fun q kv' rm' H' h1 h2 h3 h4 h5 h6 => k _ _ (.inr ⟨q, kv', rm', rfl, h2, h3, ?_, K_rooms (h3.trans hks) hcn h4 fun c hc => (hiff c).mpr hc, ?_⟩) (fun q' e => by cases e; exact h1) h6⟩
  · refine ⟨by rw [h3]; exact hki.1, fun x hx => ?_⟩
    have : x.1 ∈ kv'.map (·.1) := List.mem_map.mpr ⟨x, hx, rfl⟩
    rw [h3] at this
    obtain ⟨y, hy, e⟩ := List.mem_map.mp this
    obtain ⟨c', hc', ec⟩ := hki.2 y hy
    exact ⟨c', hc', by rw [← e]; exact ec⟩
  · refine ⟨fun c hc => h5.gd c ((hiff c).mpr hc), fun c hc => h5.sl c ((hiff c).mpr hc), h5.cl, fun r' hr' => ?_⟩
    have := h5.top r' ((keeps_iff hiff).mpr hr')
    exact fun c hc => this c ((hiff c).mpr hc)
theorem rest24 {mg : Str → Option Value} {K : PySem.W.Frag} {H : Hp} {r c : Addr} {ws : List Str} {kvs : List (Key × V)} {rm : Str → List Int} {us : List V} {cls : List (List L3)} {Q : VK} (hR : RoomsOk ws kvs rm H) (hw1 : 1 ≤ ws.length) (hwl : ws.length ≤ 40) (hwo : ∀ w ∈ ws, PyData.strOk w = true) (hrd : H r = some (.dK kvs))
    (hc : H c = some (.lst us)) (hC : ClsAt H us cls) (hcl : cls.length ≤ 42) (hco : ∀ c ∈ cls, c.length ≤ 40 ∧ clOk ws c) (k : ∀ H', Q (.bl true) H') :
    spUnits [V.ref r, V.ref c] H (fun x H1 => ∃ kvs, H1 r = some (HO.dK kvs) ∧ ∀ (q : Addr), H1 q = none → ∃ ys, upd H1 q (HO.dK kvs) c = some (HO.lst ys) ∧ ∀ (l : Addr), upd H1 q (HO.dK kvs) l = none → spBy mg [V.ref q, V.ref l] (upd (upd H1 q (HO.dK kvs)) l (HO.lst ys)) (fun x_1 H1 => rNeNA K x_1 x H1 fun x_2 H' => ∃ k, x_2 = V.bl k ∧ if k = true then Q (V.bl false) H' else rEqDA K false (V.ref q) (V.ref r) H' fun x_3 H' => ∃ k, x_3 = V.bl k ∧ if k = true then Q (V.bl false) H' else rNeD K (V.ref l) (V.ref c) H' fun x_4 H' => ∃ k, x_4 = V.bl k ∧ if k = true then Q (V.bl false) H' else
      if decide (x_1 = V.non) = false then ∃ a, x_1 = V.ref a ∧ ∃ kvs, H' a = some (HO.dK kvs) ∧ spBy mg [V.ref q, V.ref l] (upd H' a (HO.dK [])) (fun x_5 H1 => rEqNA K x_5 x H1 fun x H1 => ∃ c, x = V.bl c ∧ if c = true then rEqDA K true (V.ref q) (V.ref r) H1 Q else Q (V.bl false) H1) E0
      else spBy mg [V.ref q, V.ref l] H' (fun x_5 H1 => rEqNA K x_5 x H1 fun x H1 => ∃ c, x = V.bl c ∧ if c = true then rEqDA K true (V.ref q) (V.ref r) H1 Q else Q (V.bl false) H1) E0) E0) E0 := by
  have hkl := hR.kl
  have hnd : ∀ c ∈ ws, (rm c).Nodup := fun c hc => (hR.gd c hc).2.2
  refine units_tells hR hw1 (by omega) hrd hc hC hco fun due H1 hT1 hq1 s1 => ?_
  refine ⟨kvs, s1 _ _ hrd, fun q hq => ⟨us, (Same.upd0 hq) _ _ (s1 _ _ hc), fun lq hlq => ?_⟩⟩
  have s2 : Same H1 (upd (upd H1 q (.dK kvs)) lq (.lst us)) := (Same.upd0 hq).upd_new hlq
  have h3l : upd (upd H1 q (.dK kvs)) lq (.lst us) lq = some (.lst us) := upd_same
  have h3q : upd (upd H1 q (.dK kvs)) lq (.lst us) q = some (.dK kvs) := by
    rw [upd_ne (fun z => by rw [← z, upd_same] at hlq; cases hlq)]; exact upd_same
  generalize upd (upd H1 q (.dK kvs)) lq (.lst us) = H3 at s2 h3l h3q ⊢
  have s03 := s1.trans s2
  have hR3 := hR.keep fun _ _ e => s03 _ _ e
  have hC3 := hC.keep fun _ _ e => s03 _ _ e
  have hT3 := hT1.same s2
  refine by_tells hR3.ki (by omega) h3q hR3.rf hR3.gd hwo h3l hC3 (by omega) hco fun told H4 hT4 hq4 s4 => ?_
  have fin : ∀ H5, Same H3 H5 → spBy mg [V.ref q, V.ref lq] H5 (fun x_5 H1 => rEqNA K x_5 due H1 fun x H1 => ∃ c, x = V.bl c ∧ if c = true then rEqDA K true (V.ref q) (V.ref r) H1 Q else Q (V.bl false) H1) E0 := fun H5 s5 => by
    have hR5 := hR3.keep fun _ _ e => s5 _ _ e
    refine by_tells hR5.ki (by omega) (s5 _ _ h3q) hR5.rf hR5.gd hwo (s5 _ _ h3l) (hC3.keep fun _ _ e => s5 _ _ e) (by omega) hco fun x6 H6 hT6 hq6 s6 => ?_
    refine tells_eq hnd (fun _ => Iff.rfl) hT6 ((hT3.same s5).same s6) ⟨_, rfl, ?_⟩
    rw [if_pos rfl]
    have s36 := s5.trans s6
    exact ⟨q, rfl, r, rfl, kvs, kvs, s36 _ _ h3q, s36 _ _ (s03 _ _ hrd), rfl, (hR3.keep fun _ _ e => s36 _ _ e).alike, k _⟩
  refine tells_ne hnd (fun _ => Iff.rfl) hT4 (hT3.same s4) ⟨_, rfl, ?_⟩
  rw [if_neg Bool.false_ne_true]
  refine ⟨q, rfl, r, rfl, kvs, kvs, s4 _ _ h3q, s4 _ _ (s03 _ _ hrd), rfl, (hR3.keep fun _ _ e => s4 _ _ e).alike, ⟨_, rfl, ?_⟩⟩
  rw [if_neg Bool.false_ne_true]
  have hC4 := hC3.keep fun _ _ e => s4 _ _ e
  have hlay : (PyData.list (cls.map fun c => PyData.tuple (c.map l3D))).canLay0 = true := by
    unfold PyData.canLay0
    exact lay_cls fun c hc x hx => ((hco c hc).2.2 x hx).2.2
  refine ⟨.list (cls.map fun c => PyData.tuple (c.map l3D)), .list (cls.map fun c => PyData.tuple (c.map l3D)), .lst (.of (s4 _ _ h3l)) hC4.reps, .lst (.of (s4 _ _ (s03 _ _ hc))) hC4.reps, hlay, hlay, by have := depth_cls cls; simp only [PyData.depth]; omega, ⟨_, rfl, ?_⟩⟩
  rw [show PyData.eqv (PyData.list (cls.map fun c => PyData.tuple (c.map l3D))) (PyData.list (cls.map fun c => PyData.tuple (c.map l3D))) = true by unfold PyData.eqv; exact eqv_cls cls, if_neg (by simp)]
  rcases hT4 with ⟨rfl, _⟩ | ⟨tq, kv', rm', rfl, h4t, _⟩
  · rw [if_neg (by simp)]
    exact fin H4 s4
  · rw [if_pos (by simp)]
    refine ⟨tq, rfl, kv', h4t, fin _ fun b o e => ?_⟩
    rw [upd_ne (ne_of_none e (hq4 tq rfl))]
    exact s4 _ _ e
theorem KeysIn.len {kvs : List (Key × V)} {ws : List Str} (h : KeysIn kvs ws) : kvs.length ≤ ws.length := by
  have := nodup_len (xs := kvs.map (·.1)) (ys := ws.map Sum.inr) h.1 fun x hx => by
    obtain ⟨y, hy, rfl⟩ := List.mem_map.mp hx
    obtain ⟨c, hc, e⟩ := h.2 y hy
    exact List.mem_map.mpr ⟨c, hc, e.symm⟩
  simpa using this
theorem head24 {d l : Addr} {H3 : Hp} {R : V → V → Hp → Prop} (D3 : DealAt H3 d l) (fin : ∀ (ra cq : Addr) (ws : List Str) (kvs : List (Key × V)) (rm : Str → List Int) (us : List V) (cls : List (List L3)) (H8 : Hp), RoomsOk ws kvs rm H8 → 1 ≤ ws.length → ws.length ≤ 40 → (∀ w ∈ ws, PyData.strOk w = true) → H8 ra = some (.dK kvs) → H8 cq = some (.lst us) → ClsAt H8 us cls → cls.length ≤ 42 → (∀ c ∈ cls, c.length ≤ 40 ∧ clOk ws c) → R (.ref ra) (.ref cq) H8) :
    spDraw [V.ref d, V.int 8] H3 (fun y H2 => ∃ x, y = V.int x ∧ spNames [V.ref d, V.int (1 + x)] H2 (fun x H1 => spPool5 [V.ref d] H1 (fun x_1 H1 => spRoomsP [V.ref d, x, x_1, V.int 5] H1 (fun x_2 H1 => spClauses [V.ref d, x, x_1, x_2] H1 (fun x_3 H1 => R x_2 x_3 H1) E0) E0) E0) E0) E0 := by
  refine draw_rd D3 (by decide) (by decide) fun r3 H4 r30 r31 D4 B4 => ⟨r3, rfl, ?_⟩
  refine ⟨d, l, _, rfl, D4, by omega, by omega, fun ca ws H5 hca ok hws h5 D5 B5 => ?_⟩
  have nca := D4.ne hca
  refine ⟨d, l, rfl, D5, fun pa ps H6 hpa hps hpw hpb h6p D6 B6 => ?_⟩
  have npa := D5.ne hpa
  have h6 := B6 ca _ nca.1 nca.2 h5
  refine ⟨d, l, ca, pa, ws, ps, 5, rfl, D6, nca, npa, h6, by omega, h6p, hps, hpw, by decide, by decide, fun ra kvs rm H7 hra h7r hrf hgd hpl hkl D7 B7 => ?_⟩
  have nra := D6.ne hra
  have h7 := B7 ca _ nca.1 nca.2 h6
  have h7p := B7 pa _ npa.1 npa.2 h6p
  have hwo : ∀ w ∈ ws, PyData.strOk w = true := fun w hw => name_strOk (ok.nm w hw)
  obtain ⟨hkl, hki⟩ := hkl
  have hg10 : ∀ c ∈ ws, rm c ≠ [] ∧ (rm c).length ≤ 10 ∧ (rm c).Nodup := fun c hc => ⟨(hgd c hc).1, by have := (hgd c hc).2.1; omega, (hgd c hc).2.2.1.imp fun h => by omega⟩
  refine ⟨d, l, ca, pa, ra, ws, ps, kvs, rm, rfl, D7, nca, npa, nra, h7, by omega, by omega, hwo, h7p, hps, h7r, hrf, fun c hc => (hgd c hc).1, fun cq us cls H8 hcq h8c hC8 hcl hco D8 B8 => ?_⟩
  have h8r := B8 ra _ nra.1 nra.2 h7r
  have hrf8 := hrf.same (But.keepTI B8 D7).tup
  exact fin ra cq ws kvs rm us cls H8 ⟨hki, hki.len, hrf8, hg10⟩ (by omega) (by omega) hwo h8r h8c hC8 (by omega) hco
theorem head24r {d l : Addr} {H3 : Hp} {R : V → V → Hp → Prop} (D3 : DealAt H3 d l) (fin : ∀ (ra cq : Addr) (ws : List Str) (kvs : List (Key × V)) (rm : Str → List Int) (us : List V) (cls : List (List L3)) (H8 : Hp), RoomsOk ws kvs rm H8 → 1 ≤ ws.length → ws.length ≤ 40 → (∀ w ∈ ws, PyData.strOk w = true) → H8 ra = some (.dK kvs) → H8 cq = some (.lst us) → ClsAt H8 us cls → cls.length ≤ 42 → (∀ c ∈ cls, c.length ≤ 40 ∧ clOk ws c) → R (.ref ra) (.ref cq) H8) :
    spDraw [V.ref d, V.int 40] H3 (fun y H2 => ∃ x, y = V.int x ∧ spRowN [V.int (1 + x)] H2 (fun x H1 => spRow [V.ref d, x] H1 (fun x H1 => ∃ a, x = V.ref a ∧ ∃ xs, H1 a = some (HO.tup xs) ∧ xs.length = 2 ∧ ∃ v r, xs = v :: r ∧ ∃ v_1 r_1, r = v_1 :: r_1 ∧ r_1 = [] ∧ R v v_1 H1) E0) E0) E0 := by
  refine draw_rd D3 (by decide) (by decide) fun r3 H4 r30 r31 D4 B4 => ⟨r3, rfl, ?_⟩
  refine ⟨1 + r3, rfl, by omega, by omega, fun p ws H5 hp h5 hwn hwl hwo s5 => ?_⟩
  refine ⟨d, l, p, ws, rfl, D4.same s5, D4.ne hp, h5, by omega, by omega, hwn, hwo, fun t r c kvs rm us cls H6 ht hr hc h6t h6r hR6 h6c hC6 hcl hco D6 B6 => ?_⟩
  exact ⟨t, rfl, _, h6t, rfl, _, _, rfl, _, _, rfl, rfl, fin r c ws kvs rm us cls H6 hR6 (by omega) (by omega) hwo h6r h6c hC6 hcl hco⟩
theorem end24 {mg : Str → Option Value} {K : PySem.W.Frag} {H : Hp} {R : Hp → Prop} {Q : VK} (rest : ∀ H', Same H H' → R H') :
    ∀ (p : Addr), H p = none → 0 ≤ sizeLine ∧ ∀ (p_1 : Addr), upd H p (HO.dK []) p_1 = none → spBy mg [V.ref p, V.ref p_1] (upd (upd H p (HO.dK [])) p_1 (HO.lst [])) (fun x H1 => ∀ (p : Addr), H1 p = none → rNeNA K x (V.ref p) (upd H1 p (HO.dK [])) fun x H' => ∃ k, x = V.bl k ∧ if k = true then Q (V.bl false) H' else ∀ (p : Addr), H' p = none → 0 ≤ sizeLine ∧ ∀ (p_2 : Addr), upd H' p (HO.dK []) p_2 = none → 1 ≤ sizeLine ∧ ∀ (p_3 : Addr), upd (upd H' p (HO.dK [])) p_2 (HO.tup []) p_3 = none → spBy mg [V.ref p, V.ref p_3] (upd (upd (upd H' p (HO.dK [])) p_2 (HO.tup [])) p_3 (HO.lst [V.ref p_2])) (fun x H1 => if decide (x = V.non) = false then Q (V.bl false) H1 else R H1) E0) E0 := by
  intro p hp
  refine ⟨Nat.zero_le _, fun p1 hp1 => ?_⟩
  have s1 : Same H (upd (upd H p (.dK [])) p1 (.lst [])) := (Same.upd0 hp).upd_new hp1
  have h1l : upd (upd H p (.dK [])) p1 (.lst []) p1 = some (.lst []) := upd_same
  have h1p : upd (upd H p (.dK [])) p1 (.lst []) p = some (.dK []) := by
    rw [upd_ne (fun z => by rw [← z, upd_same] at hp1; cases hp1)]; exact upd_same
  generalize upd (upd H p (.dK [])) p1 (.lst []) = H1 at s1 h1l h1p ⊢
  refine by_tells (ws := []) (kvs := []) (rm := fun _ => []) (us := []) (cls := []) ⟨by simp, fun x hx => by simp at hx⟩ (by simp) h1p (fun c hc => by simp at hc) (fun c hc => by simp at hc) (fun c hc => by simp at hc) h1l ClsAt.nil (by simp) (fun c hc => by simp at hc) fun x H2 hT2 hx2 s2 => ?_
  intro p2 hp2
  rcases hT2 with ⟨rfl, hno⟩ | ⟨q, kv', rm', rfl, h2q, hk, _⟩
  · exact absurd ⟨fun c hc => by simp at hc, fun c hc => by simp at hc, fun c hc => by simp at hc⟩ (hno fun _ => [])
  have hk0 : kv' = [] := by
    cases kv' with
    | nil => rfl
    | cons a b => simp at hk
  subst hk0
  have s3 : Same H2 (upd H2 p2 (.dK [])) := Same.upd0 hp2
  refine .inr ⟨q, rfl, p2, rfl, [], [], s3 _ _ h2q, upd_same, rfl, (fun x hx => by simp at hx), ⟨_, rfl, ?_⟩⟩
  rw [if_neg Bool.false_ne_true]
  generalize upd H2 p2 (.dK []) = H3 at s3 ⊢
  intro p3 hp3
  refine ⟨Nat.zero_le _, fun p4 hp4 => ⟨by decide, fun p5 hp5 => ?_⟩⟩
  have s4 : Same H3 (upd H3 p3 (.dK [])) := Same.upd0 hp3
  have h4p : upd H3 p3 (.dK []) p3 = some (.dK []) := upd_same
  generalize upd H3 p3 (.dK []) = H4 at s4 h4p hp4 hp5 ⊢
  have s5 : Same H4 (upd (upd H4 p4 (.tup [])) p5 (.lst [V.ref p4])) := (Same.upd0 hp4).upd_new hp5
  have h5l : upd (upd H4 p4 (.tup [])) p5 (.lst [V.ref p4]) p5 = some (.lst [V.ref p4]) := upd_same
  have h5t : upd (upd H4 p4 (.tup [])) p5 (.lst [V.ref p4]) p4 = some (.tup []) := by
    rw [upd_ne (fun z => by rw [← z, upd_same] at hp5; cases hp5)]; exact upd_same
  generalize upd (upd H4 p4 (.tup [])) p5 (.lst [V.ref p4]) = H5 at s5 h5l h5t ⊢
  refine by_tells (ws := []) (kvs := []) (rm := fun _ => []) (us := [V.ref p4]) (cls := [[]]) ⟨by simp, fun x hx => by simp at hx⟩ (by simp) (s5 _ _ h4p) (fun c hc => by simp at hc) (fun c hc => by simp at hc) (fun c hc => by simp at hc) h5l (ClsAt.nil.snoc h5t Rows3.nil) (by simp) (fun c hc => by rw [List.mem_singleton.mp hc]; exact ⟨by simp, by simp, fun x hx => by simp at hx⟩) fun x H6 hT6 hx6 s6 => ?_
  rcases hT6 with ⟨rfl, _⟩ | ⟨q6, kv6, rm6, rfl, _, _, _, _, hL⟩
  · rw [if_neg (by simp)]
    exact rest H6 (s1.trans (s2.trans (s3.trans (s4.trans (s5.trans s6)))))
  · obtain ⟨⟨x, hx, _⟩, _⟩ := hL.cl [] (by simp)
    simp at hx
theorem ok_law {P : Program} {w : World} {K : PySem.W.Frag} {mg : Str → Option Value} {base : Heap} {f : Addr} {fd : FuncData} (T : Txt K mg) (L : Fun K "law" "law" s_law f fd) (F_law_deal : Fn P w K mg base "_law_deal" 1 ["_law_script", "_law_start"] (spDeal K)) (F_law_draw : Fn P w K mg base "_law_draw" 1 ["_law_deal_here", "_law_many"] (spDraw)) (F_law_long : Fn P w K mg base "_law_long" 7 ["_law_deal_here"] (spLong)) (F_law_names_of_row : Fn P w K mg base "_law_names_of_row" 1 ["_law_many"] (spRowN)) (F_law_row : Fn P w K mg base "_law_row" 2 ["_law_deal_here", "_law_names_here"] (spRow)) (F_law_names : Fn P w K mg base "_law_names" 2 ["_law_deal_here", "_law_many"] (spNames)) (F_law_pool : Fn P w K mg base "_law_pool" 2 ["_law_deal_here"] (spPool5)) (F_law_rooms : Fn P w K mg base "_law_rooms" 2 ["_law_deal_here", "_law_names_here", "_law_pool_here", "_law_most"] (spRoomsP)) (F_law_clauses : Fn P w K mg base "_law_clauses" 3 ["_law_deal_here", "_law_names_here", "_law_pool_here", "_law_rooms_here"] (spClauses)) (Fby_units : Fn P w K mg base "by_units" 6 ["rooms", "clauses"] (spBy mg)) (F_law_units : Fn P w K mg base "_law_units" 2 ["_law_rooms_here", "_law_clauses_here"] (spUnits)) : FnOk P w K mg base CX0 8 f fd ["_law_script"] (spLaw K) := by
  have nd := sc_law.nd
  refine L.ok sc_law (fun vs H Q E h => ?_) (fun cdv A outer s H vs Q E hr h => ?_)
  · obtain ⟨a, ns, rfl, hS, hlen, k⟩ := h
    rfl
  · obtain ⟨a, ns, rfl, hS, hlen, k⟩ := h
    have hu := hu_of hr
    refine ⟨_, (pss_cons (ps_set (i := 1) nd rfl (by first | exact Or.inl rfl | exact Or.inr rfl) (pe_callF F_law_deal (hr.mono (by first | decide | omega)) rfl (pa_cons (pvM 0) (pa_cons pe_int pa_nil))))
      (pss_cons (ps_if (pt_cmpR op_eq (pe_callF F_law_draw (hr.mono (by first | decide | omega)) rfl (pa_cons (pvM 1) (pa_cons pe_int pa_nil))) pe_int (nomark _)) (pss_one (ps_ret (pe_callF F_law_long (hr.mono (by first | decide | omega)) rfl (pa_cons (pvM 1) pa_nil)))) pss_nil)
      (pss_cons (ps_if (pt_cmpR op_eq (pe_callF F_law_draw (hr.mono (by first | decide | omega)) rfl (pa_cons (pvM 1) (pa_cons pe_int pa_nil))) pe_int (nomark _)) (pss_one (ps_asg (pe_callF F_law_row (hr.mono (by first | decide | omega)) rfl (pa_cons (pvM 1) (pa_cons (pe_callF F_law_names_of_row (hr.mono (by first | decide | omega)) rfl (pa_cons (pe_op op_add pe_int (pe_callF F_law_draw (hr.mono (by first | decide | omega)) rfl (pa_cons (pvM 1) (pa_cons pe_int pa_nil)))) pa_nil)) pa_nil))) (pg_tupT (n := 2) rfl (pgs_cons (pg_name (i := 2) nd rfl (by first | exact Or.inl rfl | exact Or.inr rfl)) (pgs_cons (pg_name (i := 3) nd rfl (by first | exact Or.inl rfl | exact Or.inr rfl)) pgs_nil))))) (pss_cons (ps_set (i := 4) nd rfl (by first | exact Or.inl rfl | exact Or.inr rfl) (pe_callF F_law_names (hr.mono (by first | decide | omega)) rfl (pa_cons (pvM 1) (pa_cons (pe_op op_add pe_int (pe_callF F_law_draw (hr.mono (by first | decide | omega)) rfl (pa_cons (pvM 1) (pa_cons pe_int pa_nil)))) pa_nil))))
      (pss_cons (ps_set (i := 5) nd rfl (by first | exact Or.inl rfl | exact Or.inr rfl) (pe_callF F_law_pool (hr.mono (by first | decide | omega)) rfl (pa_cons (pvM 1) pa_nil)))
      (pss_cons (ps_set (i := 2) nd rfl (by first | exact Or.inl rfl | exact Or.inr rfl) (pe_callF F_law_rooms (hr.mono (by first | decide | omega)) rfl (pa_cons (pvM 1) (pa_cons (pvM 4) (pa_cons (pvM 5) (pa_cons pe_int pa_nil))))))
      (pss_one (ps_set (i := 3) nd rfl (by first | exact Or.inl rfl | exact Or.inr rfl) (pe_callF F_law_clauses (hr.mono (by first | decide | omega)) rfl (pa_cons (pvM 1) (pa_cons (pvM 4) (pa_cons (pvM 5) (pa_cons (pvM 2) pa_nil)))))))))))
      (pss_cons (ps_if (PW.pt (pw_or (pt_cmpR (op_neNA (hu102 hr)) (pe_callF Fby_units (hr.mono (by first | decide | omega)) rfl (pa_cons pe_dnewK (pa_cons (pe_lst pa_nil) pa_nil))) pe_dnewK (nomark _)) (pw_or1 (pt_cmp (pc_notN (pe_callF Fby_units (hr.mono (by first | decide | omega)) rfl (pa_cons pe_dnewK (pa_cons (pe_lst (pa_cons (pe_tup pa_nil) pa_nil)) pa_nil)))))))) (pss_one (ps_ret pe_bl)) pss_nil)
      (pss_cons (ps_set (i := 6) nd rfl (by first | exact Or.inl rfl | exact Or.inr rfl) (pe_callF F_law_units (hr.mono (by first | decide | omega)) rfl (pa_cons (pvM 2) (pa_cons (pvM 3) pa_nil))))
      (pss_cons (ps_set (i := 7) nd rfl (by first | exact Or.inl rfl | exact Or.inr rfl) (pe_callTy call_dictD rfl T.b_dict (show bootBuiltins "dict" = some (.type "dict") by decide +kernel) (pa_cons (pvM 2) pa_nil)))
      (pss_cons (ps_set (i := 8) nd rfl (by first | exact Or.inl rfl | exact Or.inr rfl) (pe_callTy call_listL rfl T.b_list (show bootBuiltins "list" = some (.type "list") by decide +kernel) (pa_cons (pvM 3) pa_nil)))
      (pss_cons (ps_set (i := 9) nd rfl (by first | exact Or.inl rfl | exact Or.inr rfl) (pe_callF Fby_units (hr.mono (by first | decide | omega)) rfl (pa_cons (pvM 7) (pa_cons (pvM 8) pa_nil))))
      (pss_cons (ps_if (PW.pt (pw_or (pt_cmpR (op_neNA (hu102 hr)) (pvM 9) (pvM 6) (nomark _)) (pw_or (pt_cmpR (op_neDA (hu102 hr)) (pvM 7) (pvM 2) (nomark _)) (pw_or1 (pt_cmpR (op_neD (hu100 hr)) (pvM 8) (pvM 3) (nomark _)))))) (pss_one (ps_ret pe_bl)) pss_nil)
      (pss_cons (ps_if (pt_cmp (pc_notN (pvM 9))) (pss_one (ps_expr (pe_dclear (pvM 9)))) pss_nil)
      (pss_one (ps_ret (pe_and (pe_cmpR (op_eqNA (hu102 hr)) (pe_callF Fby_units (hr.mono (by first | decide | omega)) rfl (pa_cons (pvM 7) (pa_cons (pvM 8) pa_nil))) (pvM 6) (nomark _)) (pe_one (pe_cmpR (op_eqDA (hu102 hr)) (pvM 7) (pvM 2) (nomark _)))))))))))))))), ?_⟩
    (try ctx_has vcx true_and tDClear tNotN)
    refine ⟨a, ns, 1, rfl, hS, hlen, by decide, by decide, fun d l H1 hd hl D1 sm1 => ?_⟩
    refine draw_rd D1 (by decide) (by decide) fun r1 H2 r10 r11 D2 B2 => ⟨rfl, ?_⟩
    by_cases h0 : V.int r1 = V.int 7
    · rw [if_pos h0]
      exact ⟨d, l, rfl, D2, fun H' => k H'⟩
    rw [if_neg h0]
    refine draw_rd D2 (by decide) (by decide) fun r2 H3 r20 r21 D3 B3 => ⟨rfl, ?_⟩
    by_cases h1 : V.int r2 = V.int 0
    · rw [if_pos h1]
      refine head24r D3 fun r c ws kvs rm us cls H6 hR hw1 hwl hwo hr hc hC hcl hco => ?_
      (try ctx_has vcx true_and)
      refine end24 fun H7 s7 => ?_
      exact rest24 (hR.keep fun _ _ e => s7 _ _ e) hw1 hwl hwo (s7 _ _ hr) (s7 _ _ hc) (hC.keep fun _ _ e => s7 _ _ e) hcl hco fun H' => k H'
    rw [if_neg h1]
    refine head24 D3 fun r c ws kvs rm us cls H6 hR hw1 hwl hwo hr hc hC hcl hco => ?_
    (try ctx_has vcx true_and)
    refine end24 fun H7 s7 => ?_
    exact rest24 (hR.keep fun _ _ e => s7 _ _ e) hw1 hwl hwo (s7 _ _ hr) (s7 _ _ hc) (hC.keep fun _ _ e => s7 _ _ e) hcl hco fun H' => k H'
theorem lenq1 {α : Type} {us : List α} (h : us.length = 1) : ∃ u0, us = [u0] := by
  match us, h with
  | [u0], _ => exact ⟨u0, rfl⟩
theorem lenq2 {α : Type} {us : List α} (h : us.length = 2) : ∃ u0 u1, us = [u0, u1] := by
  match us, h with
  | [u0, u1], _ => exact ⟨u0, u1, rfl⟩
theorem lenq3 {α : Type} {us : List α} (h : us.length = 3) : ∃ u0 u1 u2, us = [u0, u1, u2] := by
  match us, h with
  | [u0, u1, u2], _ => exact ⟨u0, u1, u2, rfl⟩
theorem lenq4 {α : Type} {us : List α} (h : us.length = 4) : ∃ u0 u1 u2 u3, us = [u0, u1, u2, u3] := by
  match us, h with
  | [u0, u1, u2, u3], _ => exact ⟨u0, u1, u2, u3, rfl⟩
theorem lenq5 {α : Type} {us : List α} (h : us.length = 5) : ∃ u0 u1 u2 u3 u4, us = [u0, u1, u2, u3, u4] := by
  match us, h with
  | [u0, u1, u2, u3, u4], _ => exact ⟨u0, u1, u2, u3, u4, rfl⟩
theorem lenq6 {α : Type} {us : List α} (h : us.length = 6) : ∃ u0 u1 u2 u3 u4 u5, us = [u0, u1, u2, u3, u4, u5] := by
  match us, h with
  | [u0, u1, u2, u3, u4, u5], _ => exact ⟨u0, u1, u2, u3, u4, u5, rfl⟩
theorem lenq7 {α : Type} {us : List α} (h : us.length = 7) : ∃ u0 u1 u2 u3 u4 u5 u6, us = [u0, u1, u2, u3, u4, u5, u6] := by
  match us, h with
  | [u0, u1, u2, u3, u4, u5, u6], _ => exact ⟨u0, u1, u2, u3, u4, u5, u6, rfl⟩
theorem lenq8 {α : Type} {us : List α} (h : us.length = 8) : ∃ u0 u1 u2 u3 u4 u5 u6 u7, us = [u0, u1, u2, u3, u4, u5, u6, u7] := by
  match us, h with
  | [u0, u1, u2, u3, u4, u5, u6, u7], _ => exact ⟨u0, u1, u2, u3, u4, u5, u6, u7, rfl⟩
theorem lenq9 {α : Type} {us : List α} (h : us.length = 9) : ∃ u0 u1 u2 u3 u4 u5 u6 u7 u8, us = [u0, u1, u2, u3, u4, u5, u6, u7, u8] := by
  match us, h with
  | [u0, u1, u2, u3, u4, u5, u6, u7, u8], _ => exact ⟨u0, u1, u2, u3, u4, u5, u6, u7, u8, rfl⟩
theorem lenq10 {α : Type} {us : List α} (h : us.length = 10) : ∃ u0 u1 u2 u3 u4 u5 u6 u7 u8 u9, us = [u0, u1, u2, u3, u4, u5, u6, u7, u8, u9] := by
  match us, h with
  | [u0, u1, u2, u3, u4, u5, u6, u7, u8, u9], _ => exact ⟨u0, u1, u2, u3, u4, u5, u6, u7, u8, u9, rfl⟩
theorem lenq11 {α : Type} {us : List α} (h : us.length = 11) : ∃ u0 u1 u2 u3 u4 u5 u6 u7 u8 u9 u10, us = [u0, u1, u2, u3, u4, u5, u6, u7, u8, u9, u10] := by
  match us, h with
  | [u0, u1, u2, u3, u4, u5, u6, u7, u8, u9, u10], _ => exact ⟨u0, u1, u2, u3, u4, u5, u6, u7, u8, u9, u10, rfl⟩
theorem all_mk {l : PySem.W.OpenLaw} {w : World} {K : PySem.W.Frag} {h : Heap} {mg : Str → Option Value} {fa : Addr} (X : K.In h) (G : h.Ns mainGlobals mg) (hfa : mg "law" = some (.ref fa))
    {C_Watch : Addr}
    {C_Units : Addr}
    {f0 : Addr} {oc0 : Value} {od0 an0 : Option Addr} {sl0 : Array (Option Value)} {kV0 dc0 pm0 cd0 ct0 : Value}
    {f1 : Addr} {oc1 : Value} {od1 an1 : Option Addr} {sl1 : Array (Option Value)} {kV1 dc1 pm1 cd1 ct1 : Value}
    {f2 : Addr} {oc2 : Value} {od2 an2 : Option Addr} {sl2 : Array (Option Value)} {kV2 dc2 pm2 cd2 ct2 : Value}
    {f3 : Addr} {oc3 : Value} {od3 an3 : Option Addr} {sl3 : Array (Option Value)} {kV3 dc3 pm3 cd3 ct3 : Value}
    {f4 : Addr} {oc4 : Value} {od4 an4 : Option Addr} {sl4 : Array (Option Value)} {kV4 dc4 pm4 cd4 ct4 : Value}
    {f5 : Addr} {oc5 : Value} {od5 an5 : Option Addr} {sl5 : Array (Option Value)} {kV5 dc5 pm5 cd5 ct5 : Value}
    {f6 : Addr} {oc6 : Value} {od6 an6 : Option Addr} {sl6 : Array (Option Value)} {kV6 dc6 pm6 cd6 ct6 : Value}
    {f7 : Addr} {oc7 : Value} {od7 an7 : Option Addr} {sl7 : Array (Option Value)} {kV7 dc7 pm7 cd7 ct7 : Value}
    {f8 : Addr} {oc8 : Value} {od8 an8 : Option Addr} {sl8 : Array (Option Value)} {kV8 dc8 pm8 cd8 ct8 : Value}
    {f9 : Addr} {oc9 : Value} {od9 an9 : Option Addr} {sl9 : Array (Option Value)} {kV9 dc9 pm9 cd9 ct9 : Value}
    {f10 : Addr} {oc10 : Value} {od10 an10 : Option Addr} {sl10 : Array (Option Value)} {kV10 dc10 pm10 cd10 ct10 : Value}
    {f11 : Addr} {oc11 : Value} {od11 an11 : Option Addr} {sl11 : Array (Option Value)} {kV11 dc11 pm11 cd11 ct11 : Value}
    {f12 : Addr} {oc12 : Value} {od12 an12 : Option Addr} {sl12 : Array (Option Value)} {kV12 dc12 pm12 cd12 ct12 : Value}
    {f13 : Addr} {oc13 : Value} {od13 an13 : Option Addr} {sl13 : Array (Option Value)} {kV13 dc13 pm13 cd13 ct13 : Value}
    {f14 : Addr} {oc14 : Value} {od14 an14 : Option Addr} {sl14 : Array (Option Value)} {kV14 dc14 pm14 cd14 ct14 : Value}
    {f15 : Addr} {oc15 : Value} {od15 an15 : Option Addr} {sl15 : Array (Option Value)} {kV15 dc15 pm15 cd15 ct15 : Value}
    {f16 : Addr} {oc16 : Value} {od16 an16 : Option Addr} {sl16 : Array (Option Value)} {kV16 dc16 pm16 cd16 ct16 : Value}
    {f17 : Addr} {oc17 : Value} {od17 an17 : Option Addr} {sl17 : Array (Option Value)} {kV17 dc17 pm17 cd17 ct17 : Value}
    {f18 : Addr} {oc18 : Value} {od18 an18 : Option Addr} {sl18 : Array (Option Value)} {kV18 dc18 pm18 cd18 ct18 : Value}
    {f19 : Addr} {oc19 : Value} {od19 an19 : Option Addr} {sl19 : Array (Option Value)} {kV19 dc19 pm19 cd19 ct19 : Value}
    {f20 : Addr} {oc20 : Value} {od20 an20 : Option Addr} {sl20 : Array (Option Value)} {kV20 dc20 pm20 cd20 ct20 : Value}
    {f21 : Addr} {oc21 : Value} {od21 an21 : Option Addr} {sl21 : Array (Option Value)} {kV21 dc21 pm21 cd21 ct21 : Value}
    {f22 : Addr} {oc22 : Value} {od22 an22 : Option Addr} {sl22 : Array (Option Value)} {kV22 dc22 pm22 cd22 ct22 : Value}
    {f23 : Addr} {oc23 : Value} {od23 an23 : Option Addr} {sl23 : Array (Option Value)} {kV23 dc23 pm23 cd23 ct23 : Value}
    {f24 : Addr} {oc24 : Value} {od24 an24 : Option Addr} {sl24 : Array (Option Value)} {kV24 dc24 pm24 cd24 ct24 : Value}
    {f25 : Addr} {oc25 : Value} {od25 an25 : Option Addr} {sl25 : Array (Option Value)} {kV25 dc25 pm25 cd25 ct25 : Value}
    {f26 : Addr} {oc26 : Value} {od26 an26 : Option Addr} {sl26 : Array (Option Value)} {kV26 dc26 pm26 cd26 ct26 : Value}
    {f27 : Addr} {oc27 : Value} {od27 an27 : Option Addr} {sl27 : Array (Option Value)} {kV27 dc27 pm27 cd27 ct27 : Value}
    {f28 : Addr} {oc28 : Value} {od28 an28 : Option Addr} {sl28 : Array (Option Value)} {kV28 dc28 pm28 cd28 ct28 : Value}
    (aC_Watch : PySem.W.nsIn K mainGlobals "Watch" = some (some (.ref C_Watch)))
    (pg_Watch : PySem.W.plainGet K C_Watch Str.empty = true)
    (hd_Watch : PySem.W.hasDictIn K C_Watch = true)
    (po_Watch : PySem.W.plainOver K C_Watch = true)
    (sa_Watch : PySem.W.findIn K (.ref C_Watch) "__setattr__" = some (some (.builtin "object.__setattr__")))
    (nf_Watch_clause : PySem.W.findIn K (.ref C_Watch) "clause" = some none)
    (nf_Watch_one : PySem.W.findIn K (.ref C_Watch) "one" = some none)
    (nf_Watch_other : PySem.W.findIn K (.ref C_Watch) "other" = some none)
    (mk_Watch : PySem.W.makesIn K C_Watch = true) (kc_Watch : PySem.W.keepIn K (.ref C_Watch) = true)
    (aC_Units : PySem.W.nsIn K mainGlobals "Units" = some (some (.ref C_Units)))
    (pg_Units : PySem.W.plainGet K C_Units Str.empty = true)
    (hd_Units : PySem.W.hasDictIn K C_Units = true)
    (po_Units : PySem.W.plainOver K C_Units = true)
    (sa_Units : PySem.W.findIn K (.ref C_Units) "__setattr__" = some (some (.builtin "object.__setattr__")))
    (nf_Units_rooms : PySem.W.findIn K (.ref C_Units) "rooms" = some none)
    (nf_Units_watches : PySem.W.findIn K (.ref C_Units) "watches" = some none)
    (nf_Units_dead : PySem.W.findIn K (.ref C_Units) "dead" = some none)
    (mk_Units : PySem.W.makesIn K C_Units = true) (kc_Units : PySem.W.keepIn K (.ref C_Units) = true)
    (a0 : PySem.W.nsIn K mainGlobals "room_against" = some (some (.ref f0)))
    (l0 : K.lookup f0 = some ⟨oc0, od0, .func (PySem.W.fnOf "room_against" "room_against" (defArgs s_room_against) (defBody s_room_against) (defScope s_room_against) .none kV0 dc0 pm0 an0 cd0 ct0), sl0⟩)
    (c0 : PySem.W.codeIn K cd0 "room_against" = true) (k0 : PySem.W.keepIn K (.ref f0) = true)
    (a1 : PySem.W.nsIn K mainGlobals "is_untrue" = some (some (.ref f1)))
    (l1 : K.lookup f1 = some ⟨oc1, od1, .func (PySem.W.fnOf "is_untrue" "is_untrue" (defArgs s_is_untrue) (defBody s_is_untrue) (defScope s_is_untrue) .none kV1 dc1 pm1 an1 cd1 ct1), sl1⟩)
    (c1 : PySem.W.codeIn K cd1 "is_untrue" = true) (k1 : PySem.W.keepIn K (.ref f1) = true)
    (a2 : PySem.W.nsIn K mainGlobals "opposite_of" = some (some (.ref f2)))
    (l2 : K.lookup f2 = some ⟨oc2, od2, .func (PySem.W.fnOf "opposite_of" "opposite_of" (defArgs s_opposite_of) (defBody s_opposite_of) (defScope s_opposite_of) .none kV2 dc2 pm2 an2 cd2 ct2), sl2⟩)
    (c2 : PySem.W.codeIn K cd2 "opposite_of" = true) (k2 : PySem.W.keepIn K (.ref f2) = true)
    (a3 : PySem.W.nsIn K mainGlobals "newly_untrue" = some (some (.ref f3)))
    (l3 : K.lookup f3 = some ⟨oc3, od3, .func (PySem.W.fnOf "newly_untrue" "newly_untrue" (defArgs s_newly_untrue) (defBody s_newly_untrue) (defScope s_newly_untrue) .none kV3 dc3 pm3 an3 cd3 ct3), sl3⟩)
    (c3 : PySem.W.codeIn K cd3 "newly_untrue" = true) (k3 : PySem.W.keepIn K (.ref f3) = true)
    (a4 : PySem.W.nsIn K mainGlobals "make_true" = some (some (.ref f4)))
    (l4 : K.lookup f4 = some ⟨oc4, od4, .func (PySem.W.fnOf "make_true" "make_true" (defArgs s_make_true) (defBody s_make_true) (defScope s_make_true) .none kV4 dc4 pm4 an4 cd4 ct4), sl4⟩)
    (c4 : PySem.W.codeIn K cd4 "make_true" = true) (k4 : PySem.W.keepIn K (.ref f4) = true)
    (a5 : PySem.W.findIn K (.ref C_Watch) "__init__" = some (some (.ref f5))) (i5 : PySem.W.isFn K (.ref f5) = true)
    (l5 : K.lookup f5 = some ⟨oc5, od5, .func (PySem.W.fnOf "__init__" "Watch.__init__" (defArgs s_Watch___init__) (defBody s_Watch___init__) (defScope s_Watch___init__) .none kV5 dc5 pm5 an5 cd5 ct5), sl5⟩)
    (c5 : PySem.W.codeIn K cd5 "Watch.__init__" = true) (k5 : PySem.W.keepIn K (.ref f5) = true)
    (a6 : PySem.W.findIn K (.ref C_Watch) "beside" = some (some (.ref f6))) (i6 : PySem.W.isFn K (.ref f6) = true)
    (l6 : K.lookup f6 = some ⟨oc6, od6, .func (PySem.W.fnOf "beside" "Watch.beside" (defArgs s_Watch_beside) (defBody s_Watch_beside) (defScope s_Watch_beside) .none kV6 dc6 pm6 an6 cd6 ct6), sl6⟩)
    (c6 : PySem.W.codeIn K cd6 "Watch.beside" = true) (k6 : PySem.W.keepIn K (.ref f6) = true)
    (a7 : PySem.W.findIn K (.ref C_Watch) "instead_of" = some (some (.ref f7))) (i7 : PySem.W.isFn K (.ref f7) = true)
    (l7 : K.lookup f7 = some ⟨oc7, od7, .func (PySem.W.fnOf "instead_of" "Watch.instead_of" (defArgs s_Watch_instead_of) (defBody s_Watch_instead_of) (defScope s_Watch_instead_of) .none kV7 dc7 pm7 an7 cd7 ct7), sl7⟩)
    (c7 : PySem.W.codeIn K cd7 "Watch.instead_of" = true) (k7 : PySem.W.keepIn K (.ref f7) = true)
    (a8 : PySem.W.findIn K (.ref C_Watch) "put_instead_of" = some (some (.ref f8))) (i8 : PySem.W.isFn K (.ref f8) = true)
    (l8 : K.lookup f8 = some ⟨oc8, od8, .func (PySem.W.fnOf "put_instead_of" "Watch.put_instead_of" (defArgs s_Watch_put_instead_of) (defBody s_Watch_put_instead_of) (defScope s_Watch_put_instead_of) .none kV8 dc8 pm8 an8 cd8 ct8), sl8⟩)
    (c8 : PySem.W.codeIn K cd8 "Watch.put_instead_of" = true) (k8 : PySem.W.keepIn K (.ref f8) = true)
    (a9 : PySem.W.findIn K (.ref C_Units) "__init__" = some (some (.ref f9))) (i9 : PySem.W.isFn K (.ref f9) = true)
    (l9 : K.lookup f9 = some ⟨oc9, od9, .func (PySem.W.fnOf "__init__" "Units.__init__" (defArgs s_Units___init__) (defBody s_Units___init__) (defScope s_Units___init__) .none kV9 dc9 pm9 an9 cd9 ct9), sl9⟩)
    (c9 : PySem.W.codeIn K cd9 "Units.__init__" = true) (k9 : PySem.W.keepIn K (.ref f9) = true)
    (a10 : PySem.W.findIn K (.ref C_Units) "set_watch" = some (some (.ref f10))) (i10 : PySem.W.isFn K (.ref f10) = true)
    (l10 : K.lookup f10 = some ⟨oc10, od10, .func (PySem.W.fnOf "set_watch" "Units.set_watch" (defArgs s_Units_set_watch) (defBody s_Units_set_watch) (defScope s_Units_set_watch) .none kV10 dc10 pm10 an10 cd10 ct10), sl10⟩)
    (c10 : PySem.W.codeIn K cd10 "Units.set_watch" = true) (k10 : PySem.W.keepIn K (.ref f10) = true)
    (a11 : PySem.W.findIn K (.ref C_Units) "last_ones" = some (some (.ref f11))) (i11 : PySem.W.isFn K (.ref f11) = true)
    (l11 : K.lookup f11 = some ⟨oc11, od11, .func (PySem.W.fnOf "last_ones" "Units.last_ones" (defArgs s_Units_last_ones) (defBody s_Units_last_ones) (defScope s_Units_last_ones) .none kV11 dc11 pm11 an11 cd11 ct11), sl11⟩)
    (c11 : PySem.W.codeIn K cd11 "Units.last_ones" = true) (k11 : PySem.W.keepIn K (.ref f11) = true)
    (a12 : PySem.W.findIn K (.ref C_Units) "lives_with" = some (some (.ref f12))) (i12 : PySem.W.isFn K (.ref f12) = true)
    (l12 : K.lookup f12 = some ⟨oc12, od12, .func (PySem.W.fnOf "lives_with" "Units.lives_with" (defArgs s_Units_lives_with) (defBody s_Units_lives_with) (defScope s_Units_lives_with) .none kV12 dc12 pm12 an12 cd12 ct12), sl12⟩)
    (c12 : PySem.W.codeIn K cd12 "Units.lives_with" = true) (k12 : PySem.W.keepIn K (.ref f12) = true)
    (a13 : PySem.W.findIn K (.ref C_Units) "go_by" = some (some (.ref f13))) (i13 : PySem.W.isFn K (.ref f13) = true)
    (l13 : K.lookup f13 = some ⟨oc13, od13, .func (PySem.W.fnOf "go_by" "Units.go_by" (defArgs s_Units_go_by) (defBody s_Units_go_by) (defScope s_Units_go_by) .none kV13 dc13 pm13 an13 cd13 ct13), sl13⟩)
    (c13 : PySem.W.codeIn K cd13 "Units.go_by" = true) (k13 : PySem.W.keepIn K (.ref f13) = true)
    (a14 : PySem.W.nsIn K mainGlobals "by_units" = some (some (.ref f14)))
    (l14 : K.lookup f14 = some ⟨oc14, od14, .func (PySem.W.fnOf "by_units" "by_units" (defArgs s_by_units) (defBody s_by_units) (defScope s_by_units) .none kV14 dc14 pm14 an14 cd14 ct14), sl14⟩)
    (c14 : PySem.W.codeIn K cd14 "by_units" = true) (k14 : PySem.W.keepIn K (.ref f14) = true)
    (a15 : PySem.W.nsIn K mainGlobals "_law_draw" = some (some (.ref f15)))
    (l15 : K.lookup f15 = some ⟨oc15, od15, .func (PySem.W.fnOf "_law_draw" "_law_draw" (defArgs s__law_draw) (defBody s__law_draw) (defScope s__law_draw) .none kV15 dc15 pm15 an15 cd15 ct15), sl15⟩)
    (c15 : PySem.W.codeIn K cd15 "_law_draw" = true) (k15 : PySem.W.keepIn K (.ref f15) = true)
    (a16 : PySem.W.nsIn K mainGlobals "_law_deal" = some (some (.ref f16)))
    (l16 : K.lookup f16 = some ⟨oc16, od16, .func (PySem.W.fnOf "_law_deal" "_law_deal" (defArgs s__law_deal) (defBody s__law_deal) (defScope s__law_deal) .none kV16 dc16 pm16 an16 cd16 ct16), sl16⟩)
    (c16 : PySem.W.codeIn K cd16 "_law_deal" = true) (k16 : PySem.W.keepIn K (.ref f16) = true)
    (a17 : PySem.W.nsIn K mainGlobals "_law_clause" = some (some (.ref f17)))
    (l17 : K.lookup f17 = some ⟨oc17, od17, .func (PySem.W.fnOf "_law_clause" "_law_clause" (defArgs s__law_clause) (defBody s__law_clause) (defScope s__law_clause) .none kV17 dc17 pm17 an17 cd17 ct17), sl17⟩)
    (c17 : PySem.W.codeIn K cd17 "_law_clause" = true) (k17 : PySem.W.keepIn K (.ref f17) = true)
    (a18 : PySem.W.nsIn K mainGlobals "_law_clauses" = some (some (.ref f18)))
    (l18 : K.lookup f18 = some ⟨oc18, od18, .func (PySem.W.fnOf "_law_clauses" "_law_clauses" (defArgs s__law_clauses) (defBody s__law_clauses) (defScope s__law_clauses) .none kV18 dc18 pm18 an18 cd18 ct18), sl18⟩)
    (c18 : PySem.W.codeIn K cd18 "_law_clauses" = true) (k18 : PySem.W.keepIn K (.ref f18) = true)
    (a19 : PySem.W.nsIn K mainGlobals "_law_names" = some (some (.ref f19)))
    (l19 : K.lookup f19 = some ⟨oc19, od19, .func (PySem.W.fnOf "_law_names" "_law_names" (defArgs s__law_names) (defBody s__law_names) (defScope s__law_names) .none kV19 dc19 pm19 an19 cd19 ct19), sl19⟩)
    (c19 : PySem.W.codeIn K cd19 "_law_names" = true) (k19 : PySem.W.keepIn K (.ref f19) = true)
    (a20 : PySem.W.nsIn K mainGlobals "_law_pool" = some (some (.ref f20)))
    (l20 : K.lookup f20 = some ⟨oc20, od20, .func (PySem.W.fnOf "_law_pool" "_law_pool" (defArgs s__law_pool) (defBody s__law_pool) (defScope s__law_pool) .none kV20 dc20 pm20 an20 cd20 ct20), sl20⟩)
    (c20 : PySem.W.codeIn K cd20 "_law_pool" = true) (k20 : PySem.W.keepIn K (.ref f20) = true)
    (a21 : PySem.W.nsIn K mainGlobals "_law_rooms" = some (some (.ref f21)))
    (l21 : K.lookup f21 = some ⟨oc21, od21, .func (PySem.W.fnOf "_law_rooms" "_law_rooms" (defArgs s__law_rooms) (defBody s__law_rooms) (defScope s__law_rooms) .none kV21 dc21 pm21 an21 cd21 ct21), sl21⟩)
    (c21 : PySem.W.codeIn K cd21 "_law_rooms" = true) (k21 : PySem.W.keepIn K (.ref f21) = true)
    (a22 : PySem.W.nsIn K mainGlobals "_law_open" = some (some (.ref f22)))
    (l22 : K.lookup f22 = some ⟨oc22, od22, .func (PySem.W.fnOf "_law_open" "_law_open" (defArgs s__law_open) (defBody s__law_open) (defScope s__law_open) .none kV22 dc22 pm22 an22 cd22 ct22), sl22⟩)
    (c22 : PySem.W.codeIn K cd22 "_law_open" = true) (k22 : PySem.W.keepIn K (.ref f22) = true)
    (a23 : PySem.W.nsIn K mainGlobals "_law_units" = some (some (.ref f23)))
    (l23 : K.lookup f23 = some ⟨oc23, od23, .func (PySem.W.fnOf "_law_units" "_law_units" (defArgs s__law_units) (defBody s__law_units) (defScope s__law_units) .none kV23 dc23 pm23 an23 cd23 ct23), sl23⟩)
    (c23 : PySem.W.codeIn K cd23 "_law_units" = true) (k23 : PySem.W.keepIn K (.ref f23) = true)
    (a24 : PySem.W.nsIn K mainGlobals "_law_names_of_row" = some (some (.ref f24)))
    (l24 : K.lookup f24 = some ⟨oc24, od24, .func (PySem.W.fnOf "_law_names_of_row" "_law_names_of_row" (defArgs s__law_names_of_row) (defBody s__law_names_of_row) (defScope s__law_names_of_row) .none kV24 dc24 pm24 an24 cd24 ct24), sl24⟩)
    (c24 : PySem.W.codeIn K cd24 "_law_names_of_row" = true) (k24 : PySem.W.keepIn K (.ref f24) = true)
    (a25 : PySem.W.nsIn K mainGlobals "_law_row" = some (some (.ref f25)))
    (l25 : K.lookup f25 = some ⟨oc25, od25, .func (PySem.W.fnOf "_law_row" "_law_row" (defArgs s__law_row) (defBody s__law_row) (defScope s__law_row) .none kV25 dc25 pm25 an25 cd25 ct25), sl25⟩)
    (c25 : PySem.W.codeIn K cd25 "_law_row" = true) (k25 : PySem.W.keepIn K (.ref f25) = true)
    (a26 : PySem.W.nsIn K mainGlobals "_law_value_by_value" = some (some (.ref f26)))
    (l26 : K.lookup f26 = some ⟨oc26, od26, .func (PySem.W.fnOf "_law_value_by_value" "_law_value_by_value" (defArgs s__law_value_by_value) (defBody s__law_value_by_value) (defScope s__law_value_by_value) .none kV26 dc26 pm26 an26 cd26 ct26), sl26⟩)
    (c26 : PySem.W.codeIn K cd26 "_law_value_by_value" = true) (k26 : PySem.W.keepIn K (.ref f26) = true)
    (a27 : PySem.W.nsIn K mainGlobals "_law_long" = some (some (.ref f27)))
    (l27 : K.lookup f27 = some ⟨oc27, od27, .func (PySem.W.fnOf "_law_long" "_law_long" (defArgs s__law_long) (defBody s__law_long) (defScope s__law_long) .none kV27 dc27 pm27 an27 cd27 ct27), sl27⟩)
    (c27 : PySem.W.codeIn K cd27 "_law_long" = true) (k27 : PySem.W.keepIn K (.ref f27) = true)
    (a28 : PySem.W.nsIn K mainGlobals "law" = some (some (.ref f28)))
    (l28 : K.lookup f28 = some ⟨oc28, od28, .func (PySem.W.fnOf "law" "law" (defArgs s_law) (defBody s_law) (defScope s_law) .none kV28 dc28 pm28 an28 cd28 ct28), sl28⟩)
    (c28 : PySem.W.codeIn K cd28 "law" = true) (k28 : PySem.W.keepIn K (.ref f28) = true)
    (z0 : PySem.W.nsIn K mainGlobals "len" = some none)
    (z1 : PySem.W.nsIn K mainGlobals "max" = some none)
    (z2 : PySem.W.nsIn K mainGlobals "sum" = some none)
    (z3 : PySem.W.nsIn K mainGlobals "list" = some none)
    (z4 : PySem.W.nsIn K mainGlobals "reversed" = some none)
    (z5 : PySem.W.nsIn K mainGlobals "range" = some none)
    (z6 : PySem.W.nsIn K mainGlobals "sorted" = some none)
    (z7 : PySem.W.nsIn K mainGlobals "dict" = some none)
    (z8 : PySem.W.nsIn K mainGlobals "tuple" = some none)
    (z9 : PySem.W.nsIn K mainGlobals "enumerate" = some none) :
    ∃ fd : FuncData, (∀ (s : Shared) (v : Value), BindsTo s fd ⟨[v], []⟩ [("_law_script", v)]) ∧ ∀ base : Heap, K.In base → base.Ns mainGlobals mg → FnOk l.prog w K mg base CX0 8 fa fd ["_law_script"] (spLaw K) := by
  have e := hfa.symm.trans (PySem.W.mg_of X G a28)
  cases e
  have eC_Watch := clsAt_of (PySem.W.mg_of X G aC_Watch)
  subst eC_Watch
  have eC_Units := clsAt_of (PySem.W.mg_of X G aC_Units)
  subst eC_Units
  have T : Txt K mg := ⟨PySem.W.mg_none_of X G z0, PySem.W.mg_none_of X G z1, PySem.W.mg_none_of X G z2, PySem.W.mg_none_of X G z3, PySem.W.mg_none_of X G z4, PySem.W.mg_none_of X G z5, PySem.W.mg_none_of X G z6, PySem.W.mg_none_of X G z7, PySem.W.mg_none_of X G z8, PySem.W.mg_none_of X G z9, PySem.W.mg_of X G aC_Watch, PySem.W.mg_of X G aC_Units, ⟨pg_Watch, hd_Watch, po_Watch, sa_Watch⟩, ⟨pg_Units, hd_Units, po_Units, sa_Units⟩, nf_Watch_clause, nf_Watch_one, nf_Watch_other, nf_Units_rooms, nf_Units_watches, nf_Units_dead⟩
  have L0 : FnL K mg "room_against" s_room_against ["literal", "room"] := fnL_mk X G a0 l0 c0 k0 fun _ _ _ _ _ _ us hl => by obtain ⟨u0, u1, rfl⟩ := lenq2 hl; rfl
  have L1 : FnL K mg "is_untrue" s_is_untrue ["literal", "rooms"] := fnL_mk X G a1 l1 c1 k1 fun _ _ _ _ _ _ us hl => by obtain ⟨u0, u1, rfl⟩ := lenq2 hl; rfl
  have L2 : FnL K mg "opposite_of" s_opposite_of ["literal"] := fnL_mk X G a2 l2 c2 k2 fun _ _ _ _ _ _ us hl => by obtain ⟨u0, rfl⟩ := lenq1 hl; rfl
  have L3 : FnL K mg "newly_untrue" s_newly_untrue ["cell", "before", "now"] := fnL_mk X G a3 l3 c3 k3 fun _ _ _ _ _ _ us hl => by obtain ⟨u0, u1, u2, rfl⟩ := lenq3 hl; rfl
  have L4 : FnL K mg "make_true" s_make_true ["literal", "rooms"] := fnL_mk X G a4 l4 c4 k4 fun _ _ _ _ _ _ us hl => by obtain ⟨u0, u1, rfl⟩ := lenq2 hl; rfl
  have L5 : MtdL K (Mk K (clsAt mg "Watch")) "__init__" "Watch.__init__" s_Watch___init__ ["self", "clause", "one", "other"] := mtdL_mk ⟨mk_Watch, a5, i5, kc_Watch⟩ l5 c5 k5 fun _ _ _ _ _ _ us hl => by obtain ⟨u0, u1, u2, u3, rfl⟩ := lenq4 hl; rfl
  have L6 : MtdL K (Meth K (clsAt mg "Watch") "beside") "beside" "Watch.beside" s_Watch_beside ["self", "literal"] := mtdL_mk ⟨a6, i6, k6⟩ l6 c6 k6 fun _ _ _ _ _ _ us hl => by obtain ⟨u0, u1, rfl⟩ := lenq2 hl; rfl
  have L7 : MtdL K (Meth K (clsAt mg "Watch") "instead_of") "instead_of" "Watch.instead_of" s_Watch_instead_of ["self", "literal", "rooms"] := mtdL_mk ⟨a7, i7, k7⟩ l7 c7 k7 fun _ _ _ _ _ _ us hl => by obtain ⟨u0, u1, u2, rfl⟩ := lenq3 hl; rfl
  have L8 : MtdL K (Meth K (clsAt mg "Watch") "put_instead_of") "put_instead_of" "Watch.put_instead_of" s_Watch_put_instead_of ["self", "literal", "another"] := mtdL_mk ⟨a8, i8, k8⟩ l8 c8 k8 fun _ _ _ _ _ _ us hl => by obtain ⟨u0, u1, u2, rfl⟩ := lenq3 hl; rfl
  have L9 : MtdL K (Mk K (clsAt mg "Units")) "__init__" "Units.__init__" s_Units___init__ ["self", "rooms"] := mtdL_mk ⟨mk_Units, a9, i9, kc_Units⟩ l9 c9 k9 fun _ _ _ _ _ _ us hl => by obtain ⟨u0, u1, rfl⟩ := lenq2 hl; rfl
  have L10 : MtdL K (Meth K (clsAt mg "Units") "set_watch") "set_watch" "Units.set_watch" s_Units_set_watch ["self", "literal", "watch"] := mtdL_mk ⟨a10, i10, k10⟩ l10 c10 k10 fun _ _ _ _ _ _ us hl => by obtain ⟨u0, u1, u2, rfl⟩ := lenq3 hl; rfl
  have L11 : MtdL K (Meth K (clsAt mg "Units") "last_ones") "last_ones" "Units.last_ones" s_Units_last_ones ["self", "literal", "rooms"] := mtdL_mk ⟨a11, i11, k11⟩ l11 c11 k11 fun _ _ _ _ _ _ us hl => by obtain ⟨u0, u1, u2, rfl⟩ := lenq3 hl; rfl
  have L12 : MtdL K (Meth K (clsAt mg "Units") "lives_with") "lives_with" "Units.lives_with" s_Units_lives_with ["self", "literals", "rooms"] := mtdL_mk ⟨a12, i12, k12⟩ l12 c12 k12 fun _ _ _ _ _ _ us hl => by obtain ⟨u0, u1, u2, rfl⟩ := lenq3 hl; rfl
  have L13 : MtdL K (Meth K (clsAt mg "Units") "go_by") "go_by" "Units.go_by" s_Units_go_by ["self", "clause"] := mtdL_mk ⟨a13, i13, k13⟩ l13 c13 k13 fun _ _ _ _ _ _ us hl => by obtain ⟨u0, u1, rfl⟩ := lenq2 hl; rfl
  have L14 : FnL K mg "by_units" s_by_units ["rooms", "clauses"] := fnL_mk X G a14 l14 c14 k14 fun _ _ _ _ _ _ us hl => by obtain ⟨u0, u1, rfl⟩ := lenq2 hl; rfl
  have L15 : FnL K mg "_law_draw" s__law_draw ["_law_deal_here", "_law_many"] := fnL_mk X G a15 l15 c15 k15 fun _ _ _ _ _ _ us hl => by obtain ⟨u0, u1, rfl⟩ := lenq2 hl; rfl
  have L16 : FnL K mg "_law_deal" s__law_deal ["_law_script", "_law_start"] := fnL_mk X G a16 l16 c16 k16 fun _ _ _ _ _ _ us hl => by obtain ⟨u0, u1, rfl⟩ := lenq2 hl; rfl
  have L17 : FnL K mg "_law_clause" s__law_clause ["_law_deal_here", "_law_names_here", "_law_pool_here", "_law_most"] := fnL_mk X G a17 l17 c17 k17 fun _ _ _ _ _ _ us hl => by obtain ⟨u0, u1, u2, u3, rfl⟩ := lenq4 hl; rfl
  have L18 : FnL K mg "_law_clauses" s__law_clauses ["_law_deal_here", "_law_names_here", "_law_pool_here", "_law_rooms_here"] := fnL_mk X G a18 l18 c18 k18 fun _ _ _ _ _ _ us hl => by obtain ⟨u0, u1, u2, u3, rfl⟩ := lenq4 hl; rfl
  have L19 : FnL K mg "_law_names" s__law_names ["_law_deal_here", "_law_many"] := fnL_mk X G a19 l19 c19 k19 fun _ _ _ _ _ _ us hl => by obtain ⟨u0, u1, rfl⟩ := lenq2 hl; rfl
  have L20 : FnL K mg "_law_pool" s__law_pool ["_law_deal_here"] := fnL_mk X G a20 l20 c20 k20 fun _ _ _ _ _ _ us hl => by obtain ⟨u0, rfl⟩ := lenq1 hl; rfl
  have L21 : FnL K mg "_law_rooms" s__law_rooms ["_law_deal_here", "_law_names_here", "_law_pool_here", "_law_most"] := fnL_mk X G a21 l21 c21 k21 fun _ _ _ _ _ _ us hl => by obtain ⟨u0, u1, u2, u3, rfl⟩ := lenq4 hl; rfl
  have L22 : FnL K mg "_law_open" s__law_open ["_law_rooms_here", "_law_clause_here"] := fnL_mk X G a22 l22 c22 k22 fun _ _ _ _ _ _ us hl => by obtain ⟨u0, u1, rfl⟩ := lenq2 hl; rfl
  have L23 : FnL K mg "_law_units" s__law_units ["_law_rooms_here", "_law_clauses_here"] := fnL_mk X G a23 l23 c23 k23 fun _ _ _ _ _ _ us hl => by obtain ⟨u0, u1, rfl⟩ := lenq2 hl; rfl
  have L24 : FnL K mg "_law_names_of_row" s__law_names_of_row ["_law_many"] := fnL_mk X G a24 l24 c24 k24 fun _ _ _ _ _ _ us hl => by obtain ⟨u0, rfl⟩ := lenq1 hl; rfl
  have L25 : FnL K mg "_law_row" s__law_row ["_law_deal_here", "_law_names_here"] := fnL_mk X G a25 l25 c25 k25 fun _ _ _ _ _ _ us hl => by obtain ⟨u0, u1, rfl⟩ := lenq2 hl; rfl
  have L26 : FnL K mg "_law_value_by_value" s__law_value_by_value ["_law_deal_here", "_law_names_here"] := fnL_mk X G a26 l26 c26 k26 fun _ _ _ _ _ _ us hl => by obtain ⟨u0, u1, rfl⟩ := lenq2 hl; rfl
  have L27 : FnL K mg "_law_long" s__law_long ["_law_deal_here"] := fnL_mk X G a27 l27 c27 k27 fun _ _ _ _ _ _ us hl => by obtain ⟨u0, rfl⟩ := lenq1 hl; rfl
  refine ⟨PySem.W.fnOf "law" "law" (defArgs s_law) (defBody s_law) (defScope s_law) .none kV28 dc28 pm28 an28 cd28 ct28, fun s v => .of_eq rfl, fun base _ _ => ?_⟩
  have Froom_against : Fn l.prog w K mg base "room_against" 1 ["literal", "room"] (spAgainst) := ok_room_against T L0 
  have Fis_untrue : Fn l.prog w K mg base "is_untrue" 1 ["literal", "rooms"] (spUnt) := ok_is_untrue T L1 
  have Fopposite_of : Fn l.prog w K mg base "opposite_of" 1 ["literal"] (spOpp) := ok_opposite_of T L2 
  have Fnewly_untrue : Fn l.prog w K mg base "newly_untrue" 1 ["cell", "before", "now"] (spNew) := ok_newly_untrue T L3 
  have Fmake_true : Fn l.prog w K mg base "make_true" 2 ["literal", "rooms"] (spMake) := ok_make_true T L4 Froom_against Fopposite_of Fnewly_untrue
  have FWatch___init__ : FnR l.prog w K mg base (Mk K (clsAt mg "Watch")) 1 ["self", "clause", "one", "other"] (spWNew mg) := ok_Watch___init__ T L5 
  have FWatch_beside : FnR l.prog w K mg base (Meth K (clsAt mg "Watch") "beside") 1 ["self", "literal"] (spBeside mg) := ok_Watch_beside T L6 
  have FWatch_instead_of : FnR l.prog w K mg base (Meth K (clsAt mg "Watch") "instead_of") 2 ["self", "literal", "rooms"] (spInstead mg) := ok_Watch_instead_of T L7 FWatch_beside Fis_untrue
  have FWatch_put_instead_of : FnR l.prog w K mg base (Meth K (clsAt mg "Watch") "put_instead_of") 1 ["self", "literal", "another"] (spPutI mg) := ok_Watch_put_instead_of T L8 
  have FUnits___init__ : FnR l.prog w K mg base (Mk K (clsAt mg "Units")) 1 ["self", "rooms"] (spUNew mg) := ok_Units___init__ T L9 
  have FUnits_set_watch : FnR l.prog w K mg base (Meth K (clsAt mg "Units") "set_watch") 1 ["self", "literal", "watch"] (spSetW mg) := ok_Units_set_watch T L10 
  have FUnits_last_ones : FnR l.prog w K mg base (Meth K (clsAt mg "Units") "last_ones") 3 ["self", "literal", "rooms"] (spLastO mg) := ok_Units_last_ones T L11 FWatch_instead_of FWatch_beside FWatch_put_instead_of FUnits_set_watch
  have FUnits_lives_with : FnR l.prog w K mg base (Meth K (clsAt mg "Units") "lives_with") 4 ["self", "literals", "rooms"] (spLives mg) := ok_Units_lives_with T L12 Fis_untrue Fmake_true FUnits_last_ones
  have FUnits_go_by : FnR l.prog w K mg base (Meth K (clsAt mg "Units") "go_by") 5 ["self", "clause"] (spGo mg) := ok_Units_go_by T L13 Fis_untrue FWatch___init__ FUnits_set_watch FUnits_lives_with
  have Fby_units : Fn l.prog w K mg base "by_units" 6 ["rooms", "clauses"] (spBy mg) := ok_by_units T L14 FUnits___init__ FUnits_go_by
  have F_law_draw : Fn l.prog w K mg base "_law_draw" 1 ["_law_deal_here", "_law_many"] (spDraw) := ok__law_draw T L15 
  have F_law_deal : Fn l.prog w K mg base "_law_deal" 1 ["_law_script", "_law_start"] (spDeal K) := ok__law_deal T L16 
  have F_law_clause : Fn l.prog w K mg base "_law_clause" 2 ["_law_deal_here", "_law_names_here", "_law_pool_here", "_law_most"] (spClause2) := ok__law_clause T L17 F_law_draw
  have F_law_clauses : Fn l.prog w K mg base "_law_clauses" 3 ["_law_deal_here", "_law_names_here", "_law_pool_here", "_law_rooms_here"] (spClauses) := ok__law_clauses T L18 F_law_draw F_law_clause
  have F_law_names : Fn l.prog w K mg base "_law_names" 2 ["_law_deal_here", "_law_many"] (spNames) := ok__law_names T L19 F_law_draw
  have F_law_pool : Fn l.prog w K mg base "_law_pool" 2 ["_law_deal_here"] (spPool5) := ok__law_pool T L20 F_law_draw
  have F_law_rooms : Fn l.prog w K mg base "_law_rooms" 2 ["_law_deal_here", "_law_names_here", "_law_pool_here", "_law_most"] (spRoomsP) := ok__law_rooms T L21 F_law_draw
  have F_law_open : Fn l.prog w K mg base "_law_open" 1 ["_law_rooms_here", "_law_clause_here"] (spOpen) := ok__law_open T L22 
  have F_law_units : Fn l.prog w K mg base "_law_units" 2 ["_law_rooms_here", "_law_clauses_here"] (spUnits) := ok__law_units T L23 F_law_open
  have F_law_names_of_row : Fn l.prog w K mg base "_law_names_of_row" 1 ["_law_many"] (spRowN) := ok__law_names_of_row T L24 
  have F_law_row : Fn l.prog w K mg base "_law_row" 2 ["_law_deal_here", "_law_names_here"] (spRow) := ok__law_row T L25 F_law_draw
  have F_law_value_by_value : Fn l.prog w K mg base "_law_value_by_value" 2 ["_law_deal_here", "_law_names_here"] (spVal) := ok__law_value_by_value T L26 F_law_draw
  have F_law_long : Fn l.prog w K mg base "_law_long" 7 ["_law_deal_here"] (spLong) := ok__law_long T L27 F_law_draw F_law_names_of_row F_law_value_by_value Fby_units
  exact ok_law T (fun_mk l28 c28 k28) F_law_deal F_law_draw F_law_long F_law_names_of_row F_law_row F_law_names F_law_pool F_law_rooms F_law_clauses Fby_units F_law_units
theorem walk {l : PySem.W.OpenLaw} {q : Program} {loose : List Str} {XP : (Str → Option Value) → Heap → Prop} {YP : World → Heap → Prop} {d : DefRec} {K : Params → PySem.W.Frag} (hn : l.most = some 63) (hdf : d.params.defaults = [])
    (hY : ∀ (w : World) (h : Heap), YP w h → (K w.params).In h)
    (F : ∀ (w : World) (mg : Str → Option Value) (fa : Addr) (h : Heap), (K w.params).In h → h.Ns mainGlobals mg → mg d.name = some (.ref fa) →
      ∃ fd : FuncData, (∀ (s : Shared) (u : Value), BindsTo s fd ⟨[u], []⟩ [("_law_script", u)]) ∧ ∀ base : Heap, (K w.params).In base → base.Ns mainGlobals mg → FnOk l.prog w (K w.params) mg base CX0 8 fa fd ["_law_script"] (spLaw (K w.params))) :
    PySem.W.WalkO q loose XP YP l.row.toRowW d [] (fun f vs => PySem.call f vs) :=
  L2.walk_of (n := 63) (k := 8) (x := "_law_script") (CX := fun _ => CX0) (sp := fun w => spLaw (K w.params)) hn (by decide) hdf ⟨rfl, by decide, by decide⟩ hY F (fun _ _ a ns hl _ hS => ⟨a, ns, rfl, hS, hl, fun _ => rfl⟩) fun _ _ _ _ _ z => z
noncomputable def viewQ : Program := { PySem.Challenge.pw_seekhall_k24_units_to_a_standstill with main := { PySem.Challenge.pw_seekhall_k24_units_to_a_standstill.main with body := [0, 2, 4, 5, 6, 7, 8, 9, 10, 12, 13, 14, 15, 16, 17, 18, 19, 20, 21, 22, 23, 24, 25, 26].map top } }
end Lw
open PySem PySem.W PyProof.Rows
local macro_rules | `(tactic| o_head $H) => do
  let hw := Lean.mkIdent `hw
  let hc := Lean.mkIdent `hc
  `(tactic| (refine holds_open (q := Lw.viewQ) (loose := List.nil) (N := 5400) (hY := Hook.of $H) (hYk := Hook.keeps $H)
                (Yf := Hook.obs $H) (Ya := Hook.val $H) (YP := Hook.says $H) (XP := XL Lw.viewQ List.nil)
                (Xt := fun s => xlAt Lw.viewQ List.nil s && recOk (RowW.records PySem.Challenge.rw_seekhall_k24_units_to_a_standstill.row.toRowW) s)
                ?hl (fun s e => xl_of s (Bool.and_eq_true_iff.mp e).1) XL.keeps (by rfl) (by rfl) (by rfl)
                (fun s e => recFacts_of (Bool.and_eq_true_iff.mp e).2) (by rfl) (by assumption) (by decide +kernel)
                ⟨rfl, rfl, rfl, rfl, rfl, by decide +kernel⟩ ?$hw ?$hc
             (case hl => intro w; kernel_rfl)))
set_option maxRecDepth 100000 in
set_option maxHeartbeats 0 in
theorem PySem.Challenge.cw_seekhall_k24_units_to_a_standstill_holds : PySem.Challenge.rw_seekhall_k24_units_to_a_standstill.Holds := by
  w_on; o_law; k_head; (case hw => w_witness2)
  k_fill
  refine Lw.walk (l := PySem.Challenge.rw_seekhall_k24_units_to_a_standstill) rfl rfl (fun w h Y => PySem.W.kIn_of Y) ?F
  case F =>
    intro w mg fa h KX G hmg
    refine' Lw.all_mk KX G hmg ?aC_Watch ?pg_Watch ?hd_Watch ?po_Watch ?sa_Watch ?nf_Watch_clause ?nf_Watch_one ?nf_Watch_other ?mk_Watch ?kc_Watch ?aC_Units ?pg_Units ?hd_Units ?po_Units ?sa_Units ?nf_Units_rooms ?nf_Units_watches ?nf_Units_dead ?mk_Units ?kc_Units ?a0 ?l0 ?c0 ?k0 ?a1 ?l1 ?c1 ?k1 ?a2 ?l2 ?c2 ?k2 ?a3 ?l3 ?c3 ?k3 ?a4 ?l4 ?c4 ?k4 ?a5 ?i5 ?l5 ?c5 ?k5 ?a6 ?i6 ?l6 ?c6 ?k6 ?a7 ?i7 ?l7 ?c7 ?k7 ?a8 ?i8 ?l8 ?c8 ?k8 ?a9 ?i9 ?l9 ?c9 ?k9 ?a10 ?i10 ?l10 ?c10 ?k10 ?a11 ?i11 ?l11 ?c11 ?k11 ?a12 ?i12 ?l12 ?c12 ?k12 ?a13 ?i13 ?l13 ?c13 ?k13 ?a14 ?l14 ?c14 ?k14 ?a15 ?l15 ?c15 ?k15 ?a16 ?l16 ?c16 ?k16 ?a17 ?l17 ?c17 ?k17 ?a18 ?l18 ?c18 ?k18 ?a19 ?l19 ?c19 ?k19 ?a20 ?l20 ?c20 ?k20 ?a21 ?l21 ?c21 ?k21 ?a22 ?l22 ?c22 ?k22 ?a23 ?l23 ?c23 ?k23 ?a24 ?l24 ?c24 ?k24 ?a25 ?l25 ?c25 ?k25 ?a26 ?l26 ?c26 ?k26 ?a27 ?l27 ?c27 ?k27 ?a28 ?l28 ?c28 ?k28 ?z0 ?z1 ?z2 ?z3 ?z4 ?z5 ?z6 ?z7 ?z8 ?z9
    (case aC_Watch => k_is)
    (case pg_Watch => k_is)
    (case hd_Watch => k_is)
    (case po_Watch => k_is)
    (case sa_Watch => k_is)
    (case nf_Watch_clause => k_is)
    (case nf_Watch_one => k_is)
    (case nf_Watch_other => k_is)
    (case mk_Watch => k_is)
    (case kc_Watch => k_is)
    (case aC_Units => k_is)
    (case pg_Units => k_is)
    (case hd_Units => k_is)
    (case po_Units => k_is)
    (case sa_Units => k_is)
    (case nf_Units_rooms => k_is)
    (case nf_Units_watches => k_is)
    (case nf_Units_dead => k_is)
    (case mk_Units => k_is)
    (case kc_Units => k_is)
    (case a0 => k_is)
    (case l0 => k_is)
    (case c0 => k_is)
    (case k0 => k_is)
    (case a1 => k_is)
    (case l1 => k_is)
    (case c1 => k_is)
    (case k1 => k_is)
    (case a2 => k_is)
    (case l2 => k_is)
    (case c2 => k_is)
    (case k2 => k_is)
    (case a3 => k_is)
    (case l3 => k_is)
    (case c3 => k_is)
    (case k3 => k_is)
    (case a4 => k_is)
    (case l4 => k_is)
    (case c4 => k_is)
    (case k4 => k_is)
    (case a5 => k_is)
    (case i5 => k_is)
    (case l5 => k_is)
    (case c5 => k_is)
    (case k5 => k_is)
    (case a6 => k_is)
    (case i6 => k_is)
    (case l6 => k_is)
    (case c6 => k_is)
    (case k6 => k_is)
    (case a7 => k_is)
    (case i7 => k_is)
    (case l7 => k_is)
    (case c7 => k_is)
    (case k7 => k_is)
    (case a8 => k_is)
    (case i8 => k_is)
    (case l8 => k_is)
    (case c8 => k_is)
    (case k8 => k_is)
    (case a9 => k_is)
    (case i9 => k_is)
    (case l9 => k_is)
    (case c9 => k_is)
    (case k9 => k_is)
    (case a10 => k_is)
    (case i10 => k_is)
    (case l10 => k_is)
    (case c10 => k_is)
    (case k10 => k_is)
    (case a11 => k_is)
    (case i11 => k_is)
    (case l11 => k_is)
    (case c11 => k_is)
    (case k11 => k_is)
    (case a12 => k_is)
    (case i12 => k_is)
    (case l12 => k_is)
    (case c12 => k_is)
    (case k12 => k_is)
    (case a13 => k_is)
    (case i13 => k_is)
    (case l13 => k_is)
    (case c13 => k_is)
    (case k13 => k_is)
    (case a14 => k_is)
    (case l14 => k_is)
    (case c14 => k_is)
    (case k14 => k_is)
    (case a15 => k_is)
    (case l15 => k_is)
    (case c15 => k_is)
    (case k15 => k_is)
    (case a16 => k_is)
    (case l16 => k_is)
    (case c16 => k_is)
    (case k16 => k_is)
    (case a17 => k_is)
    (case l17 => k_is)
    (case c17 => k_is)
    (case k17 => k_is)
    (case a18 => k_is)
    (case l18 => k_is)
    (case c18 => k_is)
    (case k18 => k_is)
    (case a19 => k_is)
    (case l19 => k_is)
    (case c19 => k_is)
    (case k19 => k_is)
    (case a20 => k_is)
    (case l20 => k_is)
    (case c20 => k_is)
    (case k20 => k_is)
    (case a21 => k_is)
    (case l21 => k_is)
    (case c21 => k_is)
    (case k21 => k_is)
    (case a22 => k_is)
    (case l22 => k_is)
    (case c22 => k_is)
    (case k22 => k_is)
    (case a23 => k_is)
    (case l23 => k_is)
    (case c23 => k_is)
    (case k23 => k_is)
    (case a24 => k_is)
    (case l24 => k_is)
    (case c24 => k_is)
    (case k24 => k_is)
    (case a25 => k_is)
    (case l25 => k_is)
    (case c25 => k_is)
    (case k25 => k_is)
    (case a26 => k_is)
    (case l26 => k_is)
    (case c26 => k_is)
    (case k26 => k_is)
    (case a27 => k_is)
    (case l27 => k_is)
    (case c27 => k_is)
    (case k27 => k_is)
    (case a28 => k_is)
    (case l28 => k_is)
    (case c28 => k_is)
    (case k28 => k_is)
    (case z0 => k_is)
    (case z1 => k_is)
    (case z2 => k_is)
    (case z3 => k_is)
    (case z4 => k_is)
    (case z5 => k_is)
    (case z6 => k_is)
    (case z7 => k_is)
    (case z8 => k_is)
    (case z9 => k_is)
namespace Lw
end Lw
