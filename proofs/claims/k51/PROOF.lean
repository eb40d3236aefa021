import PyProof.Rows.All
import Wide.All
import OpenK.AllK
import Wide.FinOn
import Lean
import PyProof.EqAt
import PyProof.EqKinds
import PyProof.TupleCall
import PySem.Challenge.RW_seekhall_k51_plain_forms
set_option Elab.async false
set_option linter.all false
set_option maxRecDepth 100000
namespace L2
open PySem PySem.Spec PyProof.Rows
noncomputable abbrev Key := Sum Int Str
noncomputable def keyIs : Key → Value → Bool
  | .inl k, v => Value.isInt k v
  | .inr x, v => Value.isStrOf x v
noncomputable def keyH (w : World) : Key → Int
  | .inl k => hashInt k
  | .inr x => hashStr w x
theorem keyIs_shape : ∀ {k : Key} {v : Value}, keyIs k v = true → (∃ i t, k = Sum.inl i ∧ v = Value.int i t) ∨ (∃ x t, k = Sum.inr x ∧ v = Value.str x t)
  | .inl i, v, h => by
    obtain ⟨t, e⟩ := Value.isInt_shape (k := i) (v := v) h
    exact .inl ⟨i, t, rfl, e⟩
  | .inr x, v, h => by
    obtain ⟨t, e⟩ := Value.isStrOf_shape (x := x) (v := v) h
    exact .inr ⟨x, t, rfl, e⟩
theorem keyIs_int (i : Int) (t : Tok) : keyIs (.inl i) (.int i t) = true := by simp [keyIs, Value.isInt]
theorem keyIs_str (x : Str) (t : Tok) : keyIs (.inr x) (.str x t) = true := by simp [keyIs, Value.isStrOf]
theorem key_ll (a b : Int) : decide ((Sum.inl a : Key) = Sum.inl b) = (a == b) := by
  by_cases e : a = b
  · subst e; simp
  · have h : ¬ (Sum.inl a : Key) = Sum.inl b := fun q => e (Sum.inl.inj q)
    rw [decide_eq_false h]
    exact (beq_eq_false_iff_ne.mpr e).symm
theorem key_rr (a b : Str) : decide ((Sum.inr a : Key) = Sum.inr b) = decide (a = b) := by
  by_cases e : a = b
  · subst e; simp
  · have h : ¬ (Sum.inr a : Key) = Sum.inr b := fun q => e (Sum.inr.inj q)
    rw [decide_eq_false h, decide_eq_false e]
theorem key_lr (a : Int) (b : Str) : decide ((Sum.inl a : Key) = Sum.inr b) = false := decide_eq_false (fun q => nomatch q)
theorem key_rl (a : Str) (b : Int) : decide ((Sum.inr a : Key) = Sum.inl b) = false := decide_eq_false (fun q => nomatch q)
noncomputable def mixKind (prog : Program) (w : World) : PySem.KeyKind prog w Key where
  is := keyIs
  hash := keyH w
  inj := fun v a b ha hb => by
    rcases keyIs_shape ha with ⟨i, t, rfl, rfl⟩ | ⟨x, t, rfl, rfl⟩
    · rcases keyIs_shape hb with ⟨j, u, rfl, e⟩ | ⟨y, u, rfl, e⟩
      · injection e with e1 _; rw [e1]
      · exact nomatch e
    · rcases keyIs_shape hb with ⟨j, u, rfl, e⟩ | ⟨y, u, rfl, e⟩
      · exact nomatch e
      · injection e with e1 _; rw [e1]
  byValue := fun k v h => by
    rcases keyIs_shape h with ⟨i, t, rfl, rfl⟩ | ⟨x, t, rfl, rfl⟩ <;> rfl
  pyHash := fun hv h => by
    rcases keyIs_shape hv with ⟨i, t, rfl, rfl⟩ | ⟨x, t, rfl, rfl⟩
    · exact wpAny_pyHash_int h
    · exact wpAny_pyHash_str h
  eqBool := fun hu hv h => by
    rcases keyIs_shape hu with ⟨i, t, rfl, rfl⟩ | ⟨x, t, rfl, rfl⟩
    · rcases keyIs_shape hv with ⟨j, u, rfl, rfl⟩ | ⟨y, u, rfl, rfl⟩
      · rw [key_ll] at h; exact wpAny_eqBool_int h
      · rw [key_lr] at h; exact SeqAt.EqAt.int_str i t y u _ _ _ _ h
    · rcases keyIs_shape hv with ⟨j, u, rfl, rfl⟩ | ⟨y, u, rfl, rfl⟩
      · rw [key_rl] at h; exact SeqAt.EqAt.str_int x t j u _ _ _ _ h
      · rw [key_rr] at h; exact wpAny_eqBool_str h
  «strs» := fun k x t v h => by
    rcases keyIs_shape h with ⟨i, u, rfl, e⟩ | ⟨y, u, rfl, e⟩
    · exact nomatch e
    · injection e with e1 _
      subst e1
      cases v <;> rfl
theorem mixKind_int (prog : Program) (w : World) (i : Int) (t : Tok) : (mixKind prog w).is (.inl i) (.int i t) = true := keyIs_int i t
theorem mixKind_str (prog : Program) (w : World) (x : Str) (t : Tok) : (mixKind prog w).is (.inr x) (.str x t) = true := keyIs_str x t
end L2
namespace L2
open PySem PySem.Spec PyProof.Rows
inductive V where
  | non | bl (b : Bool) | int (i : Int) | str (x : Str) | byt (b : Array UInt8) | flt (b : UInt64) | ref (a : Addr) | ty (n : String)
  deriving DecidableEq
noncomputable def RelV : V → Value → Prop
  | .non, u => u = Value.none
  | .bl b, u => u = Value.bool b
  | .int i, u => ∃ t, u = Value.int i t
  | .str x, u => ∃ t, u = Value.str x t
  | .byt b, u => ∃ t, u = Value.bytes b t
  | .flt b, u => ∃ t, u = Value.float b t
  | .ref a, u => u = Value.ref a
  | .ty n, u => u = Value.type n
noncomputable abbrev Vals : List V → List Value → Prop := Paired RelV
theorem Vals.length {xs : List V} {us : List Value} (r : Vals xs us) : xs.length = us.length := Paired.length r
theorem Vals.get : ∀ {xs : List V} {us : List Value} {i : Nat} {x : V}, Vals xs us → xs[i]? = some x → ∃ u, us[i]? = some u ∧ RelV x u
  | _, _, _, _, .nil, e => by simp at e
  | _, _, 0, _, .cons r _, e => by simp at e; subst e; exact ⟨_, rfl, r⟩
  | _, _, i + 1, x, .cons _ t, e => by
    obtain ⟨u, h1, h2⟩ := Vals.get (i := i) (x := x) t (by simpa using e)
    exact ⟨u, by simpa using h1, h2⟩
theorem Vals.set {x : V} {u : Value} (r : RelV x u) : ∀ {xs : List V} {us : List Value} (i : Nat), Vals xs us → Vals (xs.set i x) (us.set i u)
  | _, _, _, .nil => .nil
  | _, _, 0, .cons _ t => .cons r t
  | _, _, i + 1, .cons q t => .cons q (Vals.set r i t)
theorem Vals.append : ∀ {xs ys : List V} {us ws : List Value}, Vals xs us → Vals ys ws → Vals (xs ++ ys) (us ++ ws)
  | _, _, _, _, .nil, s => s
  | _, _, _, _, .cons r t, s => .cons r (Vals.append t s)
theorem Vals.take : ∀ {xs : List V} {us : List Value} (n : Nat), Vals xs us → Vals (xs.take n) (us.take n)
  | _, _, 0, _ => .nil
  | _, _, _ + 1, .nil => .nil
  | _, _, n + 1, .cons r t => .cons r (Vals.take n t)
theorem Vals.drop : ∀ {xs : List V} {us : List Value} (n : Nat), Vals xs us → Vals (xs.drop n) (us.drop n)
  | _, _, 0, r => r
  | _, _, _ + 1, .nil => .nil
  | _, _, n + 1, .cons _ t => Vals.drop n t
noncomputable def RelO : Option V → Option Value → Prop
  | some v, some u => RelV v u
  | none, none => True
  | _, _ => False
noncomputable def KV {κ : Type} : List (κ × V) → List (κ × Value) → Prop := Paired fun (p : κ × V) (q : κ × Value) => p.1 = q.1 ∧ RelV p.2 q.2
noncomputable def kV : Key → V
  | .inl i => .int i
  | .inr x => .str x
inductive HO where
  /-- a list -/
  | lst (xs : List V)
  /-- a tuple (never changes) -/
  | tup (xs : List V)
  /-- a dict whose keys are ints and texts; one whose keys are tuples of ints and texts (the empty one is both) -/
  | dK (kvs : List (Key × V)) | dT (kvs : List (List Key × V))
  /-- a set of ints: its members, its size -/
  | set (S : Int → Bool) (n : Nat)
  /-- an instance of the class at C, its dict at dx, its attributes -/
  | ins (C dx : Addr) (fs : List (Str × V))
  /-- the dict of the instance at x -/
  | own (x : Addr)
  /-- the dict of an exception -/
  | xd (fs : List (Str × V))
  /-- a bound method, f of x -/
  | met (f x : Addr)
  /-- a range object lo, lo + 1, .. below hi -/
  | rng (lo hi : Int)
  /-- a thing that is known to the object (the script; a dict while a loop walks it): read, never written while it is so -/
  | frz (o : Obj) (u : HO)
  /-- a code object's table -/
  | tbl (ps : Array Value)
  /-- a def's table of codes made in its body, all of the qualified name q; the codes are its own -/
  | tab (q : Str)
  /-- any other thing, by what is true of its one object (a def of one's own: SetO a S n := HO.ext fun h => ..) -/
  | ext (φ : Heap → Prop)
noncomputable abbrev Hp := Addr → Option HO
noncomputable def upd (H : Hp) (a : Addr) (o : HO) : Hp := fun b => if b = a then some o else H b
theorem upd_same {H : Hp} {a : Addr} {o : HO} : upd H a o a = some o := by unfold upd; rw [if_pos rfl]
theorem upd_ne {H : Hp} {a b : Addr} {o : HO} (h : b ≠ a) : upd H a o b = H b := by unfold upd; rw [if_neg h]
theorem ne_of {H : Hp} {a b : Addr} {o u : HO} (h : H a = some o) (h' : H b = some u) (d : o ≠ u) : a ≠ b := by
  intro e; subst e; rw [h] at h'; exact d (Option.some.inj h')
theorem ne_of_none {H : Hp} {a b : Addr} {o : HO} (h : H a = some o) (h' : H b = none) : a ≠ b := by
  intro e; subst e; rw [h] at h'; cases h'
section
variable (P : Program) (w : World)
noncomputable def ObjOk (H : Hp) (h : Heap) (a : Addr) : HO → Prop
  | .lst xs => xs.length ≤ sizeLine ∧ ∃ (its : List Value) (n : Nat), Vals xs its ∧ h.get? a = some { cls := .type "list", data := .seq its.toArray n }
  | .tup xs => xs.length ≤ sizeLine ∧ ∃ its : List Value, Vals xs its ∧ IsTup h a its.toArray
  | .dK kvs => kvs.length ≤ sizeLine ∧ (a == sysModules) = false ∧ ∃ vs, KV kvs vs ∧ h.DictOf (mixKind P w) a vs
  | .dT kvs => kvs.length ≤ sizeLine ∧ (a == sysModules) = false ∧ ∃ xs : List (List Key × Addr × Value),
      Paired (fun (p : List Key × V) (q : List Key × Addr × Value) => p.1 = q.1 ∧ H q.2.1 = some (.tup (p.1.map kV)) ∧ RelV p.2 q.2.2) kvs xs ∧
      ∃ o es ep, h.get? a = some o ∧ o.ExactDict ∧ o.data = .dict es ep ∧ es.toList = xs.map (entryOfKey (tupleKind (mixKind P w))) ∧ (xs.map (·.1)).Nodup
  | .set S n => h.SetOf (intKind P w) a S n
  | .ins C dx fs => H dx = some (.own a) ∧ fs.length ≤ 1000 ∧ dx ≠ a ∧ h.get? a = some (PySem.W.instObj C dx) ∧
      ∃ mA, h.Ns1 dx mA ∧ (∀ f, RelO (fs.lookup f) (mA f)) ∧ PySem.Within mA (fs.map (·.1))
  | .own _ => ∃ o, h.get? a = some o
  | .xd fs => ∃ mA, h.Ns1 a mA ∧ ∀ f, RelO (fs.lookup f) (mA f)
  | .rng lo hi => ∃ t u v, h.get? a = some { cls := .type "range", data := .fields #[.int lo t, .int hi u, .int 1 v] }
  | .frz o u => h.get? a = some o ∧ ObjOk H h a u
  | .tbl ps => h.get? a = some { cls := .none, data := .fields ps }
  | .tab q => ∃ ps : Array Value, h.get? a = some { cls := .none, data := .fields ps } ∧ TriplesOk ps.toList ∧ ∀ pos cv, codeAmong pos ps.toList = some cv → ∃ c, cv = Value.ref c ∧ c ≠ a ∧ H c = some (.own a) ∧ h.CodeRec cv q
  | .met f x => h.get? a = some (PySem.W.methodObj (.ref f) (.ref x))
  | .ext φ => φ h ∧ (∃ o, h.get? a = some o) ∧ ∀ h1 h2 : Heap, φ h1 → (∀ o, h1.get? a = some o → h2.get? a = some o) → φ h2
noncomputable def HOk (H : Hp) (h : Heap) : Prop := ∀ a o, H a = some o → ObjOk P w H h a o
end
section
variable {P : Program} {w : World} {H H' : Hp} {h h' : Heap} {a : Addr} {o : HO}
theorem ObjOk.lt (x : ObjOk P w H h a o) : a < h.objs.size := by
  cases o with
  | lst xs => obtain ⟨_, _, _, _, e⟩ := x; exact Heap.lt_size e
  | tup xs => obtain ⟨_, _, _, p⟩ := x; exact p.lt
  | dK kvs => obtain ⟨_, _, _, _, o, _, _, e, _⟩ := x; exact Heap.lt_size e
  | dT kvs => obtain ⟨_, _, _, _, o, _, _, e, _⟩ := x; exact Heap.lt_size e
  | set S n => obtain ⟨o, _, _, _, e, _⟩ := x; exact Heap.lt_size e
  | ins C dx fs => obtain ⟨_, _, _, e, _⟩ := x; exact Heap.lt_size e
  | own y => obtain ⟨_, e⟩ := x; exact Heap.lt_size e
  | xd fs => obtain ⟨_, ⟨_, _, _, e, _⟩, _⟩ := x; exact Heap.lt_size e
  | rng lo hi => obtain ⟨_, _, _, e⟩ := x; exact Heap.lt_size e
  | frz ob u => obtain ⟨e, _⟩ := x; exact Heap.lt_size e
  | tbl ps => exact Heap.lt_size (show h.get? a = some _ from x)
  | tab q => obtain ⟨_, e, _⟩ := x; exact Heap.lt_size e
  | met f y => exact Heap.lt_size (show h.get? a = some _ from x)
  | ext φ => obtain ⟨_, ⟨_, e⟩, _⟩ := x; exact Heap.lt_size e
theorem Paired.mapP {α β : Type} {F G : α → β → Prop} : ∀ {l₁ : List α} {l₂ : List β}, Paired F l₁ l₂ → (∀ a b, F a b → G a b) → Paired G l₁ l₂
  | _, _, .nil, _ => .nil
  | _, _, .cons r t, f => .cons (f _ _ r) (Paired.mapP t f)
theorem ObjOk.stay (x : ObjOk P w H h a o) (k : ∀ b u, (b = a ∨ H b = some (.own a)) → h.get? b = some u → h'.get? b = some u)
    (ho : ∀ b, H b = some (.own a) → H' b = some (.own a)) (ht : ∀ b xs, H b = some (.tup xs) → H' b = some (.tup xs)) : ObjOk P w H' h' a o := by
  induction o with
  | lst xs => obtain ⟨z, its, n, r, e⟩ := x; exact ⟨z, its, n, r, k _ _ (.inl rfl) e⟩
  | tup xs => obtain ⟨z, its, r, ob, e, c⟩ := x; exact ⟨z, its, r, ob, k _ _ (.inl rfl) e, c⟩
  | dK kvs => obtain ⟨z, y, vs, r, ob, es, ep, e, c⟩ := x; exact ⟨z, y, vs, r, ob, es, ep, k _ _ (.inl rfl) e, c⟩
  | dT kvs =>
    obtain ⟨z, y, xs, r, ob, es, ep, e, c⟩ := x
    exact ⟨z, y, xs, Paired.mapP r fun p q z => ⟨z.1, ht _ _ z.2.1, z.2.2⟩, ob, es, ep, k _ _ (.inl rfl) e, c⟩
  | set S n => obtain ⟨ob, es, ep, t, e, c⟩ := x; exact ⟨ob, es, ep, t, k _ _ (.inl rfl) e, c⟩
  | ins C dx fs =>
    obtain ⟨d, z, ne, e, mA, ⟨od, es, ep, e2, c⟩, r⟩ := x
    exact ⟨ho _ d, z, ne, k _ _ (.inl rfl) e, mA, ⟨od, es, ep, k _ _ (.inr d) e2, c⟩, r⟩
  | own y => obtain ⟨ob, e⟩ := x; exact ⟨ob, k _ _ (.inl rfl) e⟩
  | xd fs => obtain ⟨mA, ⟨od, es, ep, e, c⟩, r⟩ := x; exact ⟨mA, ⟨od, es, ep, k _ _ (.inl rfl) e, c⟩, r⟩
  | rng lo hi => obtain ⟨t, u, v, e⟩ := x; exact ⟨t, u, v, k _ _ (.inl rfl) e⟩
  | frz ob u ih => obtain ⟨e, q⟩ := x; exact ⟨k _ _ (.inl rfl) e, ih q⟩
  | tbl ps =>
    have e : h.get? a = some { cls := .none, data := .fields ps } := x
    show h'.get? a = some { cls := .none, data := .fields ps }
    exact k a _ (.inl rfl) e
  | tab q =>
    obtain ⟨ps, e, t, hc⟩ := x
    refine ⟨ps, k _ _ (.inl rfl) e, t, fun pos cv z => ?_⟩
    obtain ⟨c, ec, ne, hw, c', o, vs, tk, e1, e2, e3⟩ := hc pos cv z
    subst ec
    cases e1
    exact ⟨c, rfl, ne, ho _ hw, c, o, vs, tk, rfl, k _ _ (.inr hw) e2, e3⟩
  | met f y =>
    have e : h.get? a = some (PySem.W.methodObj (.ref f) (.ref y)) := x
    show h'.get? a = some (PySem.W.methodObj (.ref f) (.ref y))
    exact k a _ (.inl rfl) e
  | ext φ => obtain ⟨p, ⟨o, e⟩, st⟩ := x; exact ⟨st _ _ p fun o q => k _ _ (.inl rfl) q, ⟨o, k _ _ (.inl rfl) e⟩, st⟩
theorem HOk.lt (x : HOk P w H h) (e : H a = some o) : a < h.objs.size := (x a o e).lt
theorem HOk.fresh (x : HOk P w H h) (e : h.objs.size ≤ a) : H a = none := by
  cases q : H a with
  | none => rfl
  | some u => exact absurd (Nat.lt_of_lt_of_le (x.lt q) e) (Nat.lt_irrefl _)
theorem HOk.kept (x : HOk P w H h) (k : ∀ b u, h.get? b = some u → h'.get? b = some u) : HOk P w H h' := fun a o e =>
  (x a o e).stay (fun b u _ q => k b u q) (fun _ q => q) fun _ _ q => q
theorem HOk.laid (x : HOk P w H h) (k : ∀ b u, h.get? b = some u → h'.get? b = some u) (hp : h.objs.size ≤ a) (new : ObjOk P w (upd H a o) h' a o) : HOk P w (upd H a o) h' := fun b u e => by
  have hn := x.fresh hp
  by_cases hb : b = a
  · subst hb; rw [upd_same] at e; cases e; exact new
  · rw [upd_ne hb] at e
    exact (x b u e).stay (fun c v _ q => k c v q) (fun c q => by rw [upd_ne (ne_of_none q hn)]; exact q) fun c xs q => by rw [upd_ne (ne_of_none q hn)]; exact q
end
noncomputable def Rd (H : Hp) (a : Addr) (u : HO) : Prop := H a = some u ∨ ∃ o, H a = some (.frz o u)
theorem Rd.of {H : Hp} {a : Addr} {u : HO} (h : H a = some u) : Rd H a u := .inl h
theorem Rd.ok {P : Program} {w : World} {H : Hp} {h : Heap} {a : Addr} {u : HO} (r : Rd H a u) (x : HOk P w H h) : ObjOk P w H h a u := by
  rcases r with r | ⟨o, r⟩
  · exact x a u r
  · obtain ⟨_, q⟩ := x a _ r
    exact q
noncomputable def Mut : Option HO → Prop
  | some (.lst _) => True
  | some (.dK _) => True
  | some (.dT _) => True
  | some (.set _ _) => True
  | some (.ins _ _ _) => True
  | some (.ext _) => True
  | some (.tab _) => True
  | _ => False
section
variable {P : Program} {w : World} {H : Hp} {h h' : Heap} {x e : Addr} {o' : HO}
theorem HOk.write (ok : HOk P w H h) (mu : Mut (H x)) (he : e = x ∨ H e = some (.own x)) (k : ∀ b u, b ≠ e → h.get? b = some u → h'.get? b = some u) (heo : ∃ u, h'.get? e = some u)
    (new : ObjOk P w (upd H x o') h' x o') : HOk P w (upd H x o') h' := fun b u q => by
  have nown : ∀ c y, H c = some (.own y) → c ≠ x := fun c y r z => by subst z; rw [r] at mu; exact mu
  have ntup : ∀ c xs, H c = some (.tup xs) → c ≠ x := fun c xs r z => by subst z; rw [r] at mu; exact mu
  by_cases hb : b = x
  · subst hb; rw [upd_same] at q; cases q; exact new
  · rw [upd_ne hb] at q
    by_cases hbe : b = e
    · have q' : H b = some (.own x) := by
        rcases he with z | z
        · exact absurd (hbe.trans z) hb
        · rw [hbe]; exact z
      rw [q] at q'; cases q'
      obtain ⟨v, hv⟩ := heo
      exact ⟨v, by rw [hbe]; exact hv⟩
    · refine (ok b u q).stay (fun c v hc r => k c v ?_ r) (fun c r => by rw [upd_ne (nown c b r)]; exact r) fun c xs r => by rw [upd_ne (ntup c xs r)]; exact r
      rcases hc with rfl | hc
      · exact hbe
      · rintro rfl
        rcases he with z | z
        · exact nown c b hc z
        · rw [hc] at z; cases z; exact hb rfl
end
structure Un (fs ex : List Addr) (H H' : Hp) (h h' : Heap) : Prop where
  keep : ∀ b o, h.get? b = some o → H b = none → b ∉ fs → b ∉ ex → h'.get? b = some o
  slot : ∀ b o, h.get? b = some o → H b = none → b ∈ fs → b ∉ ex → ∃ sl, h'.get? b = some { o with slots := sl }
  free : ∀ b o, h.get? b = some o → H b = none → b ∉ ex → H' b = none
  there : ∀ b o, h.get? b = some o → b ∉ ex → ∃ o', h'.get? b = some o'
  tups : ∀ b xs, H b = some (.tup xs) → H' b = some (.tup xs)
  frzs : ∀ b o u, H b = some (.frz o u) → H' b = some (.frz o u)
  tbls : ∀ b ps, H b = some (.tbl ps) → ∃ more, H' b = some (.tbl (ps ++ more))
section
variable {fs fs' ex ex' : List Addr} {H H1 H2 : Hp} {h h1 h2 h' : Heap} {a x e : Addr} {o : HO}
theorem Un.any (u : Un fs ex H H1 h h1) {b : Addr} {ob : Obj} (q : h.get? b = some ob) (n : H b = none) (hx : b ∉ ex) : ∃ sl, h1.get? b = some { ob with slots := sl } := by
  by_cases hb : b ∈ fs
  · exact u.slot b ob q n hb hx
  · exact ⟨ob.slots, u.keep b ob q n hb hx⟩
theorem Un.trans (a : Un fs ex H H1 h h1) (b : Un fs ex H1 H2 h1 h2) : Un fs ex H H2 h h2 where
  keep := fun c ob q n hc hx => b.keep c ob (a.keep c ob q n hc hx) (a.free c ob q n hx) hc hx
  slot := fun c ob q n hc hx => by
    obtain ⟨sl, e1⟩ := a.slot c ob q n hc hx
    obtain ⟨sl', e2⟩ := b.slot c _ e1 (a.free c ob q n hx) hc hx
    exact ⟨sl', e2⟩
  free := fun c ob q n hx => by
    obtain ⟨o', e1⟩ := a.there c ob q hx
    exact b.free c o' e1 (a.free c ob q n hx) hx
  there := fun c ob q hx => by
    obtain ⟨o', e1⟩ := a.there c ob q hx
    exact b.there c o' e1 hx
  tups := fun c xs q => b.tups c xs (a.tups c xs q)
  frzs := fun c ob xs q => b.frzs c ob xs (a.frzs c ob xs q)
  tbls := fun c ps q => by
    obtain ⟨m1, e1⟩ := a.tbls c ps q
    obtain ⟨m2, e2⟩ := b.tbls c _ e1
    exact ⟨m1 ++ m2, by rw [e2, Array.append_assoc]⟩
theorem Un.kept (k : ∀ b u, h.get? b = some u → h'.get? b = some u) : Un fs ex H H h h' :=
  ⟨fun b ob q _ _ _ => k b ob q, fun b ob q _ _ _ => ⟨ob.slots, k b ob q⟩, fun _ _ _ n _ => n, fun b ob q _ => ⟨ob, k b ob q⟩, fun _ _ q => q, fun _ _ _ q => q, fun _ ps q => ⟨#[], by rw [q]; simp⟩⟩
theorem Un.refl : Un fs ex H H h h := Un.kept fun _ _ q => q
theorem Un.laid (k : ∀ b u, h.get? b = some u → h'.get? b = some u) (hp : h.objs.size ≤ a) (hn : H a = none) : Un fs ex H (upd H a o) h h' where
  keep := fun b u q _ _ _ => k b u q
  slot := fun b u q _ _ _ => ⟨u.slots, k b u q⟩
  free := fun b u q n _ => by rw [upd_ne (Nat.ne_of_lt (Nat.lt_of_lt_of_le (Heap.lt_size q) hp))]; exact n
  there := fun b u q _ => ⟨u, k b u q⟩
  tups := fun b xs q => by rw [upd_ne (ne_of_none q hn)]; exact q
  frzs := fun b u xs q => by rw [upd_ne (ne_of_none q hn)]; exact q
  tbls := fun b ps q => ⟨#[], by rw [upd_ne (ne_of_none q hn), q]; simp⟩
theorem Un.write (mu : Mut (H x)) (he : e = x ∨ H e = some (.own x)) (k : ∀ b u, b ≠ e → h.get? b = some u → h'.get? b = some u) (heo : ∃ u, h'.get? e = some u) : Un fs ex H (upd H x o) h h' := by
  have hx : ∀ b, H b = none → b ≠ x := fun b n z => by subst z; rw [n] at mu; exact mu
  have hb : ∀ b, H b = none → b ≠ e := fun b n z => by
    subst z
    rcases he with r | r
    · exact hx b n r
    · rw [n] at r; cases r
  have hm : ∀ b u, H b = some u → ¬ Mut (some u) → b ≠ x := fun b u q nm z => by subst z; rw [q] at mu; exact nm mu
  refine ⟨fun b u q n _ _ => k b u (hb b n) q, fun b u q n _ _ => ⟨u.slots, k b u (hb b n) q⟩, fun b u q n _ => by rw [upd_ne (hx b n)]; exact n, fun b u q _ => ?_,
    fun b xs q => by rw [upd_ne (hm b _ q fun z => z)]; exact q, fun b u xs q => by rw [upd_ne (hm b _ q fun z => z)]; exact q, fun b ps q => ⟨#[], by rw [upd_ne (hm b _ q fun z => z), q]; simp⟩⟩
  by_cases hbe : b = e
  · subst hbe; exact heo
  · exact ⟨u, k b u hbe q⟩
theorem Un.mono (u : Un fs ex H H1 h h1) (hs : ∀ b ∈ fs, b ∈ fs') (hx : ∀ b ∈ ex, b ∈ ex') : Un fs' ex' H H1 h h1 :=
  ⟨fun b ob q n hb he => u.keep b ob q n (fun z => hb (hs b z)) fun z => he (hx b z), fun _ _ q n _ he => u.any q n fun z => he (hx _ z), fun b ob q n he => u.free b ob q n fun z => he (hx b z), fun b ob q he => u.there b ob q fun z => he (hx b z), u.tups, u.frzs, u.tbls⟩
end
noncomputable def trk (h : Heap) (H : Hp) : List Addr := (List.range h.objs.size).filter fun a => (H a).isSome
noncomputable def hidT (h : Heap) (H : Hp) : Heap := PySem.W.hideAll h (trk h H)
theorem hidT_size (h : Heap) (H : Hp) : (hidT h H).objs.size = h.objs.size := PySem.W.hideAll_size _ _
theorem hidT_get {h : Heap} {H : Hp} {b : Addr} {o : Obj} (e : h.get? b = some o) (n : H b = none) : (hidT h H).get? b = some o :=
  PySem.W.hideAll_get _ e fun hm => by
    have q : (H b).isSome = true := (List.mem_filter.mp hm).2
    rw [n] at q; simp at q
theorem of_hidT {h : Heap} {H : Hp} {b : Addr} {o : Obj} (e : (hidT h H).get? b = some o) : h.get? b = some o ∧ H b = none := by
  have e' : h.get? b = some o := PySem.W.of_hideAll (trk h H) e
  refine ⟨e', ?_⟩
  cases q : H b with
  | none => rfl
  | some x =>
    have hm : b ∈ trk h H := List.mem_filter.mpr ⟨List.mem_range.mpr (Heap.lt_size e'), by simp [q]⟩
    have z : (hidT h H).get? b = none := PySem.W.hideAll_none (trk h H) hm
    rw [z] at e; cases e
end L2
namespace L2
open PySem PySem.Spec PyProof.Rows
structure Mod (K : PySem.W.Frag) (mg : Str → Option Value) (base : Heap) : Prop where
  kin : K.In base
  glob : base.Ns mainGlobals mg
  blt : ∃ mb, base.Ns builtinsNs mb ∧ ∀ x : Str, x ≠ "__name__" → mb x = bootBuiltins x
  nolimit : base.NoLimit
structure Cx where
  prog : Program
  w : World
  K : PySem.W.Frag
  mg : Str → Option Value
  base : Heap
  A : Around
  N : List Str
  s₀ : Shared
  H₀ : Hp
  env : Env
  outer : List Env
  stack : List Env
  ex : List Addr
  fn : Str → Bool
  calm : Bool
  pn : List (Addr × Obj)
  xe : Value → Shared → Prop
noncomputable def frs (l : List Env) : List Addr := l.filterMap (·.frame)
noncomputable abbrev Cx.fs (X : Cx) : List Addr := frs X.outer
noncomputable def Vis (sc : Scope) (x : Str) : Prop := sc.names.lookup x = some .local ∨ sc.names.lookup x = some .cell ∨ sc.names.lookup x = some .free
noncomputable def Loc (sc : Scope) (x : Str) : Prop := sc.names.lookup x = some .local ∨ sc.names.lookup x = some .cell
noncomputable def Look (env : Env) (h : Heap) (m : Str → Option Value) (x : Str) (u : Value) : Prop :=
  (env.kindOf x = some .local ∧ m x = some u) ∨ ((env.kindOf x = some .cell ∨ env.kindOf x = some .free) ∧ ∃ c, env.cells.lookup x = some c ∧ h.IsCell c (some u))
structure Cx.Ok (X : Cx) : Prop where
  mod : Mod X.K X.mg X.base
  kind : X.env.scope.kind = .function
  glob : X.env.globals = mainGlobals
  blt : X.env.builtins = builtinsNs
  above : X.s₀.heap.objs.size ≤ X.env.locals
  inj : ∀ x y c, X.env.cells.lookup x = some c → X.env.cells.lookup y = some c → x = y
  has : ∀ x, (X.env.kindOf x = some .cell ∨ X.env.kindOf x = some .free) → ∃ c, X.env.cells.lookup x = some c
  cab : ∀ x c, X.fn x = true → X.env.cells.lookup x = some c → X.s₀.heap.objs.size ≤ c
  hd : X.calm = true → X.A.handled = none
  frames : X.A.frames = some X.stack
  stk : X.stack = X.outer ∨ (X.stack = X.env :: X.outer ∧ X.env.frame = some X.env.locals)
  exf : ∀ b ∈ X.ex, b ≠ X.env.locals ∧ ∀ x c, X.env.cells.lookup x = some c → c ≠ b
  bs : ∀ b o, X.base.get? b = some o → X.s₀.heap.get? b = some o ∧ X.H₀ b = none
  bsz : X.base.objs.size ≤ X.s₀.heap.objs.size
  noex : ∀ b o, X.base.get? b = some o → b ∉ X.ex
  exfs : ∀ b ∈ X.ex, b ∉ X.fs
  funs : X.s₀.heap.FunFrames X.base X.outer
  frf : ∀ b ∈ X.fs, X.H₀ b = none
structure Inv (X : Cx) (pins : List (Addr × Obj)) (σ : List (Option V)) (H : Hp) (s : Shared) : Prop where
  ok : X.Ok
  os : s.os = X.s₀.os
  bare : AllBare s.gens
  base : Un X.fs X.ex X.H₀ H X.s₀.heap s.heap
  loc : ∃ m, s.heap.Ns X.env.locals m ∧ ∀ (i : Nat) (x : Str) (v : V), X.N[i]? = some x → σ[i]? = some (some v) → Vis X.env.scope x → ∃ u, RelV v u ∧ Look X.env s.heap m x u
  cell : ∀ x c, X.env.cells.lookup x = some c → ∃ v, s.heap.IsCell c v
  free : H X.env.locals = none
  freeC : ∀ x c, X.env.cells.lookup x = some c → H c = none
  pin : ∀ p ∈ X.pn ++ pins, s.heap.get? p.1 = some p.2 ∧ H p.1 = none ∧ p.1 ≠ X.env.locals ∧ p.1 ∉ X.fs ∧ ∀ v, p.2.data ≠ .cell v
  hok : HOk X.prog X.w H s.heap
  len : σ.length = X.N.length
section
variable {X : Cx} {pins : List (Addr × Obj)} {σ : List (Option V)} {H H' : Hp} {s : Shared} {h' : Heap}
theorem Cx.Ok.nofr (ok : X.Ok) {b : Addr} {o : Obj} (e : X.base.get? b = some o) : b ∉ X.fs := fun hb => by
  have := (ok.funs.mem hb).1
  rw [e] at this; cases this
theorem Inv.bs (I : Inv X pins σ H s) : ∀ b o, X.base.get? b = some o → s.heap.get? b = some o ∧ H b = none := fun b o e =>
  ⟨I.base.keep b o (I.ok.bs b o e).1 (I.ok.bs b o e).2 (I.ok.nofr e) (I.ok.noex b o e), I.base.free b o (I.ok.bs b o e).1 (I.ok.bs b o e).2 (I.ok.noex b o e)⟩
theorem Inv.bk (I : Inv X pins σ H s) : ∀ b o, X.base.get? b = some o → s.heap.get? b = some o := fun b o e => (I.bs b o e).1
theorem Inv.mod (I : Inv X pins σ H s) : Mod X.K X.mg X.base := I.ok.mod
theorem Inv.kIn (I : Inv X pins σ H s) : X.K.In s.heap := I.ok.mod.kin.keeps I.bk
theorem Inv.nolimit (I : Inv X pins σ H s) : s.heap.NoLimit := I.ok.mod.nolimit.keeps I.bk
theorem Inv.lt (I : Inv X pins σ H s) : X.env.locals < s.heap.objs.size := let ⟨_, hn, _⟩ := I.loc; hn.lt
theorem Inv.sz (I : Inv X pins σ H s) : X.s₀.heap.objs.size ≤ s.heap.objs.size := Nat.le_trans I.ok.above (Nat.le_of_lt I.lt)
theorem Inv.nofs (I : Inv X pins σ H s) {a : Addr} (h : s.heap.objs.size ≤ a) : a ∉ X.fs := fun hb => by
  obtain ⟨_, o, ho, _⟩ := I.ok.funs.mem hb
  exact absurd (Nat.lt_of_lt_of_le (Heap.lt_size ho) (Nat.le_trans I.sz h)) (Nat.lt_irrefl _)
theorem Inv.cne (I : Inv X pins σ H s) : ∀ x c, X.env.cells.lookup x = some c → c ≠ X.env.locals := fun x c e z => by
  obtain ⟨v, o, ho, hd⟩ := I.cell x c e
  obtain ⟨m, ⟨o', es, ep, ho', hd', _⟩, _⟩ := I.loc
  rw [z, ho'] at ho; cases ho; rw [hd'] at hd; cases hd
theorem Inv.funs (I : Inv X pins σ H s) : s.heap.FunFrames X.base X.outer := by
  have all : ∀ (l : List Env), (∀ b ∈ frs l, b ∈ X.fs) → X.s₀.heap.FunFrames X.base l → s.heap.FunFrames X.base l := by
    intro l
    induction l with
    | nil => intro _ _; trivial
    | cons env r ih =>
      intro hs hl
      obtain ⟨hk, ⟨L, o, hf, hn, ho, hd⟩, hr⟩ := hl
      have hL : L ∈ X.fs := hs L (by unfold frs; rw [List.filterMap_cons, hf]; exact List.mem_cons_self)
      obtain ⟨sl, e⟩ := I.base.slot L o ho (I.ok.frf L hL) hL fun z => I.ok.exfs L z hL
      exact ⟨hk, ⟨L, _, hf, hn, e, hd⟩, ih (fun b hb => hs b (by unfold frs; rw [List.filterMap_cons, hf]; exact List.mem_cons_of_mem _ hb)) hr⟩
  exact all X.outer (fun _ hb => hb) I.ok.funs
theorem Inv.stack (I : Inv X pins σ H s) : s.heap.FunFrames X.base X.stack := by
  rcases I.ok.stk with e | ⟨e, hf⟩
  · rw [e]; exact I.funs
  · rw [e]
    obtain ⟨m, hn, _⟩ := I.loc
    refine .cons (by rw [I.ok.kind]; decide) hf hn ?_ I.funs
    exact Heap.get?_none_of_le (Nat.le_trans I.ok.bsz I.ok.above)
theorem Inv.stkSub (I : Inv X pins σ H s) : ∀ b ∈ frs X.stack, b ∈ X.env.locals :: X.fs := fun b hb => by
  rcases I.ok.stk with e | ⟨e, hf⟩
  · rw [e] at hb; exact List.mem_cons_of_mem _ hb
  · rw [e] at hb
    unfold frs at hb
    rw [List.filterMap_cons, hf] at hb
    exact hb
theorem Inv.stkFree (I : Inv X pins σ H s) : ∀ b ∈ frs X.stack, H b = none := fun b hb => by
  rcases List.mem_cons.mp (I.stkSub b hb) with e | hb
  · rw [e]; exact I.free
  · obtain ⟨_, o, ho, _⟩ := I.ok.funs.mem hb
    exact I.base.free b o ho (I.ok.frf b hb) fun z => I.ok.exfs b z hb
theorem Inv.step {g' : Array GenState} {t' : Nat} {d' : Drawn} {ch : List Addr} (I : Inv X pins σ H s)
    (hch : ∀ b ∈ ch, (b ∈ X.ex ∨ X.s₀.heap.objs.size ≤ b) ∧ b ≠ X.env.locals ∧ (∀ x c, X.env.cells.lookup x = some c → c ≠ b) ∧ ∀ p ∈ X.pn ++ pins, p.1 ≠ b)
    (keep : ∀ b o, b ≠ X.env.locals → b ∉ X.fs → b ∉ ch → s.heap.get? b = some o → H b = none → h'.get? b = some o)
    (slot : ∀ b o, b ≠ X.env.locals → b ∈ X.fs → b ∉ ch → s.heap.get? b = some o → H b = none → ∃ sl, h'.get? b = some { o with slots := sl }) (free : ∀ b o, b ∉ ch → s.heap.get? b = some o → H b = none → H' b = none)
    (there : ∀ b o, b ∉ ch → s.heap.get? b = some o → ∃ o', h'.get? b = some o')
    (tups : ∀ b xs, H b = some (.tup xs) → H' b = some (.tup xs)) (frzs : ∀ b o u, H b = some (.frz o u) → H' b = some (.frz o u)) (tbls : ∀ b ps, H b = some (.tbl ps) → ∃ more, H' b = some (.tbl (ps ++ more)))
    (ns : ∀ m, s.heap.Ns X.env.locals m → h'.Ns X.env.locals m) (hok : HOk X.prog X.w H' h') (hg : AllBare g') :
    Inv X pins σ H' { s with heap := h', gens := g', drawn := d', toks := t' } := by
  have neL : ∀ b o, X.s₀.heap.get? b = some o → b ≠ X.env.locals := fun b o e => Nat.ne_of_lt (Nat.lt_of_lt_of_le (Heap.lt_size e) I.ok.above)
  have neC : ∀ b o, X.s₀.heap.get? b = some o → b ∉ X.ex → b ∉ ch := fun b o e hx hb => by
    rcases (hch b hb).1 with z | z
    · exact hx z
    · exact absurd (Nat.lt_of_lt_of_le (Heap.lt_size e) z) (Nat.lt_irrefl _)
  have cellK : ∀ x c, X.env.cells.lookup x = some c → ∀ v, s.heap.IsCell c v → h'.IsCell c v := fun x c e v ⟨o, ho, hd⟩ => by
    have nch : c ∉ ch := fun z => (hch c z).2.2.1 x c e rfl
    by_cases hc : c ∈ X.fs
    · obtain ⟨sl, q⟩ := slot c o (I.cne x c e) hc nch ho (I.freeC x c e)
      exact ⟨_, q, hd⟩
    · exact ⟨o, keep c o (I.cne x c e) hc nch ho (I.freeC x c e), hd⟩
  refine ⟨I.ok, I.os, hg, ⟨fun b o e n hb hx => ?_, fun b o e n hb hx => ?_, fun b o e n hx => ?_, fun b o e hx => ?_, fun b xs e => tups b xs (I.base.tups b xs e), fun b o xs e => frzs b o xs (I.base.frzs b o xs e), fun b ps e => ?_⟩, ?_, fun x c e => ?_, ?_, fun x c e => ?_, fun p hp => ?_, hok, I.len⟩
  · exact keep b o (neL b o e) hb (neC b o e hx) (I.base.keep b o e n hb hx) (I.base.free b o e n hx)
  · obtain ⟨sl, e1⟩ := I.base.slot b o e n hb hx
    obtain ⟨sl', e2⟩ := slot b _ (neL b o e) hb (neC b o e hx) e1 (I.base.free b o e n hx)
    exact ⟨sl', e2⟩
  · obtain ⟨o', e1⟩ := I.base.there b o e hx
    exact free b o' (neC b o e hx) e1 (I.base.free b o e n hx)
  · obtain ⟨o', e1⟩ := I.base.there b o e hx
    exact there b o' (neC b o e hx) e1
  · obtain ⟨m1, e1⟩ := I.base.tbls b ps e
    obtain ⟨m2, e2⟩ := tbls b _ e1
    exact ⟨m1 ++ m2, by rw [e2, Array.append_assoc]⟩
  · obtain ⟨m, hn, hl⟩ := I.loc
    refine ⟨m, ns m hn, fun i x v e1 e2 e3 => ?_⟩
    obtain ⟨u, r, l⟩ := hl i x v e1 e2 e3
    refine ⟨u, r, ?_⟩
    rcases l with l | ⟨k, c, e, z⟩
    · exact .inl l
    · exact .inr ⟨k, c, e, cellK x c e _ z⟩
  · obtain ⟨v, z⟩ := I.cell x c e
    exact ⟨v, cellK x c e v z⟩
  · obtain ⟨m, ⟨o, _, _, ho, _⟩, _⟩ := I.loc
    exact free _ o (fun z => (hch _ z).2.1 rfl) ho I.free
  · obtain ⟨v, o, ho, hd⟩ := I.cell x c e
    exact free c o (fun z => (hch c z).2.2.1 x c e rfl) ho (I.freeC x c e)
  · obtain ⟨e, n, ne, nf, d⟩ := I.pin p hp
    have nch : p.1 ∉ ch := fun z => (hch p.1 z).2.2.2 p hp rfl
    exact ⟨keep p.1 p.2 ne nf nch e n, free p.1 p.2 nch e n, ne, nf, d⟩
theorem Inv.un {t' : Nat} (I : Inv X pins σ H s) (u : Un X.fs [] H H' s.heap h') (hok : HOk X.prog X.w H' h') : Inv X pins σ H' { s with heap := h', toks := t' } := by
  obtain ⟨m, ⟨o, es, ep, ho, r⟩, _⟩ := id I.loc
  obtain ⟨sl, hL⟩ := u.any ho I.free (by simp)
  exact I.step (g' := s.gens) (d' := s.drawn) (ch := []) (fun _ z => nomatch z) (fun b o _ hb _ e n => u.keep b o e n hb (by simp)) (fun b o _ hb _ e n => u.slot b o e n hb (by simp)) (fun b o _ e n => u.free b o e n (by simp)) (fun b o _ e => u.there b o e (by simp)) u.tups u.frzs u.tbls (fun m' hm => by
    obtain ⟨o', es', ep', ho', r'⟩ := hm
    rw [ho] at ho'; cases ho'
    exact ⟨_, es', ep', hL, r'⟩) hok I.bare
theorem Inv.call {g' : Array GenState} {t' : Nat} {d' : Drawn} {ch : List Addr} (I : Inv X pins σ H s) (u : Un (frs X.stack) ch H H' s.heap h') (hok : HOk X.prog X.w H' h') (hg : AllBare g')
    (hch : ∀ b ∈ ch, (b ∈ X.ex ∨ X.s₀.heap.objs.size ≤ b) ∧ b ≠ X.env.locals ∧ (∀ x c, X.env.cells.lookup x = some c → c ≠ b) ∧ ∀ p ∈ X.pn ++ pins, p.1 ≠ b) :
    Inv X pins σ H' { s with heap := h', gens := g', drawn := d', toks := t' } := by
  obtain ⟨m, ⟨o, es, ep, ho, r⟩, _⟩ := id I.loc
  obtain ⟨sl, hL⟩ := u.any ho I.free fun z => (hch _ z).2.1 rfl
  exact I.step (ch := ch) hch (fun b o hL hb hc e n => u.keep b o e n (fun z => (List.mem_cons.mp (I.stkSub b z)).elim hL hb) hc) (fun b o _ _ hc e n => u.any e n hc) (fun b o hc e n => u.free b o e n hc) (fun b o hc e => u.there b o e hc) u.tups u.frzs u.tbls (fun m' hm => by
    obtain ⟨o', es', ep', ho', r'⟩ := hm
    rw [ho] at ho'; cases ho'
    exact ⟨_, es', ep', hL, r'⟩) hok hg
theorem Inv.turned {t' : Nat} {it : Addr} (I : Inv X pins σ H s) (k : ∀ b o, b ≠ it → s.heap.get? b = some o → h'.get? b = some o) (hn : H it = none) (hL : it ≠ X.env.locals)
    (h1 : it ∈ X.ex ∨ X.s₀.heap.objs.size ≤ it) (h2 : ∀ x c, X.env.cells.lookup x = some c → c ≠ it) (h3 : ∀ p ∈ X.pn ++ pins, p.1 ≠ it) : Inv X pins σ H { s with heap := h', toks := t' } := by
  have nit : ∀ b u, H b = some u → b ≠ it := fun b u e z => by rw [z, hn] at e; cases e
  refine I.step (g' := s.gens) (d' := s.drawn) (ch := [it]) (fun b hb => ?_) (fun b o _ _ hc e _ => k b o (fun z => hc (by simp [z])) e) (fun b o _ _ hc e _ => ⟨o.slots, k b o (fun z => hc (by simp [z])) e⟩) (fun _ _ _ _ n => n)
    (fun b o hc e => ⟨o, k b o (fun z => hc (by simp [z])) e⟩) (fun _ _ e => e) (fun _ _ _ e => e) (fun b ps e => ⟨#[], by rw [e]; simp⟩) (fun m hm => ?_) (fun b u e => ?_) I.bare
  · have e : b = it := by simpa using hb
    subst e
    exact ⟨h1, hL, h2, h3⟩
  · obtain ⟨o, es, ep, ho, r⟩ := hm
    exact ⟨o, es, ep, k _ o (Ne.symm hL) ho, r⟩
  · refine (I.hok b u e).stay (fun c v hc q => k c v ?_ q) (fun _ q => q) fun _ _ q => q
    rcases hc with z | z
    · rw [z]; exact nit b u e
    · exact nit c _ z
theorem Inv.tok (I : Inv X pins σ H s) (t : Nat) : Inv X pins σ H { s with toks := t } := I.un (h' := s.heap) (t' := t) Un.refl I.hok
theorem Inv.kept {t' : Nat} (I : Inv X pins σ H s) (k : ∀ b u, s.heap.get? b = some u → h'.get? b = some u) : Inv X pins σ H { s with heap := h', toks := t' } := I.un (Un.kept k) (I.hok.kept k)
theorem Inv.laid {a : Addr} {o : HO} {t' : Nat} (I : Inv X pins σ H s) (k : ∀ b u, s.heap.get? b = some u → h'.get? b = some u) (hp : s.heap.objs.size ≤ a) (new : ObjOk X.prog X.w (upd H a o) h' a o) :
    Inv X pins σ (upd H a o) { s with heap := h', toks := t' } := I.un (Un.laid k hp (I.hok.fresh hp)) (I.hok.laid k hp new)
theorem Inv.write {x e : Addr} {o : HO} {t' : Nat} (I : Inv X pins σ H s) (mu : Mut (H x)) (he : e = x ∨ H e = some (.own x)) (k : ∀ b u, b ≠ e → s.heap.get? b = some u → h'.get? b = some u) (heo : ∃ u, h'.get? e = some u)
    (new : ObjOk X.prog X.w (upd H x o) h' x o) : Inv X pins σ (upd H x o) { s with heap := h', toks := t' } := I.un (Un.write mu he k heo) (I.hok.write mu he k heo new)
theorem Inv.weak {σ' : List (Option V)} (I : Inv X pins σ H s) (hl : σ'.length = σ.length) (w : ∀ (i : Nat) v, σ'[i]? = some (some v) → σ[i]? = some (some v)) : Inv X pins σ' H s :=
  ⟨I.ok, I.os, I.bare, I.base, let ⟨m, hn, hl'⟩ := I.loc; ⟨m, hn, fun i x v e1 e2 e3 => hl' i x v e1 (w i v e2) e3⟩, I.cell, I.free, I.freeC, I.pin, I.hok, hl.trans I.len⟩
theorem Inv.pins_of {pins' : List (Addr × Obj)} (I : Inv X pins σ H s) (h : ∀ p ∈ pins', s.heap.get? p.1 = some p.2 ∧ H p.1 = none ∧ p.1 ≠ X.env.locals ∧ p.1 ∉ X.fs ∧ ∀ v, p.2.data ≠ .cell v) : Inv X pins' σ H s :=
  ⟨I.ok, I.os, I.bare, I.base, I.loc, I.cell, I.free, I.freeC, fun p hp => (List.mem_append.mp hp).elim (fun z => I.pin p (List.mem_append_left _ z)) (h p), I.hok, I.len⟩
theorem nodup_ix {N : List Str} (hN : N.Nodup) {i j : Nat} {x : Str} (a : N[i]? = some x) (b : N[j]? = some x) : i = j := by
  obtain ⟨h1, e1⟩ := List.getElem?_eq_some_iff.mp a
  obtain ⟨h2, e2⟩ := List.getElem?_eq_some_iff.mp b
  exact (List.getElem_inj hN).mp (e1.trans e2.symm)
theorem store_ok2 {M : Model} {A : Around} {E : Value → Shared → Prop} {i : Nat} {x : Str} {v : V} {u : Value} {Q : Unit → Shared → Prop} (I : Inv X pins σ H s) (hN : X.N.Nodup) (hi : X.N[i]? = some x) (hx : Loc X.env.scope x) (r : RelV v u)
    (h : ∀ s', Inv X pins (σ.set i (some v)) H s' → (∃ a, Heap.SameBut a s.heap s'.heap ∧ (a = X.env.locals ∨ X.env.cells.lookup x = some a)) → Q () s') (hf : X.fn x = true ∨ X.env.scope.names.lookup x = some .local := by first | exact .inl rfl | exact .inr rfl | assumption) : wpAny M A (storeName X.env x u) Q E s := by
  obtain ⟨m, hn, hl⟩ := id I.loc
  have hcls : (X.env.scope.kind == .class || (X.env.scope.kind == .module && X.env.locals != X.env.globals)) = false := by rw [I.ok.kind]; rfl
  have hiσ : i < σ.length := by rw [I.len]; exact (List.getElem?_eq_some_iff.mp hi).1
  have cne := I.cne
  have tracked : ∀ {a : Addr} {h' : Heap}, (∃ o, s.heap.get? a = some o ∧ H a = none) → Heap.SameBut a s.heap h' → HOk X.prog X.w H h' := fun {a h'} ha hs b ob e => by
    obtain ⟨_, _, hfree⟩ := ha
    refine (I.hok b ob e).stay (fun c w' hc q => (hs.2 c ?_).trans q) (fun _ q => q) fun _ _ q => q
    rintro rfl
    rcases hc with rfl | hc
    · rw [hfree] at e; cases e
    · rw [hfree] at hc; cases hc
  rcases hx with hk | hk
  · refine wpAny_storeName_local hk hn (fun h' hn' hs => ?_) hcls
    obtain ⟨oL, _, _, hoL, _⟩ := id hn
    refine h _ ⟨I.ok, I.os, I.bare, ⟨fun b o e n hb hx => ?_, fun b o e n hb hx => ?_, I.base.free, fun b o e hx => ?_, I.base.tups, I.base.frzs, I.base.tbls⟩, ⟨_, hn', fun j y v' e1 e2 e3 => ?_⟩, fun y c e => ?_, I.free, I.freeC, fun p hp => ?_, tracked ⟨oL, hoL, I.free⟩ hs, by simpa using I.len⟩ ⟨_, hs, .inl rfl⟩
    · exact (hs.2 b (Nat.ne_of_lt (Nat.lt_of_lt_of_le (Heap.lt_size e) I.ok.above))).trans (I.base.keep b o e n hb hx)
    · obtain ⟨sl, e1⟩ := I.base.slot b o e n hb hx
      exact ⟨sl, (hs.2 b (Nat.ne_of_lt (Nat.lt_of_lt_of_le (Heap.lt_size e) I.ok.above))).trans e1⟩
    · obtain ⟨o', e1⟩ := I.base.there b o e hx
      exact ⟨o', (hs.2 b (Nat.ne_of_lt (Nat.lt_of_lt_of_le (Heap.lt_size e) I.ok.above))).trans e1⟩
    · by_cases hj : j = i
      · subst hj
        rw [hi] at e1; cases e1
        rw [List.getElem?_set_self hiσ] at e2
        cases e2
        exact ⟨u, r, .inl ⟨hk, by simp⟩⟩
      · rw [List.getElem?_set_ne (Ne.symm hj)] at e2
        obtain ⟨u', r', q⟩ := hl j y v' e1 e2 e3
        refine ⟨u', r', ?_⟩
        rcases q with ⟨k, e⟩ | ⟨k, c, e, z⟩
        · refine .inl ⟨k, ?_⟩
          have : y ≠ x := fun e => hj (nodup_ix hN e1 (e ▸ hi))
          simp [this, e]
        · exact .inr ⟨k, c, e, z.sameBut hs (cne y c e)⟩
    · obtain ⟨w', z⟩ := I.cell y c e
      exact ⟨w', z.sameBut hs (cne y c e)⟩
    · obtain ⟨e, n, ne, nf, d⟩ := I.pin p hp
      exact ⟨(hs.2 p.1 ne).trans e, n, ne, nf, d⟩
  · have hfn : X.fn x = true := by
      rcases hf with z | z
      · exact z
      · rw [z] at hk; cases hk
    obtain ⟨c, hc⟩ := I.ok.has x (.inl hk)
    obtain ⟨w', z⟩ := I.cell x c hc
    refine wpAny_storeName_cell I.ok.kind hk hc z (fun h' hc' hs => ?_)
    obtain ⟨oc, hoc, hocd⟩ := id z
    refine h { s with heap := h' } ⟨I.ok, I.os, I.bare, ⟨fun b o e n hb hx => ?_, fun b o e n hb hx => ?_, I.base.free, fun b o e hx => ?_, I.base.tups, I.base.frzs, I.base.tbls⟩, ⟨m, hn.sameBut hs (Ne.symm (cne x c hc)), fun j y v' e1 e2 e3 => ?_⟩, fun y c' e => ?_, I.free, I.freeC, fun p hp => ?_, tracked ⟨oc, hoc, I.freeC x c hc⟩ hs, by simpa using I.len⟩ ⟨c, hs, .inr hc⟩
    · exact (hs.2 b (Nat.ne_of_lt (Nat.lt_of_lt_of_le (Heap.lt_size e) (I.ok.cab x c hfn hc)))).trans (I.base.keep b o e n hb hx)
    · obtain ⟨sl, e1⟩ := I.base.slot b o e n hb hx
      exact ⟨sl, (hs.2 b (Nat.ne_of_lt (Nat.lt_of_lt_of_le (Heap.lt_size e) (I.ok.cab x c hfn hc)))).trans e1⟩
    · obtain ⟨o', e1⟩ := I.base.there b o e hx
      exact ⟨o', (hs.2 b (Nat.ne_of_lt (Nat.lt_of_lt_of_le (Heap.lt_size e) (I.ok.cab x c hfn hc)))).trans e1⟩
    · by_cases hj : j = i
      · subst hj
        rw [hi] at e1; cases e1
        rw [List.getElem?_set_self hiσ] at e2
        cases e2
        exact ⟨u, r, .inr ⟨.inl hk, c, hc, hc'⟩⟩
      · rw [List.getElem?_set_ne (Ne.symm hj)] at e2
        obtain ⟨u', r', q⟩ := hl j y v' e1 e2 e3
        refine ⟨u', r', ?_⟩
        rcases q with q | ⟨k, c', e, z'⟩
        · exact .inl q
        · refine .inr ⟨k, c', e, z'.sameBut hs ?_⟩
          rintro rfl
          exact hj (nodup_ix hN e1 (I.ok.inj _ _ _ e hc ▸ hi))
    · by_cases hcc : c' = c
      · subst hcc; exact ⟨_, hc'⟩
      · obtain ⟨w2, z2⟩ := I.cell y c' e
        exact ⟨w2, z2.sameBut hs hcc⟩
    · obtain ⟨e, n, ne, nf, d⟩ := I.pin p hp
      refine ⟨(hs.2 p.1 ?_).trans e, n, ne, nf, d⟩
      intro q
      rw [q, hoc] at e
      have q' : oc = p.2 := Option.some.inj e
      exact d w' (by rw [← q']; exact hocd)
theorem store_ok {M : Model} {A : Around} {E : Value → Shared → Prop} {i : Nat} {x : Str} {v : V} {u : Value} {Q : Unit → Shared → Prop} (I : Inv X pins σ H s) (hN : X.N.Nodup) (hi : X.N[i]? = some x) (hx : Loc X.env.scope x) (r : RelV v u)
    (h : ∀ s', Inv X pins (σ.set i (some v)) H s' → Q () s') (hf : X.fn x = true ∨ X.env.scope.names.lookup x = some .local := by first | exact .inl rfl | exact .inr rfl | assumption) : wpAny M A (storeName X.env x u) Q E s :=
  store_ok2 I hN hi hx r (fun s' I' _ => h s' I') hf
theorem Inv.call' {s' : Shared} {ch : List Addr} (I : Inv X pins σ H s) (ho : s'.os = s.os) (u : Un (frs X.stack) ch H H' s.heap s'.heap) (hok : HOk X.prog X.w H' s'.heap) (hg : AllBare s'.gens)
    (hch : ∀ b ∈ ch, (b ∈ X.ex ∨ X.s₀.heap.objs.size ≤ b) ∧ b ≠ X.env.locals ∧ (∀ x c, X.env.cells.lookup x = some c → c ≠ b) ∧ ∀ p ∈ X.pn ++ pins, p.1 ≠ b) : Inv X pins σ H' s' := by
  obtain ⟨h', g', d', t', o'⟩ := s'
  have e : o' = s.os := ho
  subst e
  exact I.call (g' := g') (t' := t') (d' := d') u hok hg hch
end
noncomputable abbrev XK := Value → Option Addr → Hp → Prop
noncomputable abbrev St := List (Option V)
noncomputable abbrev VK := V → Hp → Prop
noncomputable abbrev TE := St → Hp → VK → Prop
noncomputable abbrev TT := St → Hp → (Bool → Hp → Prop) → Prop
noncomputable abbrev TA := St → Hp → (List V → Hp → Prop) → Prop
structure Ends where
  nx : St → Hp → Prop
  rt : VK
  bk : St → Hp → Prop := fun _ _ => False
  ct : St → Hp → Prop := fun _ _ => False
noncomputable abbrev TS := Ends → St → Hp → Prop
noncomputable def EP (X : Cx) (pins : List (Addr × Obj)) (σ : St) (Q : VK) (u : Value) (s' : Shared) : Prop := ∃ v H', Inv X pins σ H' s' ∧ RelV v u ∧ Q v H'
noncomputable def TP (X : Cx) (pins : List (Addr × Obj)) (σ : St) (Q : Bool → Hp → Prop) (b : Bool) (s' : Shared) : Prop := ∃ H', Inv X pins σ H' s' ∧ Q b H'
noncomputable def AP (X : Cx) (pins : List (Addr × Obj)) (σ : St) (Q : List V → Hp → Prop) (us : List Value) (s' : Shared) : Prop := ∃ vs H', Inv X pins σ H' s' ∧ Vals vs us ∧ Q vs H'
noncomputable def SP (X : Cx) (pins : List (Addr × Obj)) (D : Ends) (f : Flow) (s' : Shared) : Prop :=
  match f with
  | .next => ∃ σ' H', Inv X pins σ' H' s' ∧ D.nx σ' H'
  | .brk => ∃ σ' H', Inv X pins σ' H' s' ∧ D.bk σ' H'
  | .cont => ∃ σ' H', Inv X pins σ' H' s' ∧ D.ct σ' H'
  | .ret u => ∃ v σ' H', Inv X pins σ' H' s' ∧ RelV v u ∧ D.rt v H'
noncomputable def PE (X : Cx) (e : Expr) (t : TE) : Prop :=
  ∀ (pins : List (Addr × Obj)) (s : Shared) (σ : St) (H : Hp) (Q : VK), Inv X pins σ H s → t σ H Q → wpAny (model X.prog X.w) X.A (eval e X.env) (EP X pins σ Q) X.xe s
noncomputable def PT (X : Cx) (e : Expr) (t : TT) : Prop :=
  ∀ (pins : List (Addr × Obj)) (s : Shared) (σ : St) (H : Hp) (Q : Bool → Hp → Prop), Inv X pins σ H s → t σ H Q → wpAny (model X.prog X.w) X.A (isTrue e X.env (eval e X.env)) (TP X pins σ Q) X.xe s
noncomputable def PW (X : Cx) (e : Expr) (t : TT) : Prop :=
  ∀ (whole : Sem Value) (pins : List (Addr × Obj)) (s : Shared) (σ : St) (H : Hp) (Q : Bool → Hp → Prop), Inv X pins σ H s → t σ H Q → wpAny (model X.prog X.w) X.A (isTrue e X.env whole) (TP X pins σ Q) X.xe s
theorem PW.pt {X : Cx} {e : Expr} {t : TT} (h : PW X e t) : PT X e t := h _
noncomputable def PA (X : Cx) (es : List Expr) (t : TA) : Prop :=
  ∀ (pos : Pos) (pins : List (Addr × Obj)) (s : Shared) (σ : St) (H : Hp) (Q : List V → Hp → Prop), Inv X pins σ H s → t σ H Q → wpAny (model X.prog X.w) X.A (spliced (backTo pos (starEach es X.env))) (AP X pins σ Q) X.xe s
noncomputable def PS (X : Cx) (st : Stmt) (t : TS) : Prop :=
  ∀ (pins : List (Addr × Obj)) (s : Shared) (σ : St) (H : Hp) (D : Ends), Inv X pins σ H s → t D σ H → wpAny (model X.prog X.w) X.A (exec st X.env) (SP X pins D) X.xe s
noncomputable def PSs (X : Cx) (st : List Stmt) (t : TS) : Prop :=
  ∀ (pins : List (Addr × Obj)) (s : Shared) (σ : St) (H : Hp) (D : Ends), Inv X pins σ H s → t D σ H → wpAny (model X.prog X.w) X.A (execs st X.env) (SP X pins D) X.xe s
theorem thn {α : Type} {t : Sem α} {Q Q' : α → Shared → Prop} {M : Model} {A : Around} {E : Value → Shared → Prop} {s : Shared} (h : wpAny M A t Q E s) (hQ : ∀ a s, Q a s → Q' a s) : wpAny M A t Q' E s := wpAny_mono h hQ fun _ _ x => x
end L2
namespace L2
open PySem PySem.Spec PyProof.Rows
section
variable {X : Cx}
noncomputable def tVar (i : Nat) : TE := fun σ H Q => ∃ v, σ[i]? = some (some v) ∧ Q v H
noncomputable def tC (v : V) : TE := fun _ H Q => Q v H
theorem pe_var {i : Nat} {x : Str} {pos : Pos} (hN : X.N[i]? = some x) (hv : Vis X.env.scope x) (hd : (x == ("__debug__" : Str)) = false := by decide) (hcd : (x == ("__classdict__" : Str)) = false := by decide) : PE X (.Name x pos) (tVar i) := by
  intro pins s σ H Q I h
  obtain ⟨v, e, h⟩ := h
  obtain ⟨m, hn, hl⟩ := I.loc
  obtain ⟨u, r, l⟩ := hl i x v hN e hv
  have fin : EP X pins σ Q u s := ⟨v, H, I, r, h⟩
  rcases l with ⟨hk, hm⟩ | ⟨hk, c, hc, hcell⟩
  · exact wpAny_Name (wpAny_loadName_local I.ok.kind hk hn hm fin) hd
  · rcases hk with hk | hk
    · exact wpAny_Name (wpAny_loadName_cell I.ok.kind hk hc hcell fin) hd
    · exact wpAny_Name (wpAny_loadName_free I.ok.kind hk hc hcell fin hcd) hd
theorem pe_int {i j pos} : PE X (.Constant (.int i) j pos) (tC (.int i)) := fun _ _ _ H _ I h => wpAny_Constant_int ⟨.int i, H, I.tok _, ⟨_, rfl⟩, h⟩
theorem pe_bl {b j pos} : PE X (.Constant (.bool b) j pos) (tC (.bl b)) := fun _ _ _ H _ I h => Constant_bool ⟨.bl b, H, I, rfl, h⟩
theorem pe_non {j pos} : PE X (.Constant .none j pos) (tC .non) := fun _ _ _ H _ I h => Constant_none ⟨.non, H, I, rfl, h⟩
theorem pe_str {x j pos} : PE X (.Constant (.str x) j pos) (tC (.str x)) := fun _ _ _ H _ I h => Calls.Constant_str ⟨.str x, H, I.tok _, ⟨_, rfl⟩, h⟩
noncomputable def Gl (X : Cx) (x : Str) : Prop := X.env.kindOf x = some .globalImplicit
theorem ld_glob {E : Value → Shared → Prop} {pins : List (Addr × Obj)} {s : Shared} {σ : St} {H : Hp} {x : Str} {u : Value} {pos : Pos} {Q : Value → Shared → Prop} (I : Inv X pins σ H s) (hg : Gl X x) (hm : X.mg x = some u) (h : Q u s)
    (hd : (x == ("__debug__" : Str)) = false := by decide) : wpAny (model X.prog X.w) X.A (eval (.Name x pos) X.env) Q E s :=
  Calls.Name_function_global I.ok.kind hg (Calls.loadGlobal_global (by rw [I.ok.glob]; exact I.mod.glob.keeps I.bk) hm h) hd
theorem ld_blt {E : Value → Shared → Prop} {pins : List (Addr × Obj)} {s : Shared} {σ : St} {H : Hp} {x : Str} {u : Value} {pos : Pos} {Q : Value → Shared → Prop} (I : Inv X pins σ H s) (hg : Gl X x) (hm : X.mg x = none) (hv : bootBuiltins x = some u) (h : Q u s)
    (hn : x ≠ "__name__" := by decide) (hd : (x == ("__debug__" : Str)) = false := by decide) : wpAny (model X.prog X.w) X.A (eval (.Name x pos) X.env) Q E s := by
  obtain ⟨mb, h1, h2⟩ := I.mod.blt
  exact Calls.Name_function_global I.ok.kind hg (Calls.loadGlobal_builtin (by rw [I.ok.glob]; exact I.mod.glob.keeps I.bk) hm (by rw [I.ok.blt]; exact h1.keeps I.bk) ((h2 x hn).trans hv) h) hd
theorem pe_bltn {x : Str} {v : V} {u : Value} {pos : Pos} (hg : Gl X x) (hm : X.mg x = none) (hv : bootBuiltins x = some u) (r : RelV v u) (hn : x ≠ "__name__" := by decide) (hd : (x == ("__debug__" : Str)) = false := by decide) : PE X (.Name x pos) (tC v) :=
  fun _ _ _ H _ I h => ld_blt I hg hm hv ⟨v, H, I, r, h⟩ hn hd
variable {a b : Expr} {ta tb : TE} {pos : Pos}
noncomputable def PC (X : Cx) (op : CmpOp) (a b : Expr) (t : TE) : Prop :=
  ∀ (pins : List (Addr × Obj)) (s : Shared) (σ : St) (H : Hp) (Q : VK), Inv X pins σ H s → t σ H Q →
    wpAny (model X.prog X.w) X.A (eval a X.env) (fun v s₁ => wpAny (model X.prog X.w) X.A (eval b X.env) (fun u s₂ => wpAny (model X.prog X.w) X.A (compareOp op v u) (EP X pins σ Q) X.xe s₂) X.xe s₁) X.xe s
theorem nobehind (b : Expr) {op : CmpOp} (h : op ≠ .In) (h2 : op ≠ .NotIn) : behindInMarks op b = false := by
  have e1 : (op == CmpOp.In) = false := by cases op <;> first | rfl | exact absurd rfl h
  have e2 : (op == CmpOp.NotIn) = false := by cases op <;> first | rfl | exact absurd rfl h2
  cases b <;> simp [behindInMarks, e1, e2]
noncomputable def tIsN (ta : TE) : TE := fun σ H Q => ta σ H fun x H1 => Q (.bl (decide (x = .non))) H1
theorem RelV.none_iff {x : V} {v : Value} (r : RelV x v) : (v == Value.none) = decide (x = .non) := by
  cases x with
  | non => cases r; rfl
  | bl _ => cases r; rfl
  | int _ => obtain ⟨t, rfl⟩ := r; rfl
  | str _ => obtain ⟨t, rfl⟩ := r; rfl
  | byt _ => obtain ⟨t, rfl⟩ := r; rfl
  | flt _ => obtain ⟨t, rfl⟩ := r; rfl
  | ref _ => cases r; rfl
  | ty _ => cases r; rfl
theorem pc_isN {j pos'} (ha : PE X a ta) : PC X .Is a (.Constant .none j pos') (tIsN ta) := by
  intro pins s σ H Q I h
  refine thn (ha pins s σ H _ I h) fun v s1 zr744 => ?_
  obtain ⟨x, H1, I1, r1, q1⟩ := zr744
  exact Constant_none (is_none_gen ⟨.bl _, H1, I1, by rw [r1.none_iff]; rfl, q1⟩)
noncomputable def tB (t : TE) : TT := fun σ H Q => t σ H fun x H1 => ∃ c, x = .bl c ∧ Q c H1
theorem pe_cmp {op : CmpOp} {t : TE} (h : PC X op a b t) (h1 : behindInMarks op b = false := by first | exact nobehind _ (by decide) (by decide) | rfl) : PE X (.Compare a [op] [b] pos) t := fun pins s σ H Q I hw => wpAny_Compare1 (h pins s σ H Q I hw) h1
theorem pt_val {e : Expr} {t : TE} (h : PE X e t) (he : ∀ whole, isTrue e X.env whole = (do let v ← whole; standAt e.pos; holding [v] (truthy v)) := by intro _; rfl) : PT X e (tB t) := by
  intro pins s σ H Q I hw
  refine isTrue_plain (thn (h pins s σ H _ I hw) fun v s1 zr750 => ?_) (he _)
  obtain ⟨x, H1, I1, r1, q1⟩ := zr750
  obtain ⟨d, rfl, q⟩ := q1
  cases r1
  exact wpAny_truthy_bool ⟨H1, I1, q⟩
variable {tA tB' : TT} {rest : List Expr}
noncomputable def tAnd (t u : TT) : TT := fun σ H Q => t σ H fun c H1 => if c = true then u σ H1 Q else Q false H1
noncomputable def tOr (t u : TT) : TT := fun σ H Q => t σ H fun c H1 => if c = true then Q true H1 else u σ H1 Q
noncomputable def tNot (t : TT) : TT := fun σ H Q => t σ H fun c H1 => Q (!c) H1
theorem pw_and1 (ha : PT X a tA) : PW X (.BoolOp .And [a] pos) tA := by
  intro wh pins s σ H Q I h
  refine isTrue_and (thn (ha pins s σ H Q I h) fun c s1 e => ?_)
  cases c with
  | true => exact isTrue_and_nil e
  | false => exact e
theorem pw_or1 (ha : PT X a tA) : PW X (.BoolOp .Or [a] pos) tA := by
  intro wh pins s σ H Q I h
  refine isTrue_or (thn (ha pins s σ H Q I h) fun c s1 e => ?_)
  cases c with
  | false => exact isTrue_or_nil e
  | true => exact e
theorem pw_and (ha : PT X a tA) (hb : PW X (.BoolOp .And (b :: rest) pos) tB') : PW X (.BoolOp .And (a :: b :: rest) pos) (tAnd tA tB') := by
  intro wh pins s σ H Q I h
  refine isTrue_and (thn (ha pins s σ H _ I h) fun c s1 zr772 => ?_)
  obtain ⟨H1, I1, q1⟩ := zr772
  cases c with
  | true => exact hb wh pins s1 σ H1 Q I1 q1
  | false => exact ⟨H1, I1, q1⟩
theorem pw_or (ha : PT X a tA) (hb : PW X (.BoolOp .Or (b :: rest) pos) tB') : PW X (.BoolOp .Or (a :: b :: rest) pos) (tOr tA tB') := by
  intro wh pins s σ H Q I h
  refine isTrue_or (thn (ha pins s σ H _ I h) fun c s1 zr778 => ?_)
  obtain ⟨H1, I1, q1⟩ := zr778
  cases c with
  | true => exact ⟨H1, I1, q1⟩
  | false => exact hb wh pins s1 σ H1 Q I1 q1
theorem pt_not (ha : PT X a tA) : PT X (.UnaryOp .Not a pos) (tNot tA) := by
  intro pins s σ H Q I h
  exact isTrue_not (ha pins s σ H (fun c H1 => Q (!c) H1) I h)
noncomputable def tAndV (ta tb : TE) : TE := fun σ H Q => ta σ H fun x H1 => ∃ c, x = .bl c ∧ if c = true then tb σ H1 Q else Q (.bl false) H1
noncomputable def tOrV (ta tb : TE) : TE := fun σ H Q => ta σ H fun x H1 => ∃ c, x = .bl c ∧ if c = true then Q (.bl true) H1 else tb σ H1 Q
theorem pe_one {op} {t : TE} (h : PE X a t) : PE X (.BoolOp op [a] pos) t := fun pins s σ H Q I hw => BoolOp_one (h pins s σ H Q I hw)
theorem pe_and (ha : PE X a ta) (hb : PE X (.BoolOp .And (b :: rest) pos) tb) : PE X (.BoolOp .And (a :: b :: rest) pos) (tAndV ta tb) := by
  intro pins s σ H Q I h
  refine BoolOp_and (thn (ha pins s σ H _ I h) fun v s1 zr790 => ?_)
  obtain ⟨x, H1, I1, r1, q1⟩ := zr790
  obtain ⟨c, rfl, q1⟩ := q1
  cases r1
  refine wpAny_truthy_bool ?_
  cases c with
  | true => exact hb pins s1 σ H1 Q I1 q1
  | false => exact ⟨.bl false, H1, I1, rfl, q1⟩
theorem pe_or (ha : PE X a ta) (hb : PE X (.BoolOp .Or (b :: rest) pos) tb) : PE X (.BoolOp .Or (a :: b :: rest) pos) (tOrV ta tb) := by
  intro pins s σ H Q I h
  refine BoolOp_or (thn (ha pins s σ H _ I h) fun v s1 zr799 => ?_)
  obtain ⟨x, H1, I1, r1, q1⟩ := zr799
  obtain ⟨c, rfl, q1⟩ := q1
  cases r1
  refine wpAny_truthy_bool ?_
  cases c with
  | false => exact hb pins s1 σ H1 Q I1 q1
  | true => exact ⟨.bl true, H1, I1, rfl, q1⟩
end
end L2
namespace L2
open PySem PySem.Spec PyProof.Rows
noncomputable def SqL (K : PySem.W.Frag) (H : Hp) (a : Addr) (xs : List V) : Prop :=
  Rd H a (.lst xs) ∨
    ∃ (o : Obj) (its : Array Value) (n : Nat), K.lookup a = some o ∧ o.cls = .type "list" ∧ o.dict = none ∧ o.data = .seq its n ∧ its.size ≤ sizeLine ∧ Vals xs its.toList
noncomputable def SqT (K : PySem.W.Frag) (H : Hp) (a : Addr) (xs : List V) : Prop :=
  Rd H a (.tup xs) ∨
    ∃ (o : Obj) (its : Array Value) (n : Nat), K.lookup a = some o ∧ o.cls = .type "tuple" ∧ o.data = .seq its n ∧ its.size ≤ sizeLine ∧ Vals xs its.toList
noncomputable def absV : Value → Option V
  | .none => some .non
  | .bool b => some (.bl b)
  | .int i _ => some (.int i)
  | .str x _ => some (.str x)
  | .bytes b _ => some (.byt b)
  | .float b _ => some (.flt b)
  | .ref a => some (.ref a)
  | .type n => some (.ty n)
  | _ => none
theorem RelV.abs {x : V} {u : Value} (r : RelV x u) : absV u = some x := by
  cases x with
  | non => cases r; rfl
  | bl _ => cases r; rfl
  | int _ => obtain ⟨t, rfl⟩ := r; rfl
  | str _ => obtain ⟨t, rfl⟩ := r; rfl
  | byt _ => obtain ⟨t, rfl⟩ := r; rfl
  | flt _ => obtain ⟨t, rfl⟩ := r; rfl
  | ref _ => cases r; rfl
  | ty _ => cases r; rfl
theorem RelV.inj {x y : V} {u : Value} (r : RelV x u) (q : RelV y u) : x = y := Option.some.inj (r.abs.symm.trans q.abs)
theorem Vals.inj : ∀ {xs ys : List V} {us : List Value}, Vals xs us → Vals ys us → xs = ys
  | _, _, _, .nil, .nil => rfl
  | _, _, _, .cons r t, .cons r' t' => by rw [r.inj r', Vals.inj t t']
section
variable {X : Cx} {pins : List (Addr × Obj)} {σ : St} {H : Hp} {s : Shared} {a : Addr} {xs ys : List V}
theorem SqL.of {K : PySem.W.Frag} (h : H a = some (.lst xs)) : SqL K H a xs := .inl (.inl h)
theorem SqT.of {K : PySem.W.Frag} (h : H a = some (.tup xs)) : SqT K H a xs := .inl (.inl h)
theorem Inv.list (I : Inv X pins σ H s) (h : SqL X.K H a xs) : ∃ its : List Value, Vals xs its ∧ PlainL s.heap a its.toArray ∧ xs.length ≤ sizeLine := by
  rcases h with h | ⟨o, its, n, hk, hc, hd, hs, hz, r⟩
  · obtain ⟨z, its, n, r, e⟩ := h.ok I.hok
    exact ⟨its, r, ⟨_, n, e, rfl, rfl, rfl⟩, z⟩
  · refine ⟨its.toList, r, ⟨o, n, I.kIn a o hk, hc, hd, by simpa using hs⟩, ?_⟩
    have e := r.length
    simp only [Array.length_toList] at e
    omega
theorem Inv.tuple (I : Inv X pins σ H s) (h : SqT X.K H a xs) : ∃ its : List Value, Vals xs its ∧ IsTup s.heap a its.toArray ∧ xs.length ≤ sizeLine := by
  rcases h with h | ⟨o, its, n, hk, hc, hs, hz, r⟩
  · obtain ⟨z, its, r, p⟩ := h.ok I.hok
    exact ⟨its, r, p, z⟩
  · refine ⟨its.toList, r, ⟨o, I.kIn a o hk, hc, n, by simpa using hs⟩, ?_⟩
    have e := r.length
    simp only [Array.length_toList] at e
    omega
theorem Inv.list_inj (I : Inv X pins σ H s) (h : SqL X.K H a xs) (h' : SqL X.K H a ys) : xs = ys := by
  obtain ⟨its, r, ⟨o, n, e, _, _, d⟩, _⟩ := I.list h
  obtain ⟨its', r', ⟨o', n', e', _, _, d'⟩, _⟩ := I.list h'
  rw [e] at e'; cases e'
  rw [d] at d'
  injection d' with d1 _
  have : its = its' := by simpa using congrArg Array.toList d1
  subst this
  exact r.inj r'
theorem Inv.tuple_inj (I : Inv X pins σ H s) (h : SqT X.K H a xs) (h' : SqT X.K H a ys) : xs = ys := by
  obtain ⟨its, r, ⟨o, e, _, n, d⟩, _⟩ := I.tuple h
  obtain ⟨its', r', ⟨o', e', _, n', d'⟩, _⟩ := I.tuple h'
  rw [e] at e'; cases e'
  rw [d] at d'
  injection d' with d1 _
  have : its = its' := by simpa using congrArg Array.toList d1
  subst this
  exact r.inj r'
end
noncomputable abbrev Cx.wish (X : Cx) (E : Value → Shared → Prop) : Cx := { X with xe := E }
noncomputable abbrev Cx.nox (X : Cx) : Cx := X.wish fun _ _ => False
theorem Cx.Ok.wish {X : Cx} (ok : X.Ok) (E : Value → Shared → Prop) : (X.wish E).Ok :=
  ⟨ok.mod, ok.kind, ok.glob, ok.blt, ok.above, ok.inj, ok.has, ok.cab, ok.hd, ok.frames, ok.stk, ok.exf, ok.bs, ok.bsz, ok.noex, ok.exfs, ok.funs, ok.frf⟩
theorem Cx.Ok.unwish {X : Cx} {E : Value → Shared → Prop} (ok : (X.wish E).Ok) : X.Ok :=
  ⟨ok.mod, ok.kind, ok.glob, ok.blt, ok.above, ok.inj, ok.has, ok.cab, ok.hd, ok.frames, ok.stk, ok.exf, ok.bs, ok.bsz, ok.noex, ok.exfs, ok.funs, ok.frf⟩
section
variable {X : Cx} {pins : List (Addr × Obj)} {σ : St} {H : Hp} {s : Shared} {E : Value → Shared → Prop}
theorem Inv.wish (I : Inv X pins σ H s) (E : Value → Shared → Prop) : Inv (X.wish E) pins σ H s := ⟨I.ok.wish E, I.os, I.bare, I.base, I.loc, I.cell, I.free, I.freeC, I.pin, I.hok, I.len⟩
theorem Inv.unwish (I : Inv (X.wish E) pins σ H s) : Inv X pins σ H s := ⟨I.ok.unwish, I.os, I.bare, I.base, I.loc, I.cell, I.free, I.freeC, I.pin, I.hok, I.len⟩
theorem SP.unwish {D : Ends} {f : Flow} {s' : Shared} (h : SP (X.wish E) pins D f s') : SP X pins D f s' := by
  cases f with
  | next => obtain ⟨σ', H', I, q⟩ := h; exact ⟨σ', H', I.unwish, q⟩
  | brk => obtain ⟨σ', H', I, q⟩ := h; exact ⟨σ', H', I.unwish, q⟩
  | cont => obtain ⟨σ', H', I, q⟩ := h; exact ⟨σ', H', I.unwish, q⟩
  | ret u => obtain ⟨v, σ', H', I, r, q⟩ := h; exact ⟨v, σ', H', I.unwish, r, q⟩
theorem PE.nox {e : Expr} {t : TE} (h : PE X.nox e t) : PE X e t := fun pins s σ H Q I hw =>
  wpAny_mono (h pins s σ H Q (I.wish _) hw) (fun _ _ zq0 => by obtain ⟨v, H', I', r, q⟩ := zq0; exact (⟨v, H', I'.unwish, r, q⟩)) fun _ _ z => False.elim z
theorem PT.nox {e : Expr} {t : TT} (h : PT X.nox e t) : PT X e t := fun pins s σ H Q I hw =>
  wpAny_mono (h pins s σ H Q (I.wish _) hw) (fun _ _ zq1 => by obtain ⟨H', I', q⟩ := zq1; exact (⟨H', I'.unwish, q⟩)) fun _ _ z => False.elim z
theorem PSs.nox {st : List Stmt} {t : TS} (h : PSs X.nox st t) : PSs X st t := fun pins s σ H D I hw =>
  wpAny_mono (h pins s σ H D (I.wish _) hw) (fun _ _ q => q.unwish) fun _ _ z => False.elim z
end
section
variable {X : Cx} {st : Stmt} {rest : List Stmt} {t u : TS} {e : Expr} {te : TE} {pos : Pos}
noncomputable def tNext : TS := fun D σ H => D.nx σ H
noncomputable def tSeq (t u : TS) : TS := fun D σ H => t { D with nx := u D } σ H
theorem pss_nil : PSs X [] tNext := fun _ _ σ H _ I h => wpAny_execs_nil ⟨σ, H, I, h⟩
theorem pss_cons (h1 : PS X st t) (h2 : PSs X rest u) : PSs X (st :: rest) (tSeq t u) := by
  intro pins s σ H D I h
  refine wpAny_execs_cons (thn (h1 pins s σ H { D with nx := u D } I h) fun f s1 q => ?_)
  cases f with
  | next =>
    obtain ⟨σ', H', I', q⟩ := q
    exact h2 pins s1 σ' H' D I' q
  | ret v => exact q
  | brk => exact q
  | cont => exact q
theorem pss_one (h1 : PS X st t) : PSs X [st] t := by
  intro pins s σ H D I h
  refine wpAny_execs_cons (thn (h1 pins s σ H D I h) fun f s1 q => ?_)
  cases f with
  | next => exact wpAny_execs_nil q
  | ret v => exact q
  | brk => exact q
  | cont => exact q
theorem Inv.quiet {pins : List (Addr × Obj)} {σ : St} {H : Hp} {s : Shared} (I : Inv X pins σ H s) : interactive X.env = false := by simp [interactive, I.ok.kind]
noncomputable def tDrop (te : TE) : TS := fun D σ H => te σ H fun _ H1 => D.nx σ H1
theorem ps_expr (he : PE X e te) (hs : swapsWith e none pos.line X.env = pure false := by rfl) : PS X (.Expr e pos) (tDrop te) := by
  intro pins s σ H D I h
  exact wpAny_Expr_any (thn (he pins s σ H _ I h) fun v s1 zq2 => by obtain ⟨x, H1, I1, r1, q1⟩ := zq2; exact (⟨σ, H1, I1, q1⟩)) I.quiet hs
noncomputable def tRet (te : TE) : TS := fun D σ H => te σ H D.rt
theorem ps_ret (he : PE X e te) : PS X (.Return (some e) pos) (tRet te) := by
  intro pins s σ H D I h
  exact wpAny_Return_some (thn (he pins s σ H _ I h) fun v s1 zq3 => by obtain ⟨x, H1, I1, r1, q1⟩ := zq3; exact (⟨x, σ, H1, I1, r1, q1⟩))
noncomputable def tIfS (c : TT) (t u : TS) : TS := fun D σ H => c σ H fun b H1 => if b = true then t D σ H1 else u D σ H1
theorem ps_if {c : Expr} {a b : List Stmt} {tc : TT} (hc : PT X c tc) (ha : PSs X a t) (hb : PSs X b u) : PS X (.If c a b pos) (tIfS tc t u) := by
  intro pins s σ H D I h
  refine wpAny_If (thn (hc pins s σ H _ I h) fun d s1 zr937 => ?_)
  obtain ⟨H1, I1, q1⟩ := zr937
  cases d with
  | true => exact ha pins s1 σ H1 D I1 q1
  | false => exact hb pins s1 σ H1 D I1 q1
noncomputable def tNever : TS := fun _ _ _ => False
theorem ps_never : PS X st tNever := fun _ _ _ _ _ _ h => h.elim
end
noncomputable abbrev TG := V → St → Hp → (St → Hp → Prop) → Prop
noncomputable abbrev TGs := List V → St → Hp → (St → Hp → Prop) → Prop
noncomputable def PG (X : Cx) (target : Expr) (t : TG) : Prop :=
  ∀ (pins : List (Addr × Obj)) (s : Shared) (σ : St) (H : Hp) (v : V) (u : Value) (Q : St → Hp → Prop), Inv X pins σ H s → RelV v u → t v σ H Q →
    wpAny (model X.prog X.w) X.A (assign target X.env u) (fun _ s' => ∃ σ' H', Inv X pins σ' H' s' ∧ Q σ' H') X.xe s
noncomputable def PGs (X : Cx) (ts : List Expr) (t : TGs) : Prop :=
  ∀ (pins : List (Addr × Obj)) (s : Shared) (σ : St) (H : Hp) (vs : List V) (us : List Value) (Q : St → Hp → Prop), Inv X pins σ H s → Vals vs us → t vs σ H Q →
    wpAny (model X.prog X.w) X.A (assignInOrder ((assignEach ts X.env).map (·.2)) us) (fun _ s' => ∃ σ' H', Inv X pins σ' H' s' ∧ Q σ' H') X.xe s
section
variable {X : Cx} {pos : Pos}
noncomputable def gName (i : Nat) : TG := fun v σ H Q => Q (σ.set i (some v)) H
theorem pg_name {i : Nat} {x : Str} (hN : X.N.Nodup) (hi : X.N[i]? = some x) (hx : Loc X.env.scope x) (hf : X.fn x = true ∨ X.env.scope.names.lookup x = some .local := by first | exact .inl rfl | exact .inr rfl | assumption) : PG X (.Name x pos) (gName i) := by
  intro pins s σ H v u Q I r h
  exact wpAny_assign_Name (store_ok I hN hi hx r (fun s' I' => ⟨_, H, I', h⟩) hf)
noncomputable def gNil : TGs := fun vs σ H Q => vs = [] ∧ Q σ H
noncomputable def gCons (t : TG) (u : TGs) : TGs := fun vs σ H Q => ∃ v r, vs = v :: r ∧ t v σ H fun σ' H' => u r σ' H' Q
theorem pgs_nil : PGs X [] gNil := by
  intro pins s σ H vs us Q I r h
  obtain ⟨e, h⟩ := h
  subst e
  cases r
  exact assignInOrder_nil ⟨σ, H, I, h⟩
theorem pgs_cons {e : Expr} {es : List Expr} {t : TG} {u : TGs} (h1 : PG X e t) (h2 : PGs X es u)
    (hs : (assignEach (e :: es) X.env).map (·.2) = assign e X.env :: (assignEach es X.env).map (·.2) := by rfl) : PGs X (e :: es) (gCons t u) := by
  intro pins s σ H vs us Q I r h
  obtain ⟨v, vr, e1, h⟩ := h
  subst e1
  cases r with
  | cons r rr =>
    rw [hs]
    refine assignInOrder_cons (thn (h1 pins s σ H _ _ _ I r h) fun _ s1 zr974 => ?_)
    obtain ⟨σ1, H1, I1, q1⟩ := zr974
    exact h2 pins s1 σ1 H1 _ _ Q I1 rr q1
noncomputable def gTup (K : PySem.W.Frag) (n : Nat) (t : TGs) : TG := fun v σ H Q => ∃ a xs, v = .ref a ∧ SqT K H a xs ∧ xs.length = n ∧ t xs σ H Q
theorem pg_tup {es : List Expr} {k : Nat} {t : TGs} {n : Nat} (hc : X.calm = true) (h : PGs X es t)
    (hn : (assignEach es X.env).length = n := by rfl) (hst : (assignEach es X.env).findIdx? (·.1) = none := by rfl) : PG X (.Tuple es k pos) (gTup X.K n t) := by
  intro pins s σ H v u Q I r hw
  obtain ⟨a, xs, e1, hq, hl, hw⟩ := hw
  subst e1
  cases r
  obtain ⟨its, rv, ht, hz⟩ := I.tuple hq
  refine assign_Tuple_tuple (I.ok.hd hc) ht (by simp [hn, ← hl, rv.length]) hst fun h' hx => ?_
  have I1 : Inv X pins σ H { s with heap := h' } := I.kept (t' := s.toks) fun b o e => hx b o (Nat.ne_of_lt (Heap.lt_size e)) e
  exact h pins _ σ H xs _ Q I1 (by simpa using rv) hw
noncomputable def tAsg (te : TE) (g : TG) : TS := fun D σ H => te σ H fun x H1 => g x σ H1 D.nx
theorem ps_asg {tg e : Expr} {te : TE} {g : TG} (he : PE X e te) (hg : PG X tg g) (hs : swapsWithSole [tg] e pos.line X.env = pure false := by rfl) (hw : swappedStores [tg] e X.env = pure none := by rfl)
    (h1 : (assignEach [tg] X.env).map (·.2) = [assign tg X.env] := by rfl) : PS X (.Assign [tg] e pos) (tAsg te g) := by
  intro pins s σ H D I h
  refine wpAny_Assign_stores (thn (he pins s σ H _ I h) fun v s1 zr991 => ?_) hs hw
  obtain ⟨x, H1, I1, r1, q1⟩ := zr991
  rw [h1]
  exact thn (hg pins s1 σ H1 x v _ I1 r1 q1) fun _ s2 q => q
theorem ps_set {i : Nat} {x : Str} {e : Expr} {te : TE} {pos' : Pos} (hN : X.N.Nodup) (hi : X.N[i]? = some x) (hx : Loc X.env.scope x) (he : PE X e te) (hs : swapsWith e (some (.Name x pos')) pos.line X.env = pure false := by rfl) (hf : X.fn x = true ∨ X.env.scope.names.lookup x = some .local := by first | exact .inl rfl | exact .inr rfl | assumption) :
    PS X (.Assign [.Name x pos'] e pos) (tAsg te (gName i)) := by
  intro pins s σ H D I h
  refine wpAny_Assign_Name (thn (he pins s σ H _ I h) fun v s1 zr997 => ?_) hs
  obtain ⟨y, H1, I1, r1, q1⟩ := zr997
  exact store_ok I1 hN hi hx r1 (fun s2 I2 => ⟨_, H1, I2, q1⟩) hf
end
section
variable {X : Cx} {pos : Pos}
noncomputable def tWhile (c : TT) (tb : TS) : TS := fun D σ H => ∃ W : Nat → St → Hp → Prop, (∃ m, W m σ H) ∧ ∀ m σ H, W m σ H →
  c σ H fun b H1 => if b = true then ∃ N : St → Hp → Prop, (∀ σ' H', N σ' H' → ∃ m', m' < m ∧ W m' σ' H') ∧ tb { D with nx := N, ct := N, bk := D.nx } σ H1 else D.nx σ H1
theorem ps_while {c : Expr} {body : List Stmt} {tc : TT} {tb : TS} (hp : PassesOwn (model X.prog X.w) X.A X.env X.xe) (hc : PT X c tc) (hb : PSs X body tb) : PS X (.While c body [] pos) (tWhile tc tb) := by
  intro pins s σ H D I h
  obtain ⟨W, ⟨m0, w0⟩, turn⟩ := h
  refine wpAny_While (codeAny_whileLoop (fun n s' => ∃ σ' H', Inv X pins σ' H' s' ∧ W n σ' H') ?_ m0 ⟨σ, H, I, w0⟩)
  rintro n s1 ⟨σ1, H1, I1, w1⟩
  refine wpAny_passesOwn hp (thn (hc pins s1 σ1 H1 _ I1 (turn n σ1 H1 w1)) fun b s2 zr1009 => ?_)
  obtain ⟨H2, I2, q2⟩ := zr1009
  cases b with
  | true =>
    obtain ⟨N, hN, q2⟩ := q2
    rw [if_pos rfl]
    refine wpAny_passesOwn hp (thn (hb pins s2 σ1 H2 _ I2 q2) fun f s3 q3 => ?_)
    cases f with
    | next =>
      obtain ⟨σ3, H3, I3, n3⟩ := q3
      obtain ⟨m', hm, w3⟩ := hN σ3 H3 n3
      exact ⟨m', hm, σ3, H3, I3, w3⟩
    | cont =>
      obtain ⟨σ3, H3, I3, n3⟩ := q3
      obtain ⟨m', hm, w3⟩ := hN σ3 H3 n3
      exact ⟨m', hm, σ3, H3, I3, w3⟩
    | brk => exact q3
    | ret v => exact q3
  | false =>
    rw [if_neg Bool.false_ne_true]
    exact wpAny_execs_nil ⟨σ1, H2, I2, q2⟩
end
structure It where
  go : Nat → Hp → Prop
  yld : Nat → Hp → V → Hp → Prop
  stop : Nat → Hp → Prop
noncomputable def FpOk (X : Cx) (pins : List (Addr × Obj)) (H : Hp) (b : Addr) : Prop :=
  H b = none ∧ b ≠ X.env.locals ∧ b ∉ X.fs ∧ (b ∈ X.ex ∨ X.s₀.heap.objs.size ≤ b) ∧ (∀ x c, X.env.cells.lookup x = some c → c ≠ b) ∧ ∀ p ∈ X.pn ++ pins, p.1 ≠ b
theorem Inv.fpOk {X : Cx} {pins : List (Addr × Obj)} {σ : St} {H H' : Hp} {s : Shared} {b : Addr} (I : Inv X pins σ H s) (hb : s.heap.objs.size ≤ b) (hn : H' b = none) : FpOk X pins H' b := by
  refine ⟨hn, Nat.ne_of_gt (Nat.lt_of_lt_of_le I.lt hb), I.nofs hb, .inr (Nat.le_trans I.sz hb), fun x c e z => ?_, fun p hp z => ?_⟩
  · obtain ⟨v, q⟩ := I.cell x c e
    exact absurd (Nat.lt_of_lt_of_le q.lt (by rw [z]; exact hb)) (Nat.lt_irrefl _)
  · exact absurd (Nat.lt_of_lt_of_le (Heap.lt_size (I.pin p hp).1) (by rw [z]; exact hb)) (Nat.lt_irrefl _)
structure Turn (P : Program) (w : World) (K : PySem.W.Frag) (tg : Expr) (J : It) (fp : List Addr) (it : Addr) (tn : Nat → Heap → Prop) : Prop where
  mem : it ∈ fp
  obj : ∀ i h, tn i h → ∀ b ∈ fp, ∃ o, h.get? b = some o ∧ ∀ v, o.data ≠ .cell v
  keep : ∀ i h h', tn i h → (∀ b ∈ fp, ∀ o, h.get? b = some o → h'.get? b = some o) → tn i h'
  item : ∀ (X : Cx), X.prog = P → X.w = w → X.K = K → X.calm = true → ∀ (i : Nat) (pins : List (Addr × Obj)) (s : Shared) (σ : St) (H : Hp) (E : Value → Shared → Prop), Inv X pins σ H s → (∀ b ∈ fp, FpOk X pins H b) → tn i s.heap → J.go i H →
    wpAny (model P w) X.A (pyNext (.ref it)) (fun r s1 => ∃ u, r = some u ∧
      wpAny (model P w) X.A (letOwnedTupleGo tg (.ref it) u) (fun _ s2 => ∃ x H', Inv X pins σ H' s2 ∧ RelV x u ∧ J.yld i H x H' ∧ tn (i + 1) s2.heap ∧ ∀ b ∈ fp, H' b = none) E s1) E s
  done : ∀ (X : Cx), X.prog = P → X.w = w → X.K = K → X.calm = true → ∀ (i : Nat) (pins : List (Addr × Obj)) (s : Shared) (σ : St) (H : Hp) (E : Value → Shared → Prop), Inv X pins σ H s → (∀ b ∈ fp, FpOk X pins H b) → tn i s.heap → J.stop i H →
    wpAny (model P w) X.A (pyNext (.ref it)) (fun r s1 => r = none ∧ Inv X pins σ H s1) E s
  self : ∀ (A : Around) (i : Nat) (s : Shared) (Q : Value → Shared → Prop) (E : Value → Shared → Prop), tn i s.heap → Q (.ref it) s → wpAny (model P w) A (pyIter (.ref it)) Q E s
noncomputable abbrev TI := St → Hp → (It → Hp → Prop) → Prop
noncomputable def PIE (X : Cx) (pins : List (Addr × Obj)) (σ : St) (tg : Expr) (R : It → Hp → Prop) (itv : Value) (s2 : Shared) : Prop :=
  ∃ (it : Addr) (fp : List Addr) (tn : Nat → Heap → Prop) (J : It) (H' : Hp), itv = .ref it ∧ Inv X pins σ H' s2 ∧ Turn X.prog X.w X.K tg J fp it tn ∧ tn 0 s2.heap ∧ (∀ b ∈ fp, FpOk X pins H' b) ∧ R J H'
noncomputable def PI (X : Cx) (tg iter : Expr) (wi : TI) : Prop :=
  ∀ (pins : List (Addr × Obj)) (s : Shared) (σ : St) (H : Hp) (R : It → Hp → Prop), Inv X pins σ H s → wi σ H R →
    wpAny (model X.prog X.w) X.A (eval iter X.env) (fun v s1 => wpAny (model X.prog X.w) X.A (pyIter v) (PIE X pins σ tg R) X.xe s1) X.xe s
theorem go_of {M : Model} {A : Around} {E : Value → Shared → Prop} {s : Shared} {tg : Expr} {it : Addr} {u : Value} {o : Obj} {n : String} {vs : Array Value} {Q : Unit → Shared → Prop} (ho : s.heap.get? it = some o) (hc : o.cls = .type n) (hd : o.data = .fields vs)
    (hn : ["enumerate", "zip", "dict_itemiterator", "dict_reverseitemiterator", "odict_iterator", "itertools.zip_longest", "itertools.pairwise"].contains n = false) (hQ : Q () s) : wpAny M A (letOwnedTupleGo tg (.ref it) u) Q E s := by
  unfold letOwnedTupleGo
  cases tg <;> first
    | exact wpAny_pure hQ
    | (cases u <;> first
        | exact wpAny_pure hQ
        | (refine wpAny_bind (wpAny_load ho ?_)
           rw [hc, hd]
           show wpAny M A (if (["enumerate", "zip", "dict_itemiterator", "dict_reverseitemiterator", "odict_iterator", "itertools.zip_longest", "itertools.pairwise"].contains n && vs[0]? == some (rawInt _)) = true then _ else _) Q E s
           rw [if_neg (by intro h; rw [hn, Bool.false_and] at h; cases h)]
           exact wpAny_pure hQ))
noncomputable def Itl (K : PySem.W.Frag) (a : Addr) : It :=
  ⟨fun i H => ∃ xs x, SqL K H a xs ∧ xs[i]? = some x, fun i H x H' => H' = H ∧ ∀ xs, SqL K H a xs → xs[i]? = some x, fun i H => ∃ xs, SqL K H a xs ∧ xs.length ≤ i⟩
noncomputable def Itt (K : PySem.W.Frag) (a : Addr) : It :=
  ⟨fun i H => ∃ xs x, SqT K H a xs ∧ xs[i]? = some x, fun i H x H' => H' = H ∧ ∀ xs, SqT K H a xs → xs[i]? = some x, fun i H => ∃ xs, SqT K H a xs ∧ xs.length ≤ i⟩
noncomputable def Itr (lo : Int) (n : Nat) : It := ⟨fun i _ => i < n, fun i H x H' => H' = H ∧ x = .int (lo + i), fun i _ => n ≤ i⟩
theorem turn_list {P : Program} {w : World} {K : PySem.W.Frag} {tg : Expr} (a it : Addr) : Turn P w K tg (Itl K a) [it] it (fun i h => h.IsListIter it a i) where
  mem := by simp
  obj := fun i h st b hb => by
    have e : b = it := by simpa using hb
    subst e
    obtain ⟨o, e, c, d⟩ := st
    exact ⟨o, e, fun v z => by rw [d] at z; cases z⟩
  keep := fun i h h' st k => st.at fun o e => k it (by simp) o e
  item := by
    intro X hP hw hK hc i pins s σ H E I hf st hg
    subst hP hw hK
    obtain ⟨xs, x, hq, hx⟩ := hg
    obtain ⟨its, rv, p, hz⟩ := I.list hq
    obtain ⟨u, hu, ru⟩ := rv.get hx
    obtain ⟨f0, f1, f2, f3, f4, f5⟩ := hf it (by simp)
    refine wpAny_pyNext_list_item st p.isList (x := u) (by simpa using hu) fun h' st' sb => ?_
    have I1 : Inv X pins σ H { s with heap := h' } := I.turned (t' := s.toks) (fun b o hb e => (sb.2 b hb).trans e) f0 f1 f3 f4 f5
    obtain ⟨o, e, c, d⟩ := id st'
    exact ⟨u, rfl, go_of (s := { s with heap := h' }) e c d (by decide) ⟨x, H, I1, ru, ⟨rfl, fun ys hy => by rw [I.list_inj hy hq]; exact hx⟩, st', fun b hb => (hf b hb).1⟩⟩
  done := by
    intro X hP hw hK hc i pins s σ H E I hf st hg
    subst hP hw hK
    obtain ⟨xs, hq, hx⟩ := hg
    obtain ⟨its, rv, p, hz⟩ := I.list hq
    obtain ⟨f0, f1, f2, f3, f4, f5⟩ := hf it (by simp)
    have hl := rv.length
    exact wpAny_pyNext_list_end (I.ok.hd hc) st p.isList (by simp; omega) fun h' eb => ⟨rfl, I.turned (t' := s.toks) (fun b o hb e => eb b o hb e) f0 f1 f3 f4 f5⟩
  self := fun _ _ _ _ _ st h => wpAny_pyIter_listiter st h
theorem turn_tuple {P : Program} {w : World} {K : PySem.W.Frag} {tg : Expr} (a it : Addr) : Turn P w K tg (Itt K a) [it] it (fun i h => h.IsTupleIter it a i) where
  mem := by simp
  obj := fun i h st b hb => by
    have e : b = it := by simpa using hb
    subst e
    obtain ⟨o, e, c, d⟩ := st
    exact ⟨o, e, fun v z => by rw [d] at z; cases z⟩
  keep := fun i h h' st k => st.at fun o e => k it (by simp) o e
  item := by
    intro X hP hw hK hc i pins s σ H E I hf st hg
    subst hP hw hK
    obtain ⟨xs, x, hq, hx⟩ := hg
    obtain ⟨its, rv, p, hz⟩ := I.tuple hq
    obtain ⟨u, hu, ru⟩ := rv.get hx
    obtain ⟨f0, f1, f2, f3, f4, f5⟩ := hf it (by simp)
    refine wpAny_pyNext_tuple_item st (show s.heap.IsTuple a its.toArray from p) (x := u) (by simpa using hu) fun h' st' sb => ?_
    have I1 : Inv X pins σ H { s with heap := h' } := I.turned (t' := s.toks) (fun b o hb e => (sb.2 b hb).trans e) f0 f1 f3 f4 f5
    obtain ⟨o, e, c, d⟩ := id st'
    exact ⟨u, rfl, go_of (s := { s with heap := h' }) e c d (by decide) ⟨x, H, I1, ru, ⟨rfl, fun ys hy => by rw [I.tuple_inj hy hq]; exact hx⟩, st', fun b hb => (hf b hb).1⟩⟩
  done := by
    intro X hP hw hK hc i pins s σ H E I hf st hg
    subst hP hw hK
    obtain ⟨xs, hq, hx⟩ := hg
    obtain ⟨its, rv, p, hz⟩ := I.tuple hq
    obtain ⟨f0, f1, f2, f3, f4, f5⟩ := hf it (by simp)
    have hl := rv.length
    exact wpAny_pyNext_tuple_end (I.ok.hd hc) st (show s.heap.IsTuple a its.toArray from p) (by simp; omega) fun h' eb => ⟨rfl, I.turned (t' := s.toks) (fun b o hb e => eb b o hb e) f0 f1 f3 f4 f5⟩
  self := fun _ _ _ _ _ st h => wpAny_pyIter_tupleiter st h
theorem turn_range {P : Program} {w : World} {K : PySem.W.Frag} {tg : Expr} (it : Addr) (lo : Int) (n : Nat) : Turn P w K tg (Itr lo n) [it] it (fun i h => IsRangeIter h it (lo + (i : Nat) * 1) ((n : Int) - (i : Nat)) 1) where
  mem := by simp
  obj := fun i h st b hb => by
    have e : b = it := by simpa using hb
    subst e
    exact ⟨_, st, fun v z => by
      have z' : Data.fields _ = Data.cell v := z
      cases z'⟩
  keep := fun i h h' st k => k it (by simp) _ st
  item := by
    intro X hP hw hK hc i pins s σ H E I hf st hg
    subst hP hw hK
    obtain ⟨f0, f1, f2, f3, f4, f5⟩ := hf it (by simp)
    have W := Walks.range (prog := X.prog) (w := X.w) (I.ok.hd hc) it lo 1 n
    refine W.item i s _ _ hg st fun v h' tk hv st' kk => ?_
    obtain ⟨t, rfl⟩ := hv
    have I1 : Inv X pins σ H { s with heap := h', toks := tk } := I.turned (fun b o hb e => kk b o (by simpa using hb) e) f0 f1 f3 f4 f5
    refine ⟨_, rfl, go_of (s := { s with heap := h', toks := tk }) (n := "range_iterator") st' rfl rfl (by decide) ⟨.int (lo + i), H, I1, ⟨t, ?_⟩, ⟨rfl, rfl⟩, st', fun b hb => (hf b hb).1⟩⟩
    rw [Int.mul_one]
  done := by
    intro X hP hw hK hc i pins s σ H E I hf st hg
    subst hP hw hK
    obtain ⟨f0, f1, f2, f3, f4, f5⟩ := hf it (by simp)
    exact wpAny_pyNext_range_end (I.ok.hd hc) st (by have : n ≤ i := hg; omega) fun h' eb => ⟨rfl, I.turned (t' := s.toks) (fun b o hb e => eb b o hb e) f0 f1 f3 f4 f5⟩
  self := fun _ _ _ _ _ st h => wpAny_pyIter_rangeiter st h
end L2
namespace L2
open PySem PySem.Spec PyProof.Rows
section
variable {X : Cx} {tg : Expr}
theorem range_it {pins : List (Addr × Obj)} {σ : St} {H : Hp} {s : Shared} {R : It → Hp → Prop} {E : Value → Shared → Prop} {lo hi : Int} {t u v : Tok} {tk : Nat} (I : Inv X pins σ H s) (h1 : -(2 ^ 62) ≤ lo) (h2 : lo < 2 ^ 62) (h3 : -(2 ^ 62) ≤ hi) (h4 : hi < 2 ^ 62)
    (q : R (Itr lo (hi - lo).toNat) H) : wpAny (model X.prog X.w) X.A (pyIter (.ref s.heap.objs.size)) (PIE X pins σ tg R) E { s with heap := s.heap.push { cls := .type "range", data := .fields #[.int lo t, .int hi u, .int 1 v] }, toks := tk } := by
  refine wpAny_pyIter_range (IsRange.new ..) (small_one h1 h2 h3 h4) ?_
  have I1 : Inv X pins σ H { s with heap := s.heap.push { cls := .type "range", data := .fields #[.int lo t, .int hi u, .int 1 v] }, toks := tk } := I.kept fun b o e => Heap.get?_push_of_some _ e
  refine ⟨(s.heap.push { cls := .type "range", data := .fields #[.int lo t, .int hi u, .int 1 v] }).objs.size, [(s.heap.push { cls := .type "range", data := .fields #[.int lo t, .int hi u, .int 1 v] }).objs.size], _, _, H, rfl,
    I1.kept (t' := tk) fun b o e => Heap.get?_push_of_some _ e, turn_range _ lo (hi - lo).toNat, ?_, fun b hb => ?_, q⟩
  · have e1 : lo + ((0 : Nat) : Int) * 1 = lo := by simp
    have e2 : (((hi - lo).toNat : Nat) : Int) - ((0 : Nat) : Int) = Builtin.Range.rangeSize lo hi 1 := by rw [rangeSize_one]; split <;> omega
    show IsRangeIter _ _ (lo + ((0 : Nat) : Int) * 1) ((((hi - lo).toNat : Nat) : Int) - ((0 : Nat) : Int)) 1
    rw [e1, e2]
    exact Heap.get?_push_size _ rfl
  · have e : b = (s.heap.push { cls := .type "range", data := .fields #[.int lo t, .int hi u, .int 1 v] }).objs.size := by simpa using hb
    subst e
    exact I1.fpOk (Nat.le_refl _) (I1.hok.fresh (Nat.le_refl _))
noncomputable def iRng1 (ta : TA) : TI := fun σ H R => ta σ H fun vs H1 => ∃ j : Int, vs = [.int j] ∧ -(2 ^ 62) ≤ j ∧ j < 2 ^ 62 ∧ R (Itr 0 j.toNat) H1
theorem pi_range1 {a : Expr} {ta : TA} {p pos : Pos} (hg : Gl X "range") (hm : X.mg "range" = none) (ha : PA X [a] ta) (hs : starEach [a] X.env = [(false, eval a X.env)] := by rfl) : PI X tg (.Call (.Name "range" p) [a] [] pos) (iRng1 ta) := by
  intro pins s σ H R I h
  refine Call_ (ld_blt I hg hm boot_range (PyProof.Rows.callWith_type1 (thn (ha pos pins s σ H _ I h) fun us s1 zr1177 => ?_) hs rfl))
  obtain ⟨vs, H1, I1, r1, q1⟩ := zr1177
  obtain ⟨j, e, q1, q2, q⟩ := q1
  subst e
  cases r1 with
  | cons r rr =>
    cases rr
    obtain ⟨t, rfl⟩ := r
    exact call_range_1 (range_it I1 (by omega) (by omega) q1 q2 (by simpa using q))
noncomputable def tFor (wi : TI) (g : TG) (tb : TS) : TS := fun D σ H => wi σ H fun J H1 => ∃ W : Nat → Nat → St → Hp → Prop, (∃ m, W 0 m σ H1) ∧ ∀ i m σ H, W i m σ H →
  (J.stop i H ∧ D.nx σ H) ∨ (J.go i H ∧ ∃ N : St → Hp → Prop, (∀ σ' H', N σ' H' → ∃ m', m' < m ∧ W (i + 1) m' σ' H') ∧ ∀ x H', J.yld i H x H' → g x σ H' fun σ2 H2 => tb { D with nx := N, ct := N, bk := D.nx } σ2 H2)
noncomputable def pinsAt (fp : List Addr) (h : Heap) : List (Addr × Obj) := fp.filterMap fun b => (h.get? b).map fun o => (b, o)
theorem mem_pinsAt {fp : List Addr} {h : Heap} {b : Addr} {o : Obj} (hb : b ∈ fp) (e : h.get? b = some o) : (b, o) ∈ pinsAt fp h := List.mem_filterMap.mpr ⟨b, hb, by rw [e]; rfl⟩
theorem of_pinsAt {fp : List Addr} {h : Heap} {p : Addr × Obj} (hp : p ∈ pinsAt fp h) : p.1 ∈ fp ∧ h.get? p.1 = some p.2 := by
  obtain ⟨b, hb, e⟩ := List.mem_filterMap.mp hp
  cases q : h.get? b with
  | none => rw [q] at e; cases e
  | some o =>
    rw [q] at e
    have e' : (b, o) = p := Option.some.inj e
    subst e'
    exact ⟨hb, q⟩
theorem Inv.pinned {pins : List (Addr × Obj)} {σ : St} {H : Hp} {s : Shared} {fp : List Addr} (I : Inv X pins σ H s) (hf : ∀ b ∈ fp, FpOk X pins H b) (ho : ∀ b ∈ fp, ∃ o, s.heap.get? b = some o ∧ ∀ v, o.data ≠ .cell v) : Inv X (pins ++ pinsAt fp s.heap) σ H s :=
  I.pins_of fun p hp => (List.mem_append.mp hp).elim (fun z => I.pin p (List.mem_append_right _ z)) fun z => by
    obtain ⟨hb, e⟩ := of_pinsAt z
    obtain ⟨f0, f1, f2, _⟩ := hf p.1 hb
    obtain ⟨o, e', d⟩ := ho p.1 hb
    rw [e] at e'; cases e'
    exact ⟨e, f0, f1, f2, d⟩
theorem Inv.unpinned {pins pl : List (Addr × Obj)} {σ : St} {H : Hp} {s : Shared} (I : Inv X (pins ++ pl) σ H s) : Inv X pins σ H s := I.pins_of fun p hp => I.pin p (List.mem_append_right _ (List.mem_append_left _ hp))
theorem ps_for {iter : Expr} {body : List Stmt} {wi : TI} {g : TG} {tb : TS} {pos : Pos} (hp : PassesOwn (model X.prog X.w) X.A X.env X.xe) (hc : X.calm = true) (hi : PI X tg iter wi) (hg : PG X tg g) (hb : PSs X body tb)
    (hs : ∀ x, foldedSetIterable iter X.env x = pure x := by intro _; rfl) : PS X (.For tg iter body [] pos) (tFor wi g tb) := by
  intro pins s σ H D I h
  refine wpAny_For (thn (hi pins s σ H _ I h) fun v s1 h1 => thn h1 fun itv s2 h2 => ?_) hs
  obtain ⟨it, fp, tn, J, H2, e, I2, T, st2, f2, W, ⟨m0, w0⟩, turn⟩ := h2
  subst e
  -- what stays true of the iterator's objects through the loop
  have stat : ∀ {H' : Hp}, (∀ b ∈ fp, H' b = none) → ∀ b ∈ fp, FpOk X pins H' b := fun hn b hb => ⟨hn b hb, (f2 b hb).2⟩
  refine codeAny_forLoop_any (fun n s' => ∃ i σ' H', Inv X pins σ' H' s' ∧ tn i s'.heap ∧ (∀ b ∈ fp, H' b = none) ∧ W i n σ' H') ?_ m0 ⟨0, σ, H2, I2, st2, fun b hb => (f2 b hb).1, w0⟩
  rintro n s3 ⟨i, σ3, H3, I3, st3, fr3, w3⟩
  rcases turn i n σ3 H3 w3 with ⟨stop, qn⟩ | ⟨go, N, hN, step⟩
  · refine wpAny_passesOwn hp (thn (T.done X rfl rfl rfl hc i pins s3 σ3 H3 X.xe I3 (stat fr3) st3 stop) fun r s4 zr1217 => ?_)
    obtain ⟨hr, I4⟩ := zr1217
    subst hr
    exact wpAny_execs_nil ⟨σ3, H3, I4, qn⟩
  · refine wpAny_passesOwn hp (thn (T.item X rfl rfl rfl hc i pins s3 σ3 H3 X.xe I3 (stat fr3) st3 go) fun r s4 zr1220 => ?_)
    obtain ⟨u, hr, h4⟩ := zr1220
    subst hr
    refine wpAny_passesOwn hp (thn h4 fun _ s5 zr1222 => ?_)
    obtain ⟨x, H5, I5, r5, y5, st5, fr5⟩ := zr1222
    have I5' := I5.pinned (stat fr5) (T.obj _ _ st5)
    refine wpAny_passesOwn hp (thn (hg _ s5 σ3 H5 x u _ I5' r5 (step x H5 y5)) fun _ s6 zr1224 => ?_)
    obtain ⟨σ6, H6, I6, q6⟩ := zr1224
    refine wpAny_passesOwn hp (thn (hb _ s6 σ6 H6 _ I6 q6) fun f s7 q7 => ?_)
    have again : ∀ {σ7 : St} {H7 : Hp}, Inv X (pins ++ pinsAt fp s5.heap) σ7 H7 s7 → N σ7 H7 → ∃ m, m < n ∧ ∃ i σ' H', Inv X pins σ' H' s7 ∧ tn i s7.heap ∧ (∀ b ∈ fp, H' b = none) ∧ W i m σ' H' := fun {σ7 H7} I7 n7 => by
      obtain ⟨m', hm, w7⟩ := hN σ7 H7 n7
      refine ⟨m', hm, i + 1, σ7, H7, I7.unpinned, T.keep _ _ _ st5 fun b hb o e => (I7.pin (b, o) (List.mem_append_right _ (List.mem_append_right _ (mem_pinsAt hb e)))).1, fun b hb => ?_, w7⟩
      obtain ⟨o, e, d⟩ := T.obj _ _ st5 b hb
      exact (I7.pin (b, o) (List.mem_append_right _ (List.mem_append_right _ (mem_pinsAt hb e)))).2.1
    cases f with
    | next => obtain ⟨σ7, H7, I7, n7⟩ := q7; exact again I7 n7
    | cont => obtain ⟨σ7, H7, I7, n7⟩ := q7; exact again I7 n7
    | brk => obtain ⟨σ7, H7, I7, q7⟩ := q7; exact ⟨σ7, H7, I7.unpinned, q7⟩
    | ret v => obtain ⟨x7, σ7, H7, I7, r7, q7⟩ := q7; exact ⟨x7, σ7, H7, I7.unpinned, r7, q7⟩
end
end L2
namespace L2
open PySem PySem.Spec PyProof.Rows
noncomputable abbrev R2 := V → V → Hp → VK → Prop
noncomputable def OpR (X : Cx) (f : Value → Value → Sem Value) (r : R2) : Prop :=
  ∀ (pins : List (Addr × Obj)) (s : Shared) (σ : St) (H : Hp) (x y : V) (v u : Value) (Q : VK), Inv X pins σ H s → RelV x v → RelV y u → r x y H Q →
    wpAny (model X.prog X.w) X.A (f v u) (EP X pins σ Q) X.xe s
noncomputable def UnR (X : Cx) (f : Value → Sem Value) (r : V → Hp → VK → Prop) : Prop :=
  ∀ (pins : List (Addr × Obj)) (s : Shared) (σ : St) (H : Hp) (x : V) (v : Value) (Q : VK), Inv X pins σ H s → RelV x v → r x H Q →
    wpAny (model X.prog X.w) X.A (f v) (EP X pins σ Q) X.xe s
noncomputable def CallR (X : Cx) (f : Value) (r : List V → Hp → VK → Prop) : Prop :=
  ∀ (pins : List (Addr × Obj)) (s : Shared) (σ : St) (H : Hp) (xs : List V) (us : List Value) (Q : VK), Inv X pins σ H s → Vals xs us → r xs H Q →
    wpAny (model X.prog X.w) X.A (call f us) (EP X pins σ Q) X.xe s
noncomputable def tOp (r : R2) (ta tb : TE) : TE := fun σ H Q => ta σ H fun x H1 => tb σ H1 fun y H2 => r x y H2 Q
noncomputable def tUn (r : V → Hp → VK → Prop) (ta : TE) : TE := fun σ H Q => ta σ H fun x H1 => r x H1 Q
noncomputable def rI (C : Int → Int → Prop) (g : Int → Int → V) : R2 := fun x y H Q => ∃ i j, x = .int i ∧ y = .int j ∧ C i j ∧ Q (g i j) H
noncomputable def rI0 (g : Int → Int → V) : R2 := fun x y H Q => ∃ i j, x = .int i ∧ y = .int j ∧ Q (g i j) H
noncomputable def rU (g : Int → V) : V → Hp → VK → Prop := fun x H Q => ∃ i, x = .int i ∧ Q (g i) H
section
variable {X : Cx} {a b c : Expr} {ta tb tc : TE} {pos : Pos}
theorem binT (ha : PE X a ta) (hb : PE X b tb) {pins : List (Addr × Obj)} {s : Shared} {σ : St} {H : Hp} {R : V → V → Hp → Prop} (I : Inv X pins σ H s)
    (h : ta σ H fun x H1 => tb σ H1 fun y H2 => R x y H2) {Q : Value → Shared → Prop} {f : Value → Value → Sem Value}
    (hf : ∀ v u s2 x y H2, Inv X pins σ H2 s2 → RelV x v → RelV y u → R x y H2 → wpAny (model X.prog X.w) X.A (f v u) Q X.xe s2) :
    wpAny (model X.prog X.w) X.A (eval a X.env) (fun v s₁ => wpAny (model X.prog X.w) X.A (eval b X.env) (fun u s₂ => wpAny (model X.prog X.w) X.A (f v u) Q X.xe s₂) X.xe s₁) X.xe s := by
  refine thn (ha pins s σ H _ I h) fun v s1 zr1261 => ?_
  obtain ⟨x, H1, I1, r1, q1⟩ := zr1261
  refine thn (hb pins s1 σ H1 _ I1 q1) fun u s2 zr1262 => ?_
  obtain ⟨y, H2, I2, r2, q2⟩ := zr1262
  exact hf v u s2 x y H2 I2 r1 r2 q2
theorem pe_op {op : Operator} {r : R2} (ho : OpR X (binaryOp op) r) (ha : PE X a ta) (hb : PE X b tb) : PE X (.BinOp a op b pos) (tOp r ta tb) := by
  intro pins s σ H Q I h
  exact wpAny_BinOp (binT ha hb I h fun v u s2 x y H2 I2 rx ry q => ho pins s2 σ H2 x y v u Q I2 rx ry q)
theorem pe_un {op : UnaryOp} {r : V → Hp → VK → Prop} (ho : UnR X (unaryOp op) r) (ha : PE X a ta) : PE X (.UnaryOp op a pos) (tUn r ta) := by
  intro pins s σ H Q I h
  exact UnaryOp_ (thn (ha pins s σ H _ I h) fun v s1 zq4 => by obtain ⟨x, H1, I1, r1, q1⟩ := zq4; exact (ho pins s1 σ H1 x v Q I1 r1 q1))
theorem opI {f : Value → Value → Sem Value} {C : Int → Int → Prop} {g : Int → Int → Int}
    (rule : ∀ (i j : Int) (t u : Tok) (s : Shared) (Q : Value → Shared → Prop) (E : Value → Shared → Prop), C i j → Q (.int (g i j) s.toks) { s with toks := s.toks + 1 } → wpAny (model X.prog X.w) X.A (f (.int i t) (.int j u)) Q E s) :
    OpR X f (rI C fun i j => .int (g i j)) := by
  intro pins s σ H x y v u Q I rx ry h
  obtain ⟨i, j, rfl, rfl, hc, q⟩ := h
  obtain ⟨t, rfl⟩ := rx
  obtain ⟨t', rfl⟩ := ry
  exact rule i j t t' s _ _ hc ⟨.int (g i j), H, I.tok _, ⟨_, rfl⟩, q⟩
theorem opI0 {f : Value → Value → Sem Value} {g : Int → Int → Int}
    (rule : ∀ (i j : Int) (t u : Tok) (s : Shared) (Q : Value → Shared → Prop) (E : Value → Shared → Prop), Q (.int (g i j) s.toks) { s with toks := s.toks + 1 } → wpAny (model X.prog X.w) X.A (f (.int i t) (.int j u)) Q E s) :
    OpR X f (rI0 fun i j => .int (g i j)) := by
  intro pins s σ H x y v u Q I rx ry h
  obtain ⟨i, j, rfl, rfl, q⟩ := h
  obtain ⟨t, rfl⟩ := rx
  obtain ⟨t', rfl⟩ := ry
  exact rule i j t t' s _ _ ⟨.int (g i j), H, I.tok _, ⟨_, rfl⟩, q⟩
theorem opB0 {f : Value → Value → Sem Value} {g : Int → Int → Bool}
    (rule : ∀ (i j : Int) (t u : Tok) (s : Shared) (Q : Value → Shared → Prop) (E : Value → Shared → Prop), Q (.bool (g i j)) s → wpAny (model X.prog X.w) X.A (f (.int i t) (.int j u)) Q E s) :
    OpR X f (rI0 fun i j => .bl (g i j)) := by
  intro pins s σ H x y v u Q I rx ry h
  obtain ⟨i, j, rfl, rfl, q⟩ := h
  obtain ⟨t, rfl⟩ := rx
  obtain ⟨t', rfl⟩ := ry
  exact rule i j t t' s _ _ ⟨.bl (g i j), H, I, rfl, q⟩
noncomputable def CMul (i j : Int) : Prop := (-(2 ^ 64) < i ∧ i < 2 ^ 64) ∨ (-(2 ^ 64) < j ∧ j < 2 ^ 64)
theorem CMul.ok {i j : Int} (h : CMul i j) : IntMulOk i j := by
  rcases h with ⟨h1, h2⟩ | ⟨h1, h2⟩
  · exact .of_left (intBits_le_64 h1 h2)
  · exact .of_right (intBits_le_64 h1 h2)
theorem op_add : OpR X (binaryOp .Add) (rI0 fun i j => .int (i + j)) := opI0 fun _ _ _ _ _ _ _ q => add_int q
theorem op_sub : OpR X (binaryOp .Sub) (rI0 fun i j => .int (i - j)) := opI0 fun _ _ _ _ _ _ _ q => sub_int q
theorem op_mul : OpR X (binaryOp .Mult) (rI CMul fun i j => .int (i * j)) := opI fun _ _ _ _ _ _ _ hc q => mul_int q hc.ok
theorem op_mod : OpR X (binaryOp .Mod) (rI (fun _ j => 0 < j) fun i j => .int (i % j)) := opI fun i j _ _ _ _ _ hc q => by
  have h1 : (0 : Int) < j := hc
  exact mod_int' (by omega) (by rw [Int.fmod_eq_emod_of_nonneg i (by omega)]; exact q)
theorem unI {f : Value → Sem Value} {g : Int → Int}
    (rule : ∀ (i : Int) (t : Tok) (s : Shared) (Q : Value → Shared → Prop) (E : Value → Shared → Prop), Q (.int (g i) s.toks) { s with toks := s.toks + 1 } → wpAny (model X.prog X.w) X.A (f (.int i t)) Q E s) :
    UnR X f (rU fun i => .int (g i)) := by
  intro pins s σ H x v Q I rx h
  obtain ⟨i, rfl, q⟩ := h
  obtain ⟨t, rfl⟩ := rx
  exact rule i t s _ _ ⟨.int (g i), H, I.tok _, ⟨_, rfl⟩, q⟩
theorem un_neg : UnR X (unaryOp .USub) (rU fun i => .int (-i)) := unI fun _ _ _ _ _ q => neg_int q
end
noncomputable def scal : V → V → Bool
  | .non, .non => true | .non, .int _ => true | .int _, .non => true | .non, .bl _ => true | .bl _, .non => true | .non, .str _ => true | .str _, .non => true
  | .int _, .int _ => true | .bl _, .bl _ => true | .str _, .str _ => true | .byt _, .byt _ => true
  | .int _, .str _ => true | .str _, .int _ => true | .bl _, .str _ => true | .str _, .bl _ => true
  | _, _ => false
noncomputable def rEq : R2 := fun x y H Q => scal x y = true ∧ Q (.bl (decide (x = y))) H
noncomputable def rNe : R2 := fun x y H Q => scal x y = true ∧ Q (.bl (!decide (x = y))) H
theorem dec_int {i j : Int} : decide (V.int i = V.int j) = (i == j) := by
  rw [Bool.eq_iff_iff]
  simp
theorem dec_bl {i j : Bool} : decide (V.bl i = V.bl j) = (i == j) := by
  rw [Bool.eq_iff_iff]
  simp
theorem dec_str {i j : Str} : decide (V.str i = V.str j) = (i == j) := by
  rw [Bool.eq_iff_iff]
  simp
theorem dec_byt {i j : Array UInt8} : decide (V.byt i = V.byt j) = (i.toList == j.toList) := by
  rw [Bool.eq_iff_iff]
  cases i
  cases j
  simp
section
variable {X : Cx} {a b c : Expr} {ta tb tc : TE} {pos : Pos}
theorem fin_bl {pins : List (Addr × Obj)} {σ : St} {H : Hp} {s : Shared} {Q : VK} {k k' : Bool} (I : Inv X pins σ H s) (q : Q (.bl k) H) (e : k = k') : EP X pins σ Q (.bool k') s := by
  subst e
  exact ⟨.bl k, H, I, rfl, q⟩
theorem op_eq : OpR X (compareOp .Eq) rEq := by
  intro pins s σ H x y v u Q I rx ry h
  obtain ⟨hs, q⟩ := h
  cases x with
  | non =>
    cases rx
    cases y with
    | non => cases ry; exact PySem.EqNone.eq_none_none (fin_bl I q (by simp))
    | bl j => cases ry; exact PySem.EqNone.eq_none_bool (fin_bl I q (by simp))
    | int j => obtain ⟨t', rfl⟩ := ry; exact PySem.EqNone.eq_none_int (fin_bl I q (by simp))
    | str j => obtain ⟨t', rfl⟩ := ry; exact PySem.EqNone.eq_none_str (fin_bl I q (by simp))
    | _ => exact absurd (show false = true from hs) Bool.false_ne_true
  | bl i =>
    cases rx
    cases y with
    | non => cases ry; exact PySem.EqNone.eq_bool_none (fin_bl I q (by simp))
    | bl j => cases ry; exact eq_bool (fin_bl I q dec_bl)
    | str j => obtain ⟨t', rfl⟩ := ry; exact PySem.EqMixed.eq_bool_str (fin_bl I q (by simp))
    | _ => exact absurd (show false = true from hs) Bool.false_ne_true
  | int i =>
    obtain ⟨t, rfl⟩ := rx
    cases y with
    | non => cases ry; exact PySem.EqNone.eq_int_none (fin_bl I q (by simp))
    | int j => obtain ⟨t', rfl⟩ := ry; exact eq_int (fin_bl I q dec_int)
    | str j => obtain ⟨t', rfl⟩ := ry; exact PySem.EqMixed.eq_int_str (fin_bl I q (by simp))
    | _ => exact absurd (show false = true from hs) Bool.false_ne_true
  | str i =>
    obtain ⟨t, rfl⟩ := rx
    cases y with
    | non => cases ry; exact PySem.EqNone.eq_str_none (fin_bl I q (by simp))
    | bl j => cases ry; exact PySem.EqMixed.eq_str_bool (fin_bl I q (by simp))
    | int j => obtain ⟨t', rfl⟩ := ry; exact PySem.EqMixed.eq_str_int (fin_bl I q (by simp))
    | str j => obtain ⟨t', rfl⟩ := ry; exact eq_str (fin_bl I q dec_str)
    | _ => exact absurd (show false = true from hs) Bool.false_ne_true
  | byt i =>
    obtain ⟨t, rfl⟩ := rx
    cases y with
    | byt j => obtain ⟨t', rfl⟩ := ry; exact PySem.W.eq_bytes (fin_bl I q dec_byt)
    | _ => exact absurd (show false = true from hs) Bool.false_ne_true
  | _ => cases y <;> exact absurd (show false = true from hs) Bool.false_ne_true
theorem op_ne : OpR X (compareOp .NotEq) rNe := by
  intro pins s σ H x y v u Q I rx ry h
  obtain ⟨hs, q⟩ := h
  cases x with
  | non =>
    cases rx
    cases y with
    | non => cases ry; exact PySem.EqNone.ne_none_none (fin_bl I q (by simp))
    | bl j => cases ry; exact PySem.EqNone.ne_none_bool (fin_bl I q (by simp))
    | int j => obtain ⟨t', rfl⟩ := ry; exact PySem.EqNone.ne_none_int (fin_bl I q (by simp))
    | str j => obtain ⟨t', rfl⟩ := ry; exact PySem.EqNone.ne_none_str (fin_bl I q (by simp))
    | _ => exact absurd (show false = true from hs) Bool.false_ne_true
  | bl i =>
    cases rx
    cases y with
    | non => cases ry; exact PySem.EqNone.ne_bool_none (fin_bl I q (by simp))
    | bl j => cases ry; exact ne_bool (fin_bl I q (congrArg not dec_bl))
    | str j => obtain ⟨t', rfl⟩ := ry; exact PySem.EqMixed.ne_bool_str (fin_bl I q (by simp))
    | _ => exact absurd (show false = true from hs) Bool.false_ne_true
  | int i =>
    obtain ⟨t, rfl⟩ := rx
    cases y with
    | non => cases ry; exact PySem.EqNone.ne_int_none (fin_bl I q (by simp))
    | int j => obtain ⟨t', rfl⟩ := ry; exact ne_int (fin_bl I q (congrArg not dec_int))
    | str j => obtain ⟨t', rfl⟩ := ry; exact PySem.EqMixed.ne_int_str (fin_bl I q (by simp))
    | _ => exact absurd (show false = true from hs) Bool.false_ne_true
  | str i =>
    obtain ⟨t, rfl⟩ := rx
    cases y with
    | non => cases ry; exact PySem.EqNone.ne_str_none (fin_bl I q (by simp))
    | bl j => cases ry; exact PySem.EqMixed.ne_str_bool (fin_bl I q (by simp))
    | int j => obtain ⟨t', rfl⟩ := ry; exact PySem.EqMixed.ne_str_int (fin_bl I q (by simp))
    | str j => obtain ⟨t', rfl⟩ := ry; exact ne_str (fin_bl I q (congrArg not dec_str))
    | _ => exact absurd (show false = true from hs) Bool.false_ne_true
  | byt i =>
    obtain ⟨t, rfl⟩ := rx
    cases y with
    | byt j => obtain ⟨t', rfl⟩ := ry; exact PySem.W.ne_bytes (fin_bl I q (congrArg not dec_byt))
    | _ => exact absurd (show false = true from hs) Bool.false_ne_true
  | _ => cases y <;> exact absurd (show false = true from hs) Bool.false_ne_true
theorem op_lt : OpR X (compareOp .Lt) (rI0 fun i j => .bl (decide (i < j))) := opB0 fun _ _ _ _ _ _ _ q => lt_int q
theorem op_le : OpR X (compareOp .LtE) (rI0 fun i j => .bl (decide (i ≤ j))) := opB0 fun _ _ _ _ _ _ _ q => le_int q
theorem op_gt : OpR X (compareOp .Gt) (rI0 fun i j => .bl (decide (j < i))) := opB0 fun _ _ _ _ _ _ _ q => gt_int q
theorem op_ge : OpR X (compareOp .GtE) (rI0 fun i j => .bl (decide (j ≤ i))) := opB0 fun _ _ _ _ _ _ _ q => ge_int q
theorem nomark (b : Expr) {op : CmpOp} (h : op ≠ .In := by decide) (h2 : op ≠ .NotIn := by decide) : behindInMarks op b = false := by
  have e1 : (op == CmpOp.In) = false := by cases op <;> first | rfl | exact absurd rfl h
  have e2 : (op == CmpOp.NotIn) = false := by cases op <;> first | rfl | exact absurd rfl h2
  cases b <;> simp [behindInMarks, e1, e2]
theorem pe_cmpR {op : CmpOp} {r : R2} (ho : OpR X (compareOp op) r) (ha : PE X a ta) (hb : PE X b tb) (hm : behindInMarks op b = false) : PE X (.Compare a [op] [b] pos) (tOp r ta tb) := by
  intro pins s σ H Q I h
  exact wpAny_Compare1 (binT ha hb I h fun v u s2 x y H2 I2 rx ry q => ho pins s2 σ H2 x y v u Q I2 rx ry q) hm
noncomputable def tTest (t : TE) : TT := fun σ H Q => t σ H fun x H' => ∃ k, x = .bl k ∧ Q k H'
theorem pt_cmpR {op : CmpOp} {r : R2} (ho : OpR X (compareOp op) r) (ha : PE X a ta) (hb : PE X b tb) (hm : behindInMarks op b = false) : PT X (.Compare a [op] [b] pos) (tTest (tOp r ta tb)) := by
  intro pins s σ H Q I h
  refine wpAny_isTrue_Compare1 (thn (ha pins s σ H _ I h) fun v s1 ⟨x, H1, I1, r1, q1⟩ => thn (hb pins s1 σ H1 _ I1 q1) fun u s2 ⟨y, H2, I2, r2, q2⟩ =>
    thn (ho pins s2 σ H2 x y v u _ I2 r1 r2 q2) fun c s3 ⟨z, H3, I3, r3, k, e, q3⟩ => ?_) hm
  subst e
  cases r3
  exact wpAny_truthy_bool ⟨H3, I3, q3⟩
noncomputable def tChain (r r' : R2) (ta tb tc : TE) : TE := fun σ H Q => ta σ H fun x H1 => tb σ H1 fun y H2 => r x y H2 fun z H3 => ∃ k, z = .bl k ∧
  (if k = true then tc σ H3 fun w' H4 => r' y w' H4 Q else Q (.bl false) H3)
theorem pe_chain {op op' : CmpOp} {r r' : R2} (ho : OpR X (compareOp op) r) (ho' : OpR X (compareOp op') r') (ha : PE X a ta) (hb : PE X b tb) (hc : PE X c tc)
    (hm : lastMarks [op, op'] [b, c] = false := by with_unfolding_all rfl) : PE X (.Compare a [op, op'] [b, c] pos) (tChain r r' ta tb tc) := by
  intro pins s σ H Q I h
  refine Compare_chain (thn (ha pins s σ H _ I h) fun v s1 ⟨x, H1, I1, r1, q1⟩ => chain_link (thn (hb pins s1 σ H1 _ I1 q1) fun u s2 ⟨y, H2, I2, r2, q2⟩ =>
    thn (ho pins s2 σ H2 x y v u _ I2 r1 r2 q2) fun d s3 ⟨z, H3, I3, r3, k, e, q3⟩ => ?_)) hm
  subst e
  cases r3
  refine wpAny_truthy_bool ?_
  cases k with
  | false => exact ite_ff ⟨.bl false, H3, I3, rfl, q3⟩
  | true => exact ite_tt (chain_last (thn (hc pins s3 σ H3 _ I3 q3) fun w' s4 zq5 => by obtain ⟨z', H4, I4, r4, q4⟩ := zq5; exact (ho' pins s4 σ H4 y z' u w' Q I4 r2 r4 q4)))
theorem line63 : (sizeLine : Nat) < 2 ^ 63 := by rw [sizeLine_eq]; decide
theorem op_add_str : OpR X (binaryOp .Add) (fun x y H Q => ∃ i j, x = .str i ∧ y = .str j ∧ i.length + j.length ≤ sizeLine ∧ Q (.str (i ++ j)) H) := by
  intro pins s σ H x y v u Q I rx ry h
  obtain ⟨i, j, rfl, rfl, hz, q⟩ := h
  obtain ⟨t, rfl⟩ := rx
  obtain ⟨t', rfl⟩ := ry
  exact add_str (fun t' tk => ⟨.str (i ++ j), H, I.tok _, ⟨_, rfl⟩, q⟩) hz
theorem vals1 {x : V} {us : List Value} (r : Vals [x] us) : ∃ u, us = [u] ∧ RelV x u := by
  cases r with
  | cons r1 r2 => cases r2; exact ⟨_, rfl, r1⟩
theorem vals2 {x y : V} {us : List Value} (r : Vals [x, y] us) : ∃ u w', us = [u, w'] ∧ RelV x u ∧ RelV y w' := by
  cases r with
  | cons r1 r2 =>
    cases r2 with
    | cons r3 r4 => cases r4; exact ⟨_, _, rfl, r1, r3⟩
theorem call_max2 (hc : X.calm = true) : CallR X (.builtin "max") (fun xs H Q => ∃ i j, xs = [.int i, .int j] ∧ Q (.int (if j > i then j else i)) H) := by
  intro pins s σ H xs us Q I r h
  obtain ⟨i, j, rfl, q⟩ := h
  obtain ⟨u, w', rfl, ⟨t, rfl⟩, ⟨t', rfl⟩⟩ := vals2 r
  refine max_two_ints (I.ok.hd hc) fun h' tk k => ⟨_, H, I.kept k, ?_, q⟩
  by_cases hj : j > i
  · rw [if_pos hj, if_pos hj]; exact ⟨_, rfl⟩
  · rw [if_neg hj, if_neg hj]; exact ⟨_, rfl⟩
theorem call_min2 (hc : X.calm = true) : CallR X (.builtin "min") (fun xs H Q => ∃ i j, xs = [.int i, .int j] ∧ Q (.int (if j < i then j else i)) H) := by
  intro pins s σ H xs us Q I r h
  obtain ⟨i, j, rfl, q⟩ := h
  obtain ⟨u, w', rfl, ⟨t, rfl⟩, ⟨t', rfl⟩⟩ := vals2 r
  refine min_two_ints (I.ok.hd hc) fun h' tk k => ⟨_, H, I.kept k, ?_, q⟩
  by_cases hj : j < i
  · rw [if_pos hj, if_pos hj]; exact ⟨_, rfl⟩
  · rw [if_neg hj, if_neg hj]; exact ⟨_, rfl⟩
theorem call_int1 : CallR X (.type "int") (fun xs H Q => (∃ i, xs = [.int i] ∧ Q (.int i) H) ∨ ∃ k, xs = [.bl k] ∧ Q (.int (if k then 1 else 0)) H) := by
  intro pins s σ H xs us Q I r h
  rcases h with ⟨i, rfl, q⟩ | ⟨k, rfl, q⟩
  · obtain ⟨u, rfl, t, rfl⟩ := vals1 r
    exact call_int_int ⟨.int i, H, I, ⟨_, rfl⟩, q⟩
  · obtain ⟨u, rfl, r1⟩ := vals1 r
    cases r1
    exact call_int_bool ⟨.int (if k then 1 else 0), H, I.tok _, ⟨_, rfl⟩, q⟩
end
end L2
namespace L2
open PySem PySem.Spec PyProof.Rows
structure ObjM (h : Heap) (x dx C : Addr) (mA : Str → Option Value) : Prop where
  obj : h.get? x = some (PySem.W.instObj C dx)
  ns : h.Ns1 dx mA
  ne : dx ≠ x
theorem lookIn_ns {h : Heap} {dx : Addr} {mA : Str → Option Value} (n : h.Ns1 dx mA) : ∃ od, h.get? dx = some od ∧ ∀ name, PySem.W.lookIn name od = some (mA name) := by
  obtain ⟨o, es, ep, ho, hd, hk, _, hm⟩ := n
  refine ⟨o, ho, fun name => ?_⟩
  have e := hm name
  unfold nsFind findBy at e
  rw [← Array.find?_toList] at e
  unfold PySem.W.lookIn
  rw [hd]
  dsimp only
  split
  · rename_i y q
    rw [q] at e
    exact congrArg some e
  · rename_i q
    rw [q] at e
    have a : es.toList.any (·.refKey) = false := by
      rw [List.any_eq_false]
      intro y hy
      obtain ⟨z, t, hkey⟩ := hk y (Array.mem_toList_iff.mp hy)
      simp [DictEntry.refKey, hkey]
    have a' : ¬ es.toList.any (·.refKey) = true := by rw [a]; exact Bool.false_ne_true
    rw [if_neg a']
    exact congrArg some e
theorem ObjM.look {h : Heap} {x dx C : Addr} {mA : Str → Option Value} (I : ObjM h x dx C mA) : ∃ od, PySem.W.InstAt h x (PySem.W.instObj C dx) C (some od) ∧ ∀ name, PySem.W.lookIn name od = some (mA name) :=
  let ⟨od, ho, hl⟩ := lookIn_ns I.ns
  ⟨od, ⟨I.obj, rfl, rfl, ho⟩, hl⟩
section
variable {prog : Program} {w : World} {A : Around} {E : Value → Shared → Prop} {s : Shared} {K : PySem.W.Frag} {x dx C f : Addr} {mA : Str → Option Value} {name : Str} {v : Value}
end
theorem RelO.some_of {v : V} {o : Option Value} (r : RelO (some v) o) : ∃ u, o = some u ∧ RelV v u := by
  cases o with
  | none => exact (show False from r).elim
  | some u => exact ⟨u, rfl, r⟩
section
variable {P : Program} {w : World} {H H' : Hp} {h h' : Heap} {a C dx : Addr} {fs fs' : List (Str × V)}
theorem ins_get (hok : HOk P w H h) (e : H a = some (.ins C dx fs)) : ∃ mA, ObjM h a dx C mA ∧ (∀ f, RelO (fs.lookup f) (mA f)) ∧ PySem.Within mA (fs.map (·.1)) ∧ fs.length ≤ 1000 ∧ H dx = some (.own a) := by
  obtain ⟨d, z, ne, ob, mA, n, r, q⟩ := (show ObjOk P w H h a (.ins C dx fs) from hok a _ e)
  exact ⟨mA, ⟨ob, n, ne⟩, r, q, z, d⟩
end
structure Cls (K : PySem.W.Frag) (C : Addr) : Prop where
  pg : PySem.W.plainGet K C Str.empty = true
  hd : PySem.W.hasDictIn K C = true
  po : PySem.W.plainOver K C = true
  sa : PySem.W.findIn K (.ref C) "__setattr__" = some (some (.builtin "object.__setattr__"))
theorem Cls.get {K : PySem.W.Frag} {C : Addr} (c : Cls K C) (f : Str) : PySem.W.plainGet K C f = true := c.pg
section
variable {X : Cx} {pins : List (Addr × Obj)} {σ : St} {H : Hp} {s : Shared} {a C dx : Addr} {fs : List (Str × V)} {f : Str} {v : V} {A : Around} {E : Value → Shared → Prop}
end
section
variable {X : Cx} {o e value : Expr} {f : Str} {pos pos' tpos : Pos} {ta tv : TE}
end
section
variable {X : Cx} {pins : List (Addr × Obj)} {σ : St} {H : Hp} {s : Shared} {A : Around} {E : Value → Shared → Prop} {Q : Value → Shared → Prop} {c : Value} {b : Bool}
inductive TyOf (K : PySem.W.Frag) (H : Hp) : V → Value → Prop where
  | non : TyOf K H .non (.type "NoneType")
  | bl (x : Bool) : TyOf K H (.bl x) (.type "bool")
  | int (i : Int) : TyOf K H (.int i) (.type "int")
  | str (x : Str) : TyOf K H (.str x) (.type "str")
  | flt (x : UInt64) : TyOf K H (.flt x) (.type "float")
  | lst {a : Addr} {xs : List V} (e : H a = some (.lst xs)) : TyOf K H (.ref a) (.type "list")
  | frz {a : Addr} {o : Obj} {xs : List V} (e : H a = some (.frz o (.lst xs))) : TyOf K H (.ref a) (.type "list")
  | tup {a : Addr} {xs : List V} (e : H a = some (.tup xs)) : TyOf K H (.ref a) (.type "tuple")
  | dK {a : Addr} {kvs : List (Key × V)} (e : H a = some (.dK kvs)) : TyOf K H (.ref a) (.type "dict")
  | dT {a : Addr} {kvs : List (List Key × V)} (e : H a = some (.dT kvs)) : TyOf K H (.ref a) (.type "dict")
  | ins {a C dx : Addr} {fs : List (Str × V)} (e : H a = some (.ins C dx fs)) (cl : Cls K C) (ha : PySem.W.findIn K (.ref C) "__class__" = some (some (.builtin "object.__class__")))
      (hn : PySem.W.specialIn K (.builtin "object.__class__") "__get__" = some (some (.builtin "getset_descriptor.__get__"))) (htk : PySem.W.takesIn K (.builtin "object.__class__") = some true)
      (hm : PySem.W.mroIn K C (.type "object") = some true) : TyOf K H (.ref a) (.ref C)
theorem isinst_ok {x : V} {u t : Value} (I : Inv X pins σ H s) (rx : RelV x u) (ty : TyOf X.K H x t) (e : PySem.W.kitOne X.K t c = some b) (h : ∀ tk, Q (.bool b) { s with toks := tk }) :
    wpAny (model X.prog X.w) A (call (.builtin "isinstance") [u, c]) Q E s := by
  cases ty with
  | non => cases (show u = Value.none from rx); exact PySem.W.kia_one PySem.W.kitx_none I.kIn True.intro e (fun z => nomatch z) h
  | bl y => cases (show u = Value.bool y from rx); exact PySem.W.kia_one PySem.W.kitx_bool I.kIn True.intro e (fun z => nomatch z) h
  | int i => obtain ⟨t, q⟩ := (show ∃ t, u = Value.int i t from rx); cases q; exact PySem.W.kia_one PySem.W.kitx_int I.kIn True.intro e (fun z => nomatch z) h
  | str y => obtain ⟨t, q⟩ := (show ∃ t, u = Value.str y t from rx); cases q; exact PySem.W.kia_one PySem.W.kitx_str I.kIn True.intro e (fun z => nomatch z) h
  | flt y => obtain ⟨t, q⟩ := (show ∃ t, u = Value.float y t from rx); cases q; exact PySem.W.kia_one PySem.W.kitx_float I.kIn True.intro e (fun z => nomatch z) h
  | @lst a xs ea =>
    cases (show u = Value.ref a from rx)
    obtain ⟨_, _, n, _, h1⟩ := (show ObjOk X.prog X.w H s.heap a (.lst xs) from I.hok a _ ea)
    exact PySem.W.kia_one PySem.W.kitx_list I.kIn ⟨_, h1, rfl⟩ e (fun z => nomatch z) h
  | @frz a ob xs ea =>
    cases (show u = Value.ref a from rx)
    obtain ⟨_, _, _, n, _, h1⟩ := (show ObjOk X.prog X.w H s.heap a (.frz ob (.lst xs)) from I.hok a _ ea)
    exact PySem.W.kia_one PySem.W.kitx_list I.kIn ⟨_, h1, rfl⟩ e (fun z => nomatch z) h
  | @tup a xs ea =>
    cases (show u = Value.ref a from rx)
    obtain ⟨_, _, _, p⟩ := (show ObjOk X.prog X.w H s.heap a (.tup xs) from I.hok a _ ea)
    obtain ⟨o, h1, h2, _⟩ := p
    exact PySem.W.kia_one PySem.W.kitx_tuple I.kIn ⟨o, h1, h2⟩ e (fun z => nomatch z) h
  | @dK a kvs ea =>
    cases (show u = Value.ref a from rx)
    obtain ⟨_, _, vs, _, p⟩ := (show ObjOk X.prog X.w H s.heap a (.dK kvs) from I.hok a _ ea)
    obtain ⟨o, es, ep, h1, h2, _⟩ := p
    exact PySem.W.kia_one PySem.W.kitx_dict I.kIn ⟨o, h1, h2.1⟩ e (fun z => nomatch z) h
  | @dT a kvs ea =>
    cases (show u = Value.ref a from rx)
    obtain ⟨_, _, xs, _, o, es, ep, h1, h2, _⟩ := (show ObjOk X.prog X.w H s.heap a (.dT kvs) from I.hok a _ ea)
    exact PySem.W.kia_one PySem.W.kitx_dict I.kIn ⟨o, h1, h2.1⟩ e (fun z => nomatch z) h
  | @ins a C dx fs ea cl ha hn htk hm =>
    cases (show u = Value.ref a from rx)
    obtain ⟨mA, O, _⟩ := ins_get I.hok ea
    obtain ⟨od, J, _⟩ := O.look
    exact PySem.W.kia_one (PySem.W.kitx_own (cl.get _) cl.hd ha hn htk hm) I.kIn J e (fun z => nomatch z) h
end
end L2
namespace L2
open PySem PySem.Spec PyProof.Rows
structure Room (k : Nat) (A : Around) : Prop where
  hd : A.handled = none
  dp : A.depth + 3 * k + 5 < recursionLimit
  un : A.units + 16 * k + 200 < cLine
theorem Room.mono {j k : Nat} {A : Around} (r : Room k A) (h : j ≤ k) : Room j A := ⟨r.hd, by have := r.dp; omega, by have := r.un; omega⟩
theorem Room.deeper {k : Nat} {A : Around} (r : Room (k + 1) A) (env : Env) : Room k (A.deeper env) :=
  ⟨r.hd, by have := r.dp; show A.depth + 1 + 3 * k + 5 < _; omega, by have := r.un; show A.units + 3 + 16 * k + 200 < _; omega⟩
theorem Room.depth {k : Nat} {A : Around} (r : Room k A) : A.depth < recursionLimit := by have := r.dp; omega
theorem Room.units {k : Nat} {A : Around} (r : Room k A) : A.units + 64 < cLine := by have := r.un; omega
noncomputable def tNil : TA := fun _ H Q => Q [] H
noncomputable def tCons (ta : TE) (tr : TA) : TA := fun σ H Q => ta σ H fun x H1 => tr σ H1 fun xs H2 => Q (x :: xs) H2
section
variable {X : Cx} {e : Expr} {es : List Expr} {te : TE} {t : TA} {pos : Pos}
theorem pa_nil : PA X [] tNil := fun _ _ _ _ H Q I h => Calls.spliced_nil ⟨[], H, I, .nil, h⟩
theorem pa_cons (ha : PE X e te) (hr : PA X es t) (hs : starEach (e :: es) X.env = (false, eval e X.env) :: starEach es X.env := by rfl) : PA X (e :: es) (tCons te t) := by
  intro pos pins s σ H Q I h
  rw [hs]
  show wpAny _ _ (spliced ((false, eval e X.env) :: backTo pos (starEach es X.env))) _ _ s
  refine Calls.spliced_cons (thn (ha pins s σ H _ I h) fun u s1 zr1623 => ?_)
  obtain ⟨x, H1, I1, r1, q1⟩ := zr1623
  exact thn (hr pos pins s1 σ H1 _ I1 q1) fun us s2 zq6 => by obtain ⟨xs, H2, I2, r2, q2⟩ := zq6; exact (⟨x :: xs, H2, I2, .cons r1 r2, q2⟩)
noncomputable def tTup (t : TA) : TE := fun σ H Q => t σ H fun xs H1 => xs.length ≤ sizeLine ∧ ∀ p, H1 p = none → Q (.ref p) (upd H1 p (.tup xs))
noncomputable def tLst (t : TA) : TE := fun σ H Q => t σ H fun xs H1 => xs.length ≤ sizeLine ∧ ∀ p, H1 p = none → Q (.ref p) (upd H1 p (.lst xs))
theorem pe_tup {x1} (h : PA X es t) : PE X (.Tuple es x1 pos) (tTup t) := by
  intro pins s σ H Q I hq
  refine wpAny_Tuple_spliced (thn (h pos pins s σ H _ I hq) fun us s1 ⟨xs, H1, I1, r, z, q⟩ => ⟨by rw [← r.length]; exact z, ?_⟩)
  have hf : H1 s1.heap.objs.size = none := I1.hok.fresh (Nat.le_refl _)
  refine ⟨.ref s1.heap.objs.size, upd H1 s1.heap.objs.size (.tup xs), I1.laid (t' := s1.toks) (fun b u e => Heap.get?_push_of_some _ e) (Nat.le_refl _) ?_, rfl, q _ hf⟩
  exact ⟨z, us, r, ⟨_, Heap.get?_push_size _ rfl, rfl, _, rfl⟩⟩
theorem pe_lst (h : PA X es t) : PE X (.List es pos) (tLst t) := by
  intro pins s σ H Q I hq
  refine wpAny_List_spliced (thn (h pos pins s σ H _ I hq) fun us s1 ⟨xs, H1, I1, r, z, q⟩ => ⟨by rw [← r.length]; exact z, ?_⟩)
  have hf : H1 s1.heap.objs.size = none := I1.hok.fresh (Nat.le_refl _)
  refine ⟨.ref s1.heap.objs.size, upd H1 s1.heap.objs.size (.lst xs), I1.laid (t' := s1.toks) (fun b u e => Heap.get?_push_of_some _ e) (Nat.le_refl _) ?_, rfl, q _ hf⟩
  exact ⟨z, us, 0, r, Heap.get?_push_size _ rfl⟩
end
noncomputable abbrev Sp := List V → Hp → VK → XK → Prop
noncomputable abbrev CXT := List Env → Hp → Shared → XK → Value → Shared → Prop
structure Env0 (P : Program) (w : World) (K : PySem.W.Frag) (mg : Str → Option Value) (base : Heap) (A : Around) (outer : List Env) (s : Shared) (H : Hp) : Prop where
  frames : A.frames = some outer
  mod : Mod K mg base
  bs : ∀ b o, base.get? b = some o → s.heap.get? b = some o ∧ H b = none
  bsz : base.objs.size ≤ s.heap.objs.size
  funs : s.heap.FunFrames base outer
  frf : ∀ b ∈ frs outer, H b = none
  hok : HOk P w H s.heap
  bare : AllBare s.gens
noncomputable def CE (outer : List Env) (P : Program) (w : World) (H : Hp) (s : Shared) (Q : VK) (u : Value) (s' : Shared) : Prop :=
  ∃ v H', s'.os = s.os ∧ AllBare s'.gens ∧ Un (frs outer) [] H H' s.heap s'.heap ∧ HOk P w H' s'.heap ∧ RelV v u ∧ Q v H'
noncomputable def CR (CX : CXT) (outer : List Env) (P : Program) (w : World) (H : Hp) (s : Shared) (Q : VK) (E : XK) (r : Result) (s' : Shared) : Prop :=
  match r with
  | .ok (.ret u) => CE outer P w H s Q u s'
  | .ok _ => False
  | .error e => CX outer H s E e s'
structure FnOk (P : Program) (w : World) (K : PySem.W.Frag) (mg : Str → Option Value) (base : Heap) (CX : CXT) (k : Nat) (f : Addr) (fd : FuncData) (ps : List Str) (sp : Sp) : Prop where
  len : ∀ vs H Q E, sp vs H Q E → vs.length = ps.length
  run : ∀ (A : Around) (outer : List Env) (s : Shared) (H : Hp) (args : Args) (us : List Value) (vs : List V) (Q : VK) (E : XK), Room k A → Env0 P w K mg base A outer s H → BindsTo s fd args (ps.zip us) → Vals vs us → sp vs H Q E →
    codeAny (model P w) A (.call (.ref f) args) (CR CX outer P w H s Q E) s
theorem FnOk.mono {P : Program} {w : World} {K : PySem.W.Frag} {mg : Str → Option Value} {base : Heap} {CX : CXT} {j k : Nat} {f : Addr} {fd : FuncData} {ps : List Str} {sp : Sp} (F : FnOk P w K mg base CX j f fd ps sp) (h : j ≤ k) :
    FnOk P w K mg base CX k f fd ps sp := ⟨F.len, fun A outer s H args us vs Q E hr => F.run A outer s H args us vs Q E (hr.mono h)⟩
section
variable {X : Cx} {pins : List (Addr × Obj)} {σ : St} {H : Hp} {s s' : Shared}
theorem Inv.env0 (I : Inv X pins σ H s) : Env0 X.prog X.w X.K X.mg X.base X.A X.stack s H :=
  ⟨I.ok.frames, I.ok.mod, I.bs, Nat.le_trans I.ok.bsz I.sz, I.stack, I.stkFree, I.hok, I.bare⟩
theorem Inv.after {Q : VK} {u : Value} (I : Inv X pins σ H s) (h : CE X.stack X.prog X.w H s Q u s') : EP X pins σ Q u s' := by
  obtain ⟨v, H', os, bare, un, hok, r, q⟩ := h
  obtain ⟨hh, g, d, t, os'⟩ := s'
  obtain rfl : os' = s.os := os
  exact ⟨v, H', I.call (h' := hh) (g' := g) (d' := d) (t' := t) (ch := []) un hok bare (fun b z => absurd z (by simp)), r, q⟩
end
noncomputable def tCall (sp : Sp) (dvs : List V) (E : XK) (t : TA) : TE := fun σ H Q => t σ H fun vs H1 => sp (vs ++ dvs) H1 Q E
noncomputable def Binds (K : PySem.W.Frag) (fd : FuncData) (ps : List Str) (ds : List Value) : Prop :=
  ∀ (s : Shared) (us : List Value), K.In s.heap → (us ++ ds).length = ps.length → BindsTo s fd ⟨us, []⟩ (ps.zip (us ++ ds))
theorem Binds.all {K : PySem.W.Frag} {fd : FuncData} {ps : List Str} (h : ∀ us : List Value, us.length = ps.length → bindArgs fd ⟨us, []⟩ = pure (ps.zip us)) : Binds K fd ps [] := fun s us _ hl => by
  rw [List.append_nil] at hl ⊢
  exact .of_eq (h us hl)
noncomputable def Passes (CX : CXT) (X : Cx) (E : XK) : Prop := ∀ (pins : List (Addr × Obj)) (σ : St) (H : Hp) (s : Shared) (e : Value) (s' : Shared), Inv X pins σ H s → CX X.stack H s E e s' → X.xe e s'
section
variable {X : Cx} {CX : CXT} {k : Nat} {f C : Addr} {fd : FuncData} {ps : List Str} {sp : Sp} {dvs : List V} {ds : List Value} {E : XK} {x m : Str} {p pos apos : Pos} {e o : Expr} {es : List Expr} {ta : TE} {t : TA}
theorem run_fn {pins : List (Addr × Obj)} {σ : St} {H : Hp} {s : Shared} {Q : VK} {us : List Value} {vs : List V} (F : FnOk X.prog X.w X.K X.mg X.base CX k f fd ps sp) (hr : Room k X.A) (hb : Binds X.K fd ps ds) (hd : Vals dvs ds) (hx : Passes CX X E)
    (I : Inv X pins σ H s) (r : Vals vs us) (h : sp (vs ++ dvs) H Q E) : wpAny (model X.prog X.w) X.A (call (.ref f) us) (EP X pins σ Q) X.xe s := by
  have r2 : Vals (vs ++ dvs) (us ++ ds) := r.append hd
  have hl : (us ++ ds).length = ps.length := by rw [← r2.length]; exact F.len _ _ _ _ h
  refine wpAny_call (codeAny_mono (F.run X.A X.stack s H ⟨us, []⟩ (us ++ ds) (vs ++ dvs) Q E hr I.env0 (hb s us I.kIn hl) r2 h) fun r s' hq => ?_)
  cases r with
  | error e => exact hx pins σ H s e s' I hq
  | ok fl =>
    cases fl with
    | ret u => exact I.after hq
    | next => exact False.elim hq
    | brk => exact False.elim hq
    | cont => exact False.elim hq
theorem pe_call (F : FnOk X.prog X.w X.K X.mg X.base CX k f fd ps sp) (hr : Room k X.A) (hg : Gl X x) (hm : X.mg x = some (.ref f)) (hk : PySem.W.keepIn X.K (.ref f) = true) (hb : Binds X.K fd ps ds) (hd : Vals dvs ds) (hx : Passes CX X E)
    (ha : PA X (e :: es) t) (hdb : (x == ("__debug__" : Str)) = false := by decide) (he : starEach (e :: es) X.env = (false, eval e X.env) :: starEach es X.env := by rfl) (hpl : (backTo pos (starEach es X.env)).any (·.1) = false := by rfl) :
    PE X (.Call (.Name x p) (e :: es) [] pos) (tCall sp dvs E t) := by
  intro pins s σ H Q I h
  refine wpAny_Call_Name_kw (ld_glob I hg hm ?_ hdb)
  refine PySem.W.callWith_K (h₀ := X.base) I.ok.mod.kin hk (thn (ha pos pins s σ H _ I h) fun us s1 ⟨vs, H1, I1, r, q⟩ => ⟨I1.kIn, ?_⟩) he hpl
  exact run_fn F hr hb hd hx I1 r q
end
section
variable {X : Cx} {CX : CXT} {k : Nat} {f C : Addr} {fd : FuncData} {ps ks : List Str} {sp : Sp} {E : XK} {x m : Str} {p pos apos kpos : Pos} {e o : Expr} {es : List Expr} {kws : List Keyword} {te ta : TE} {t tk : TA} {nm : Option Str}
variable {g : List Value → List Value → List Value} {gV : List V → List V → List V}
end
structure FnScope (N P : List Str) (sc : Scope) : Prop where
  kind : sc.kind = .function
  co : sc.isCoroutine = false
  gen : sc.isGenerator = false
  nd : N.Nodup
  pre : N.take P.length = P
  par : ∀ x ∈ P, sc.names.lookup x = some .local ∨ sc.names.lookup x = some .cell
  nofree : ∀ y ∈ sc.names, y.2 ≠ .free
theorem bindL_out {kindOf : Str → Option NameKind} {x : Str} : ∀ {binds : List (Str × Value)} {m : Str → Option Value}, (∀ v, (x, v) ∉ binds) → bindL kindOf binds m x = m x
  | [], _, _ => rfl
  | (n, v) :: r, m, h => by
    unfold bindL
    rw [bindL_out fun w hw => h w (List.mem_cons_of_mem _ hw)]
    split
    · have : x ≠ n := by rintro rfl; exact h v List.mem_cons_self
      simp [this]
    · rfl
theorem bindC_out {kindOf : Str → Option NameKind} {x : Str} : ∀ {binds : List (Str × Value)} {m : Str → Option Value}, (∀ v, (x, v) ∉ binds) → bindC kindOf binds m x = m x
  | [], _, _ => rfl
  | (n, v) :: r, m, h => by
    unfold bindC
    rw [bindC_out fun w hw => h w (List.mem_cons_of_mem _ hw)]
    split
    · rfl
    · have : x ≠ n := by rintro rfl; exact h v List.mem_cons_self
      simp [this]
theorem bindL_get {kindOf : Str → Option NameKind} {x : Str} {v : Value} : ∀ {P : List Str} {vs : List Value} {i : Nat} {m : Str → Option Value}, P.Nodup → P[i]? = some x → vs[i]? = some v → kindOf x = some .local →
    bindL kindOf (P.zip vs) m x = some v
  | [], _, _, _, _, h, _, _ => by simp at h
  | _ :: _, [], _, _, _, _, h, _ => by simp at h
  | p :: P, w :: vs, 0, m, nd, h1, h2, hk => by
    simp at h1 h2; subst h1; subst h2
    show bindL kindOf ((p, w) :: P.zip vs) m p = _
    unfold bindL
    rw [bindL_out fun v hv => (List.nodup_cons.mp nd).1 (List.of_mem_zip hv).1, if_pos hk]
    simp
  | p :: P, w :: vs, i + 1, m, nd, h1, h2, hk => by
    show bindL kindOf ((p, w) :: P.zip vs) m x = _
    unfold bindL
    exact bindL_get (i := i) (List.nodup_cons.mp nd).2 (by simpa using h1) (by simpa using h2) hk
theorem bindC_get {kindOf : Str → Option NameKind} {x : Str} {v : Value} : ∀ {P : List Str} {vs : List Value} {i : Nat} {m : Str → Option Value}, P.Nodup → P[i]? = some x → vs[i]? = some v → kindOf x ≠ some .local →
    bindC kindOf (P.zip vs) m x = some v
  | [], _, _, _, _, h, _, _ => by simp at h
  | _ :: _, [], _, _, _, _, h, _ => by simp at h
  | p :: P, w :: vs, 0, m, nd, h1, h2, hk => by
    simp at h1 h2; subst h1; subst h2
    show bindC kindOf ((p, w) :: P.zip vs) m p = _
    unfold bindC
    rw [bindC_out fun v hv => (List.nodup_cons.mp nd).1 (List.of_mem_zip hv).1, if_neg hk]
    simp
  | p :: P, w :: vs, i + 1, m, nd, h1, h2, hk => by
    show bindC kindOf ((p, w) :: P.zip vs) m x = _
    unfold bindC
    exact bindC_get (i := i) (List.nodup_cons.mp nd).2 (by simpa using h1) (by simpa using h2) hk
noncomputable def start (N : List Str) (vs : List V) : St := vs.map some ++ List.replicate (N.length - vs.length) none
noncomputable def cxOf (CX : CXT) (P : Program) (w : World) (K : PySem.W.Frag) (mg : Str → Option Value) (base : Heap) (N : List Str) (qual : Str) (scope : Scope) (f : Addr) (cd : Value) (A : Around) (outer : List Env) (s : Shared) (H : Hp) (E : XK) : Cx where
  prog := P
  w := w
  K := K
  mg := mg
  base := base
  A := A.deeper (envOfC qual scope s.heap.objs.size f cd)
  N := N
  s₀ := s
  H₀ := H
  env := envOfC qual scope s.heap.objs.size f cd
  outer := outer
  stack := envOfC qual scope s.heap.objs.size f cd :: outer
  ex := []
  calm := true
  fn := fun _ => true
  pn := []
  xe := fun e s' => wpAny (model P w) (A.deeper (envOfC qual scope s.heap.objs.size f cd)) (leaving (envOfC qual scope s.heap.objs.size f cd) e) (fun _ s'' => CX outer H s E e s'') (fun e' s'' => CX outer H s E e' s'') s'
theorem cell_has {sc : Scope} {n : Nat} {x : Str} (h : sc.names.lookup x = some .cell) : ∃ c, (cellsFrom n sc.names []).lookup x = some c := by
  have q := PySem.W.cellsFrom_some sc.names n [] (.inl h)
  exact Option.isSome_iff_exists.mp q
theorem inv_start {CX : CXT} {P : Program} {w : World} {K : PySem.W.Frag} {mg : Str → Option Value} {base : Heap} {N ps : List Str} {qual : Str} {scope : Scope} {f : Addr} {cd : Value} {A : Around} {outer : List Env} {s s1 : Shared} {H : Hp} {E : XK} {us : List Value} {vs : List V}
    (S : FnScope N ps scope) (hd : A.handled = none) (e0 : Env0 P w K mg base A outer s H) (hl : vs.length = ps.length) (r : Vals vs us)
    (x : InCallC s s.heap.objs.size (bindL (envOfC qual scope s.heap.objs.size f cd).kindOf (ps.zip us) fun _ => none) (cellsFrom (s.heap.objs.size + 1) scope.names []) (bindC (envOfC qual scope s.heap.objs.size f cd).kindOf (ps.zip us) fun _ => none) s1) :
    Inv (cxOf CX P w K mg base N qual scope f cd A outer s H E) [] (start N vs) H s1 := by
  have hpl : ps.length ≤ N.length := by have := congrArg List.length S.pre; rw [List.length_take] at this; omega
  obtain ⟨h1, tk, rfl, hk⟩ := x.done
  have noA : ∀ b : Addr, b ∉ (cxOf CX P w K mg base N qual scope f cd A outer s H E).ex := fun b z => absurd (show b ∈ ([] : List Addr) from z) (by simp)
  refine ⟨⟨e0.mod, S.kind, rfl, rfl, Nat.le_refl _, fun y z c h1 h2 => ?_, fun y hy => ?_, fun y c _ h => ?_, fun _ => hd, Around.frames_deeper e0.frames, .inr ⟨rfl, rfl⟩, fun b z => absurd z (noA b), e0.bs, e0.bsz, fun b _ _ => noA b, fun b z => absurd z (noA b), e0.funs, e0.frf⟩,
    rfl, e0.bare, Un.kept hk, ⟨_, x.toInCall.ns, fun i y v h1 h2 h3 => ?_⟩, fun y c h => ⟨_, x.cell y c h⟩, e0.hok.fresh (Nat.le_refl _), fun y c h => ?_, fun p hp => absurd (show p ∈ ([] : List (Addr × Obj)) from hp) (by simp), e0.hok.kept hk, ?_⟩
  · exact name_of_addr x.apart (PySem.mem_of_lookup h1) (PySem.mem_of_lookup h2)
  · have hy : scope.names.lookup y = some .cell ∨ scope.names.lookup y = some .free := hy
    rcases hy with hy | hy
    · exact cell_has hy
    · exact absurd rfl (S.nofree _ (PySem.mem_of_lookup hy))
  · exact Nat.le_of_lt (x.above y c (PySem.mem_of_lookup h))
  · have hi : i < vs.length := by
      unfold start at h2
      by_cases hi : i < vs.length
      · exact hi
      · rw [List.getElem?_append_right (by simpa using hi)] at h2
        rw [List.getElem?_replicate] at h2
        split at h2 <;> cases h2
    have ha : vs[i]? = some v := by
      unfold start at h2
      rw [List.getElem?_append_left (by simpa using hi), List.getElem?_map] at h2
      cases e : vs[i]? with
      | none => rw [e] at h2; cases h2
      | some a => rw [e] at h2; cases h2; rfl
    obtain ⟨u, hu, rv⟩ := r.get ha
    have hp : ps[i]? = some y := by
      rw [← S.pre, List.getElem?_take_of_lt (by omega)]; exact h1
    have ndP : ps.Nodup := by rw [← S.pre]; exact S.nd.sublist (List.take_sublist _ _)
    refine ⟨u, rv, ?_⟩
    rcases S.par y (List.mem_of_getElem? hp) with k | k
    · exact .inl ⟨k, bindL_get ndP hp hu k⟩
    · obtain ⟨c, e⟩ := cell_has (n := s.heap.objs.size + 1) k
      refine .inr ⟨.inl k, c, e, ?_⟩
      have q := x.cell y c e
      rw [bindC_get ndP hp hu (by show scope.names.lookup y ≠ _; rw [k]; decide)] at q
      exact q
  · exact e0.hok.fresh (Nat.le_of_lt (x.above y c (PySem.mem_of_lookup h)))
  · unfold start
    show _ = N.length
    rw [List.length_append, List.length_map, List.length_replicate]
    omega
theorem fn_of {CX : CXT} {P : Program} {w : World} {K : PySem.W.Frag} {mg : Str → Option Value} {base : Heap} {k : Nat} {f : Addr} {name qual : Str} {params : Arguments} {body : List Stmt} {scope : Scope} {dV kV doc pm cdv ct oc : Value} {an od : Option Addr}
    {osl : Array (Option Value)} {N ps : List Str} {sp : Sp} (lk : K.lookup f = some ⟨oc, od, .func (PySem.W.fnOf name qual params body scope dV kV doc pm an cdv ct), osl⟩) (hcd : PySem.W.codeIn K cdv qual = true) (S : FnScope N ps scope)
    (len : ∀ vs H Q E, sp vs H Q E → vs.length = ps.length)
    (hbody : ∀ (A : Around) (outer : List Env) (s : Shared) (H : Hp) (vs : List V) (Q : VK) (E : XK), Room k (A.deeper (envOfC qual scope s.heap.objs.size f cdv)) → sp vs H Q E →
      ∃ t, PSs (cxOf CX P w K mg base N qual scope f cdv A outer s H E) body t ∧ t { nx := fun _ H' => Q .non H', rt := Q } (start N vs) H) :
    FnOk P w K mg base CX (k + 1) f (PySem.W.fnOf name qual params body scope dV kV doc pm an cdv ct) ps sp := by
  refine ⟨len, fun A outer s H args us vs Q E hr e0 hb r hsp => ?_⟩
  have hl := len _ _ _ _ hsp
  have KX : K.In s.heap := e0.mod.kin.keeps fun b o e => (e0.bs b o e).1
  have lim : s.heap.NoLimit := e0.mod.nolimit.keeps fun b o e => (e0.bs b o e).1
  have hkind : ∀ y ∈ ps.zip us, scope.names.lookup y.1 = some .local ∨ (scope.names.lookup y.1 = some .cell ∧ ((cellsFrom (s.heap.objs.size + 1) scope.names []).lookup y.1).isSome = true) := fun ⟨n, v⟩ hy => by
    rcases S.par n (List.of_mem_zip hy).1 with q | q
    · exact .inl q
    · exact .inr ⟨q, PySem.W.cellsFrom_some _ _ _ (.inl q)⟩
  refine codeAny_call_function hr.depth (KX _ _ lk) rfl S.co S.gen rfl (PySem.W.codeRec_of KX hcd) (hb _ _ _ _ ?_)
  refine wpAny_newFunctionEnv_cells S.kind hkind fun env he s1 x => ?_
  subst he
  refine ⟨lim.keeps x.toInCall.keep, codeAny_func ?_⟩
  obtain ⟨t, ht, hq⟩ := hbody A outer s H vs Q E (hr.deeper _) hsp
  have I : Inv (cxOf CX P w K mg base N qual scope f cdv A outer s H E) [] (start N vs) H s1 := inv_start S hr.hd e0 hl r x
  refine wpAny_mono (ht [] s1 (start N vs) H _ I hq) (fun fl s' hs => ?_) fun e s' hs => hs
  have fin : ∀ {σ' : St} {H' : Hp} {v : V} {u : Value}, Inv (cxOf CX P w K mg base N qual scope f cdv A outer s H E) [] σ' H' s' → RelV v u → Q v H' → CE outer P w H s Q u s' :=
    fun {σ' H' v u} J rv q => ⟨v, H', J.os, J.bare, J.base, J.hok, rv, q⟩
  cases fl with
  | ret u =>
    obtain ⟨v, σ', H', J, rv, q⟩ := hs
    exact fin J rv q
  | next =>
    obtain ⟨σ', H', J, q⟩ := hs
    exact fin (v := V.non) (u := Value.none) J rfl q
  | brk =>
    obtain ⟨_, _, _, q⟩ := hs
    exact False.elim q
  | cont =>
    obtain ⟨_, _, _, q⟩ := hs
    exact False.elim q
end L2
namespace L2
open PySem PySem.Spec PyProof.Rows
section
variable {X : Cx} {x : Str} {p pos : Pos} {e : Expr} {es : List Expr} {t : TA} {id T : String} {r : List V → Hp → VK → Prop}
noncomputable def tCB (r : List V → Hp → VK → Prop) (t : TA) : TE := fun σ H Q => t σ H fun vs H1 => r vs H1 Q
theorem pe_callB (hc : CallR X (.builtin id) r) (hg : Gl X x) (hm : X.mg x = none) (hv : bootBuiltins x = some (.builtin id)) (ha : PA X (e :: es) t) (hn : x ≠ "__name__" := by decide) (hdb : (x == ("__debug__" : Str)) = false := by decide)
    (he : starEach (e :: es) X.env = (false, eval e X.env) :: starEach es X.env := by rfl) (hpl : (backTo pos (starEach es X.env)).any (·.1) = false := by rfl) : PE X (.Call (.Name x p) (e :: es) [] pos) (tCB r t) := by
  intro pins s σ H Q I h
  refine wpAny_Call_Name_kw (ld_blt I hg hm hv ?_ hn hdb)
  exact PyProof.Rows.callWith_builtin1 (thn (ha pos pins s σ H _ I h) fun us s1 zq7 => by obtain ⟨vs, H1, I1, r1, q1⟩ := zq7; exact (hc pins s1 σ H1 vs us Q I1 r1 q1)) he hpl
theorem pe_callTy (hc : CallR X (.type T) r) (hg : Gl X x) (hm : X.mg x = none) (hv : bootBuiltins x = some (.type T)) (ha : PA X (e :: es) t) (hn : x ≠ "__name__" := by decide) (hdb : (x == ("__debug__" : Str)) = false := by decide)
    (he : starEach (e :: es) X.env = (false, eval e X.env) :: starEach es X.env := by rfl) (hpl : (backTo pos (starEach es X.env)).any (·.1) = false := by rfl) : PE X (.Call (.Name x p) (e :: es) [] pos) (tCB r t) := by
  intro pins s σ H Q I h
  refine wpAny_Call_Name_kw (ld_blt I hg hm hv ?_ hn hdb)
  exact PyProof.Rows.callWith_type1 (thn (ha pos pins s σ H _ I h) fun us s1 zq8 => by obtain ⟨vs, H1, I1, r1, q1⟩ := zq8; exact (hc pins s1 σ H1 vs us Q I1 r1 q1)) he hpl
end
end L2
namespace HT
open PySem PyProof.Rows
section
open PySem.SeqAt
open PySem.AutoSeq1 (wpAny_loadPart')
open PySem.MeetsSeq PySem.MeetsSeq2 PySem.MeetsSeq3
end
section
variable {prog : Program} {w : World} {A : Around} {E : Value → Shared → Prop} {s : Shared}
theorem cat_tup {t b : Addr} {vs ws : List Value} {Q : Value → Shared → Prop} (ht : IsTup s.heap t vs.toArray) (hb : IsTup s.heap b ws.toArray) (hv : vs ≠ [])
    (h1 : ws = [] → Q (.ref t) s) (h2 : ws ≠ [] → Q (.ref s.heap.objs.size) { s with heap := s.heap.push { cls := .type "tuple", data := .seq (vs ++ ws).toArray } })
    (hsz : vs.length + ws.length ≤ sizeLine) : wpAny (model prog w) A (binaryOp .Add (.ref t) (.ref b)) Q E s := by
  obtain ⟨⟨cls, dd, data, sl⟩, ho, hc, n, hd⟩ := id ht
  obtain ⟨⟨cls2, dd2, data2, sl2⟩, ho2, hc2, n2, hd2⟩ := id hb
  simp only at hc hd hc2 hd2
  subst hc hd hc2 hd2
  have e : vs.toArray ++ ws.toArray = (vs ++ ws).toArray := by simp
  by_cases hw : ws = []
  · exact concat_meets ⟨_, ho, rfl⟩ ⟨_, ho2, rfl⟩ noFill_tuple_add seq_tuple_add PySem.F.slot_tuple_add PySem.F.entry_tuple_add (PySem.F.args_tuple_add_2 _ _)
      (tuple_addW1 t b vs.toArray ws.toArray n n2 dd dd2 sl sl2 (by simpa using hv) (by simp [hw])) ⟨ho, ho2, h1 hw⟩
  · refine concat_meets ⟨_, ho, rfl⟩ ⟨_, ho2, rfl⟩ noFill_tuple_add seq_tuple_add PySem.F.slot_tuple_add PySem.F.entry_tuple_add (PySem.F.args_tuple_add_2 _ _)
      (tuple_addW2 t b vs.toArray ws.toArray n n2 dd dd2 sl sl2 (by simpa using hv) (by simpa using hw) (by rw [List.size_toArray, List.size_toArray]; exact hsz)) ⟨ho, ho2, ?_⟩
    rw [e]
    exact h2 hw
noncomputable def sIx (n d : Nat) : Option Int → Nat
  | none => d
  | some v => if v < 0 then (v + (n : Int)).toNat else min v.toNat n
theorem sIx_none (n d : Nat) : sIx n d none = d := rfl
theorem sIx_nat (n d k : Nat) : sIx n d (some (k : Int)) = min k n := by
  show (if (k : Int) < 0 then ((k : Int) + (n : Int)).toNat else min (k : Int).toNat n) = min k n
  rw [if_neg (by omega), Int.toNat_natCast]
theorem sIx_le (n d : Nat) (hd : d ≤ n) (o : Option Int) : sIx n d o ≤ n := by
  cases o with
  | none => exact hd
  | some v =>
    show (if v < 0 then (v + (n : Int)).toNat else min v.toNat n) ≤ n
    by_cases hv : v < 0
    · rw [if_pos hv]; omega
    · rw [if_neg hv]; exact Nat.min_le_right _ _
theorem clip_eq (v : Int) (n d : Nat) : (if v < 0 then max (v + (n : Int)) 0 else min v (n : Int)) = ((sIx n d (some v) : Nat) : Int) := by
  show (if v < 0 then max (v + (n : Int)) 0 else min v (n : Int)) = (((if v < 0 then (v + (n : Int)).toNat else min v.toNat n) : Nat) : Int)
  by_cases hv : v < 0
  · simp only [if_pos hv]; omega
  · simp only [if_neg hv]; omega
theorem adjust_gen (lo hi : Option Int) (n : Nat) : Builtin.Slice.sliceAdjust lo hi 1 (n : Int) = (((sIx n 0 lo : Nat) : Int), ((sIx n n hi : Nat) : Int)) := by
  have h1 : ¬ ((1 : Int) < 0) := by omega
  unfold Builtin.Slice.sliceAdjust
  simp only [h1, if_false]
  refine Prod.ext ?_ ?_
  · cases lo with
    | none => rfl
    | some v => exact clip_eq v n 0
  · cases hi with
    | none => rfl
    | some v => exact clip_eq v n n
theorem places_gen (i j : Nat) : Builtin.Slice.slicePlaces (i : Int) (j : Int) 1 = j - i := by
  unfold Builtin.Slice.slicePlaces
  have h1 : (1 : Int) > 0 := by omega
  simp only [h1, if_true, Int.ediv_one]
  split <;> omega
theorem slicePart_ {v : Value} {o : Option Int} {Q : Option Int → Shared → Prop} (p : IsPart v o) (h : Q o s) : wpAny (model prog w) A (Builtin.Slice.slicePartIndex v) Q E s := by
  cases p with
  | none => exact slicePart_none h
  | int i t => exact slicePart_int h
theorem sliceApplied_gen {sl : Addr} {vl vu : Value} {lo hi : Option Int} {n : Nat} {Q : Int × Int × Nat → Shared → Prop} (hs : s.heap.IsSliceOf sl vl vu .none) (pl : IsPart vl lo) (pu : IsPart vu hi)
    (h : Q (((sIx n 0 lo : Nat) : Int), 1, sIx n n hi - sIx n 0 lo) s) : wpAny (model prog w) A (Builtin.Slice.sliceApplied (.ref sl) (pure (n : Int))) Q E s := by
  obtain ⟨os, hos, hcs, hds⟩ := id hs
  unfold Builtin.Slice.sliceApplied Builtin.Slice.sliceFields
  refine wpAny_bind (wpAny_bind (wpAny_field hos hds (x := vl) rfl (wpAny_bind (wpAny_field hos hds (x := vu) rfl (wpAny_bind (wpAny_field hos hds (x := .none) rfl (wpAny_pure ?_)))))))
  refine wpAny_bind (slicePart_none ?_)
  show wpAny _ _ (if ((1 : Int) == 0) = true then _ else _) _ _ s
  rw [if_neg (by decide)]
  refine wpAny_bind (slicePart_ pl (wpAny_bind (slicePart_ pu (wpAny_bind (wpAny_pure ?_)))))
  show wpAny _ _ (match Builtin.Slice.sliceAdjust lo hi 1 (n : Int) with | (lo, hi) => pure (lo, (1 : Int), Builtin.Slice.slicePlaces lo hi 1)) _ _ s
  rw [adjust_gen lo hi n]
  show wpAny _ _ (pure (((sIx n 0 lo : Nat) : Int), (1 : Int), Builtin.Slice.slicePlaces ((sIx n 0 lo : Nat) : Int) ((sIx n n hi : Nat) : Int) 1)) _ _ s
  rw [places_gen]
  exact wpAny_pure h
theorem pick_gen (xs : Array Value) (i k : Nat) : ((List.range k).filterMap fun (m : Nat) => xs[((i : Int) + (m : Int) * 1).toNat]?).toArray = ((xs.toList.drop i).take k).toArray := by
  have e : (fun (m : Nat) => xs[((i : Int) + (m : Int) * 1).toNat]?) = fun m => xs[i + m]? := by
    funext m
    have : ((i : Int) + (m : Int) * 1).toNat = i + m := by omega
    rw [this]
  rw [e]
  have := pick_run xs i k
  rw [List.filterMap_map] at this
  have e2 : ((fun x => xs[x]?) ∘ fun x => i + x) = fun m => xs[i + m]? := rfl
  rw [e2] at this
  rw [this]
theorem getItem_tuple_cut {t sl : Addr} {items : Array Value} {vl vu : Value} {lo hi : Option Int} {Q : Value → Shared → Prop} (ht : IsTup s.heap t items) (hs : s.heap.IsSliceOf sl vl vu .none) (pl : IsPart vl lo) (pu : IsPart vu hi)
    (hw : ¬ (sIx items.size 0 lo = 0 ∧ sIx items.size items.size hi = items.size))
    (h : Q (.ref s.heap.objs.size) { s with heap := s.heap.push { cls := .type "tuple", data := .seq ((items.toList.drop (sIx items.size 0 lo)).take (sIx items.size items.size hi - sIx items.size 0 lo)).toArray } })
    (hsz : items.size ≤ sizeLine) : wpAny (model prog w) A (getItem (.ref t) (.ref sl)) Q E s := by
  have htake : sizeOk (.seq ((items.toList.drop (sIx items.size 0 lo)).take (sIx items.size items.size hi - sIx items.size 0 lo)).toArray) := by
    show ((items.toList.drop (sIx items.size 0 lo)).take (sIx items.size items.size hi - sIx items.size 0 lo)).toArray.size ≤ sizeLine
    rw [List.size_toArray, List.length_take, List.length_drop, Array.length_toList]
    omega
  have hj : sIx items.size items.size hi ≤ items.size := sIx_le _ _ (Nat.le_refl _) hi
  obtain ⟨os, hos, hcs, hds⟩ := id hs
  have hTs : s.TypeIs (.ref sl) "slice" := ⟨os, hos, hcs⟩
  unfold getItem
  try with_reducible refine wpAny_holding ?_
  first | refine wpAny_bind (wpAny_pure ?_) | skip
  refine wpAny_bind (wpAny_sequenceKey ht.typeIs (by decide) ?_)
  refine wpAny_bind (wpAny_callSpecial?_slot (name := Str.ofString "__getitem__") ht.typeIs PyProof.Rows.slot_tuple_getitem
    (wpAny_call_entry PyProof.Rows.slot_tuple_getitem ht.typeIs entry_tuple_getitem ?_ (args_tuple_getitem _ _)))
  show wpAny _ _ (Builtin.Tuple.tupleItemsOf (.ref t) >>= _) _ _ s
  refine wpAny_bind (tupleItemsOf_ ht ?_)
  refine wpAny_bind (wpAny_typeOf hTs ?_)
  rw [if_pos (by decide)]
  refine wpAny_bind (sliceApplied_gen hs pl pu ?_)
  have hno : ¬ ((((sIx items.size 0 lo : Nat) : Int) == 0 && (1 : Int) == 1 && (sIx items.size items.size hi - sIx items.size 0 lo) == items.size) = true) := by
    intro q
    rw [Bool.and_eq_true, Bool.and_eq_true] at q
    have q1 : ((sIx items.size 0 lo : Nat) : Int) = 0 := eq_of_beq q.1.1
    have q2 : sIx items.size items.size hi - sIx items.size 0 lo = items.size := eq_of_beq q.2
    exact hw ⟨by omega, by omega⟩
  show wpAny _ _ (if (((sIx items.size 0 lo : Nat) : Int) == 0 && (1 : Int) == 1 && (sIx items.size items.size hi - sIx items.size 0 lo) == items.size) = true then _ else _) _ _ s
  rw [if_neg hno, pick_gen]
  first
    | exact wpAny_bind (m := Builtin.Tuple.tupleExact _) (wpAny_newObj_type (wpAny_pure ⟨_, rfl, wpAny_pure h⟩) htake)
    | exact wpAny_bind (m := Builtin.Tuple.tupleExact _) (wpAny_newObj_type (wpAny_bind (wpAny_pure (wpAny_pure ⟨_, rfl, wpAny_pure h⟩))) htake)
    | exact wpAny_bind (wpAny_bind (m := Builtin.Tuple.tupleExact _) (wpAny_newObj_type (wpAny_pure (wpAny_pure ⟨_, rfl, wpAny_pure h⟩)) htake))
    | exact wpAny_bind (wpAny_bind (m := Builtin.Tuple.tupleExact _) (wpAny_newObj_type (wpAny_pure ⟨_, rfl, wpAny_pure h⟩) htake))
end
end HT
namespace L2
open PySem PySem.Spec PyProof.Rows
noncomputable abbrev TO := St → Hp → (Option Int → Hp → Prop) → Prop
noncomputable def PO (X : Cx) (e : Option Expr) (t : TO) : Prop :=
  ∀ (pins : List (Addr × Obj)) (s : Shared) (σ : St) (H : Hp) (Q : Option Int → Hp → Prop), Inv X pins σ H s → t σ H Q →
    wpAny (model X.prog X.w) X.A (evalPart e X.env) (fun u s' => ∃ o H', Inv X pins σ H' s' ∧ IsPart u o ∧ Q o H') X.xe s
noncomputable def tNoPart : TO := fun _ H Q => Q none H
noncomputable def tPart (t : TE) : TO := fun σ H Q => t σ H fun x H1 => ∃ i, x = .int i ∧ Q (some i) H1
theorem intsAre_of {ns : List Int} : ∀ {us : List Value}, Vals (ns.map V.int) us → IntsAre us ns := by
  induction ns with
  | nil => intro us r; rw [List.map_nil] at r; cases r; exact .nil
  | cons n ns ih =>
    intro us r
    rw [List.map_cons] at r
    cases r with
    | cons r1 r2 =>
      obtain ⟨t, e⟩ := r1
      subst e
      exact .cons n t (ih r2)
section
variable {X : Cx} {e : Expr} {te : TE} {lo hi : Option Expr} {tl th : TO} {pos p2 : Pos}
theorem po_none : PO X none tNoPart := by
  intro pins s σ H Q I h
  rw [evalPart_none]
  exact wpAny_pure ⟨none, H, I, .none, h⟩
theorem po_some (h : PE X e te) : PO X (some e) (tPart te) := by
  intro pins s σ H Q I hw
  rw [evalPart_some]
  refine thn (h pins s σ H _ I hw) fun u s1 zr2037 => ?_
  obtain ⟨x, H1, I1, r1, q1⟩ := zr2037
  obtain ⟨i, rfl, q⟩ := q1
  obtain ⟨t, rfl⟩ := r1
  exact ⟨some i, H1, I1, .int i t, q⟩
noncomputable def SlR (X : Cx) (r : V → Option Int → Option Int → Hp → VK → Prop) : Prop :=
  ∀ (pins : List (Addr × Obj)) (s : Shared) (σ : St) (H : Hp) (x : V) (v vl vu : Value) (lo hi : Option Int) (sl : Addr) (Q : VK), Inv X pins σ H s → RelV x v → s.heap.IsSliceOf sl vl vu .none → IsPart vl lo → IsPart vu hi → r x lo hi H Q →
    ∃ T id, typeLookup (.type T) "__getitem__" = pure (some (.builtin id)) ∧ s.TypeIs v T ∧ wpAny (model X.prog X.w) X.A (getItem v (.ref sl)) (EP X pins σ Q) X.xe s
noncomputable def tSl (r : V → Option Int → Option Int → Hp → VK → Prop) (te : TE) (tl th : TO) : TE := fun σ H Q => te σ H fun x H1 => tl σ H1 fun l H2 => th σ H2 fun u H3 => r x l u H3 Q
theorem pe_slice {r : V → Option Int → Option Int → Hp → VK → Prop} (hr : SlR X r) (he : PE X e te) (hl : PO X lo tl) (hu : PO X hi th) : PE X (.Subscript e (.Slice lo hi none p2) pos) (tSl r te tl th) := by
  intro pins s σ H Q I h
  refine Subscript_ (thn (he pins s σ H _ I h) fun v s1 zr2047 => ?_)
  obtain ⟨x, H1, I1, r1, q1⟩ := zr2047
  refine wpAny_Slice (thn (hl pins s1 σ H1 _ I1 q1) fun vl s2 ⟨l, H2, I2, pl, q2⟩ => thn (hu pins s2 σ H2 _ I2 q2) fun vu s3 zr2048 => ?_)
  obtain ⟨u, H3, I3, pu, q3⟩ := zr2048
  rw [evalPart_none]
  refine wpAny_pure ?_
  have I4 : Inv X pins σ H3 { s3 with heap := s3.heap.push { cls := .type "slice", data := .fields #[vl, vu, .none] } } := I3.kept (t' := s3.toks) fun b ob q => Heap.get?_push_of_some _ q
  obtain ⟨T, id, hT, ht, hg⟩ := hr pins { s3 with heap := s3.heap.push { cls := .type "slice", data := .fields #[vl, vu, .none] } } σ H3 x v vl vu l u s3.heap.objs.size Q I4 r1 (Heap.IsSliceOf.new ..) pl pu q3
  show wpAny (model X.prog X.w) X.A (subscriptTail e (.Slice lo hi none p2) v (.ref s3.heap.objs.size)) (EP X pins σ Q) X.xe { s3 with heap := s3.heap.push { cls := .type "slice", data := .fields #[vl, vu, .none] } }
  exact tail_any (ops := [.ref s3.heap.objs.size, v]) ht hT hg (by with_unfolding_all rfl)
noncomputable def cutV (xs : List V) (lo hi : Option Int) : List V := (xs.drop (HT.sIx xs.length 0 lo)).take (HT.sIx xs.length xs.length hi - HT.sIx xs.length 0 lo)
theorem cutV_length (xs : List V) (lo hi : Option Int) : (cutV xs lo hi).length ≤ xs.length := by
  unfold cutV
  rw [List.length_take, List.length_drop]
  omega
noncomputable def rSlT (K : PySem.W.Frag) : V → Option Int → Option Int → Hp → VK → Prop := fun x lo hi H Q => ∃ a xs, x = .ref a ∧ SqT K H a xs ∧
  ¬ (HT.sIx xs.length 0 lo = 0 ∧ HT.sIx xs.length xs.length hi = xs.length) ∧ ∀ p, H p = none → Q (.ref p) (upd H p (.tup (cutV xs lo hi)))
theorem sl_tup : SlR X (rSlT X.K) := by
  intro pins s σ H x v vl vu lo hi sl Q I rx hs pl pu h
  obtain ⟨a, xs, rfl, hx, hw, q⟩ := h
  cases rx
  obtain ⟨its, r, ht, hz⟩ := I.tuple hx
  have hlen : its.toArray.size = xs.length := by rw [List.size_toArray]; exact r.length.symm
  refine ⟨"tuple", _, PyProof.Rows.slot_tuple_getitem.lookup, ht.typeIs, ?_⟩
  refine HT.getItem_tuple_cut ht hs pl pu (by rw [hlen]; exact hw) ?_ (by rw [hlen]; exact hz)
  rw [hlen]
  refine ⟨.ref s.heap.objs.size, _, I.laid (t' := s.toks) (o := .tup (cutV xs lo hi)) (fun b ob q => Heap.get?_push_of_some _ q) (Nat.le_refl _) ?_, rfl, q _ (I.hok.fresh (Nat.le_refl _))⟩
  exact ⟨Nat.le_trans (cutV_length xs lo hi) hz, _, (r.drop (HT.sIx xs.length 0 lo)).take (HT.sIx xs.length xs.length hi - HT.sIx xs.length 0 lo), IsTup.new _ _⟩
noncomputable def rCatT (K : PySem.W.Frag) : R2 := fun x y H Q => ∃ a b xs ys, x = .ref a ∧ y = .ref b ∧ SqT K H a xs ∧ SqT K H b ys ∧ xs ≠ [] ∧ xs.length + ys.length ≤ sizeLine ∧
  (ys = [] → Q (.ref a) H) ∧ (ys ≠ [] → ∀ p, H p = none → Q (.ref p) (upd H p (.tup (xs ++ ys))))
theorem Vals.nil_iff {xs : List V} {us : List Value} (r : Vals xs us) : us = [] ↔ xs = [] := by
  cases r with
  | nil => simp
  | cons _ _ => simp
theorem op_catT : OpR X (binaryOp .Add) (rCatT X.K) := by
  intro pins s σ H x y v u Q I rx ry h
  obtain ⟨a, b, xs, ys, rfl, rfl, ha, hb, hx, hz, q1, q2⟩ := h
  cases rx
  cases ry
  obtain ⟨its, r1, p1, _⟩ := I.tuple ha
  obtain ⟨its2, r2, p2, _⟩ := I.tuple hb
  refine HT.cat_tup p1 p2 (fun z => hx (r1.nil_iff.mp z)) (fun z => ⟨.ref a, H, I, rfl, q1 (r2.nil_iff.mp z)⟩) (fun z => ?_) (by rw [← r1.length, ← r2.length]; exact hz)
  refine ⟨.ref s.heap.objs.size, _, I.laid (t' := s.toks) (o := .tup (xs ++ ys)) (fun b ob q => Heap.get?_push_of_some _ q) (Nat.le_refl _) ?_, rfl, q2 (fun w => z (r2.nil_iff.mpr w)) _ (I.hok.fresh (Nat.le_refl _))⟩
  exact ⟨by rw [List.length_append]; exact hz, _, r1.append r2, IsTup.new _ _⟩
end
end L2
namespace L2
open PySem PySem.Spec PyProof.Rows
noncomputable def ixN (n : Nat) (i : Int) : Option Nat := if 0 ≤ i then (if i < n then some i.toNat else none) else if -(n : Int) ≤ i then some (i + n).toNat else none
noncomputable def atI {α : Type} (xs : List α) (i : Int) : Option α := (ixN xs.length i).bind fun j => xs[j]?
theorem ixN_seq {n : Nat} {i : Int} {j : Nat} (h : ixN n i = some j) : seqIndex? i n = some j ∧ j < n ∧ -(n : Int) ≤ i ∧ i < n := by
  unfold ixN at h
  by_cases h0 : 0 ≤ i
  · rw [if_pos h0] at h
    by_cases h1 : i < n
    · rw [if_pos h1] at h
      have e : i.toNat = j := Option.some.inj h
      exact ⟨by rw [seqIndex_of h0 h1, e], by omega, by omega, h1⟩
    · rw [if_neg h1] at h; cases h
  · rw [if_neg h0] at h
    by_cases h1 : -(n : Int) ≤ i
    · rw [if_pos h1] at h
      have e : (i + n).toNat = j := Option.some.inj h
      exact ⟨by rw [seqIndex_neg (by omega) h1, e], by omega, h1, by omega⟩
    · rw [if_neg h1] at h; cases h
theorem atI_get {α : Type} {xs : List α} {i : Int} {v : α} (h : atI xs i = some v) : ∃ j, seqIndex? i xs.length = some j ∧ xs[j]? = some v ∧ j < xs.length ∧ -(xs.length : Int) ≤ i ∧ i < xs.length := by
  unfold atI at h
  cases e : ixN xs.length i with
  | none => rw [e] at h; cases h
  | some j =>
    rw [e] at h
    obtain ⟨h1, h2, h3, h4⟩ := ixN_seq e
    exact ⟨j, h1, h, h2, h3, h4⟩
theorem atI_nat {α : Type} {xs : List α} {j : Nat} {v : α} (h : xs[j]? = some v) : atI xs (j : Int) = some v := by
  have hj : j < xs.length := (List.getElem?_eq_some_iff.mp h).1
  have e : ixN xs.length (j : Int) = some j := by
    unfold ixN
    rw [if_pos (by omega), if_pos (by omega)]; simp
  unfold atI; rw [e]; exact h
theorem atI_last {α : Type} (xs : List α) (v : α) : atI (xs ++ [v]) (-1) = some v := by
  have hl : (xs ++ [v]).length = xs.length + 1 := by simp
  have e : ixN (xs ++ [v]).length (-1) = some xs.length := by
    unfold ixN
    rw [hl, if_neg (by decide), if_pos (by omega)]
    congr 1
    omega
  unfold atI
  rw [e]
  show (xs ++ [v])[xs.length]? = some v
  simp
noncomputable def PlainIx (b : Expr) : Prop := ∀ o i, subscripted b false o i = operate [o, i] (getItem o i)
noncomputable def IxR (X : Cx) (r : R2) : Prop :=
  ∀ (value slice : Expr) (pins : List (Addr × Obj)) (s : Shared) (σ : St) (H : Hp) (x y : V) (v u : Value) (Q : VK), Inv X pins σ H s → RelV x v → RelV y u → r x y H Q →
    subscripted slice false v u = operate [v, u] (getItem v u) → wpAny (model X.prog X.w) X.A (subscriptTail value slice v u) (EP X pins σ Q) X.xe s
noncomputable def MtR (X : Cx) (id : String) (r : V → List V → Hp → VK → Prop) : Prop :=
  ∀ (pins : List (Addr × Obj)) (s : Shared) (σ : St) (H : Hp) (x : V) (xs : List V) (v : Value) (us : List Value) (Q : VK), Inv X pins σ H s → RelV x v → Vals xs us → r x xs H Q →
    wpAny (model X.prog X.w) X.A (call (.builtin id) (v :: us)) (EP X pins σ Q) X.xe s
section
variable {X : Cx} {a b : Expr} {ta tb : TE} {pos : Pos}
theorem pe_ix {r : R2} (hr : IxR X r) (ha : PE X a ta) (hb : PE X b tb) (hs : PlainIx b) : PE X (.Subscript a b pos) (tOp r ta tb) := by
  intro pins s σ H Q I h
  exact Subscript_ (binT ha hb I h fun v u s2 x y H2 I2 rx ry q => hr a b pins s2 σ H2 x y v u Q I2 rx ry q (hs _ _))
noncomputable def rIxL (K : PySem.W.Frag) : R2 := fun x y H Q => ∃ p xs i v, x = .ref p ∧ y = .int i ∧ SqL K H p xs ∧ atI xs i = some v ∧ Q v H
noncomputable def rIxT (K : PySem.W.Frag) : R2 := fun x y H Q => ∃ p xs i v, x = .ref p ∧ y = .int i ∧ SqT K H p xs ∧ atI xs i = some v ∧ Q v H
noncomputable def rIxS : R2 := fun x y H Q => ∃ z i c, x = .str z ∧ y = .int i ∧ z.length ≤ sizeLine ∧ atI z.cps.toList i = some c ∧ Q (.str ⟨#[c]⟩) H
theorem ix_list : IxR X (rIxL X.K) := by
  intro value slice pins s σ H x y v u Q I rx ry h hs
  obtain ⟨p, xs, i, z, rfl, rfl, hq, he, q⟩ := h
  cases rx
  obtain ⟨t, rfl⟩ := ry
  obtain ⟨its, r, pl, hz⟩ := I.list hq
  obtain ⟨j, h1, h2, h3, h4, h5⟩ := atI_get he
  obtain ⟨w, ew, rw'⟩ := r.get h2
  have hl := r.length
  have hn := line63
  have fin : EP X pins σ Q w s := ⟨z, H, I, rw', q⟩
  by_cases h0 : 0 ≤ i
  · have hj : i.toNat = j := by
      rw [seqIndex_of h0 h5] at h1
      exact Option.some.inj h1
    exact item_listR pl.isList h0 (by omega) (by rw [hj]; simpa using ew) fin hs
  · have hj : (i + (its.toArray.size : Int)).toNat = j := by
      rw [seqIndex_neg (by omega) h4] at h1
      rw [List.size_toArray, ← hl]
      exact Option.some.inj h1
    exact subscriptTail_builtinR (x := w) pl.isList.typeIs slot_list_getitem.lookup
      (wpAny_getItem_list_neg (Q := fun r s' => r = w ∧ EP X pins σ Q r s') pl.isList (by omega) (by rw [List.size_toArray] <;> omega) (by omega) (by rw [hj]; simpa using ew) ⟨rfl, fin⟩) hs
theorem ix_tup : IxR X (rIxT X.K) := by
  intro value slice pins s σ H x y v u Q I rx ry h hs
  obtain ⟨p, xs, i, z, rfl, rfl, hq, he, q⟩ := h
  cases rx
  obtain ⟨t, rfl⟩ := ry
  obtain ⟨its, r, pl, hz⟩ := I.tuple hq
  obtain ⟨j, h1, h2, h3, h4, h5⟩ := atI_get he
  obtain ⟨w, ew, rw'⟩ := r.get h2
  have hl := r.length
  have hn := line63
  have fin : EP X pins σ Q w s := ⟨z, H, I, rw', q⟩
  exact subscriptTail_builtinR (x := w) pl.typeIs slot_tuple_getitem.lookup
    (getItem_tuple (j := j) (Q := fun r s' => r = w ∧ EP X pins σ Q r s') pl (by omega) (by omega) (by rw [List.size_toArray, ← hl]; exact h1) (by simpa using ew) ⟨rfl, fin⟩) hs
theorem ix_str : IxR X rIxS := by
  intro value slice pins s σ H x y v u Q I rx ry h hs
  obtain ⟨z, i, c, rfl, rfl, hz, he, q⟩ := h
  obtain ⟨t, rfl⟩ := rx
  obtain ⟨t', rfl⟩ := ry
  obtain ⟨j, h1, h2, h3, h4, h5⟩ := atI_get he
  have hl : z.cps.toList.length = z.length := by simp [Str.length]
  rw [hl] at h1 h4 h5
  have hn := line63
  exact tail_any (typeIs_str s z t) slot_str_getitem.lookup (getItem_str (c := c) (by
    have e1 : decide (i < -(2 ^ 63 : Int)) = false := decide_eq_false (by omega)
    have e2 : decide (i ≥ 2 ^ 63) = false := decide_eq_false (by omega)
    rw [e1, e2, Bool.or_false]) (by rw [h1]; simpa using h2) ⟨.str ⟨#[c]⟩, H, I.tok _, ⟨_, rfl⟩, q⟩) hs
theorem Inv.lst {pins : List (Addr × Obj)} {σ : St} {H : Hp} {s : Shared} {p : Addr} {xs : List V} (I : Inv X pins σ H s) (h : H p = some (.lst xs)) :
    ∃ (its : List Value) (n : Nat), Vals xs its ∧ s.heap.get? p = some { cls := .type "list", data := .seq its.toArray n } ∧ xs.length ≤ sizeLine := by
  obtain ⟨z, its, n, r, e⟩ := I.hok p _ h
  exact ⟨its, n, r, e, z⟩
theorem slice_bounds (lo hi : Option Int) (n : Nat) : (sliceBounds lo hi none n).1 = ((HT.sIx n 0 lo : Nat) : Int) ∧ (sliceBounds lo hi none n).2.1 = ((HT.sIx n n hi : Nat) : Int) ∧ (sliceBounds lo hi none n).2.2 = 1 := by
  refine ⟨?_, ?_, rfl⟩
  · cases lo with
    | none => simp [sliceBounds, HT.sIx]
    | some i =>
      simp only [sliceBounds, HT.sIx, Option.getD_none, show (1 : Int) > 0 by decide, if_true]
      by_cases h : i < 0
      · simp only [h, if_true] <;> omega
      · simp only [h, if_false] <;> omega
  · cases hi with
    | none => simp [sliceBounds, HT.sIx]
    | some i =>
      simp only [sliceBounds, HT.sIx, Option.getD_none, show (1 : Int) > 0 by decide, if_true]
      by_cases h : i < 0
      · simp only [h, if_true] <;> omega
      · simp only [h, if_false] <;> omega
theorem slicePick_cut (its : List Value) (lo hi : Option Int) : slicePick its.toArray lo hi none = ((its.drop (HT.sIx its.length 0 lo)).take (HT.sIx its.length its.length hi - HT.sIx its.length 0 lo)).toArray := by
  obtain ⟨h1, h2, h3⟩ := slice_bounds lo hi its.toArray.size
  unfold slicePick
  rw [h1, h2, h3]
  simp only [sliceRange_one, pick_run, List.size_toArray] <;> rfl
noncomputable def rSlL (K : PySem.W.Frag) : V → Option Int → Option Int → Hp → VK → Prop := fun x lo hi H Q => ∃ a xs, x = .ref a ∧ SqL K H a xs ∧ ∀ p, H p = none → Q (.ref p) (upd H p (.lst (cutV xs lo hi)))
theorem sl_list : SlR X (rSlL X.K) := by
  intro pins s σ H x v vl vu lo hi sl Q I rx hs pl pu h
  obtain ⟨a, xs, rfl, hx, q⟩ := h
  cases rx
  obtain ⟨its, r, ht, hz⟩ := I.list hx
  have hlen := r.length
  refine ⟨"list", _, slot_list_getitem.lookup, ht.isList.typeIs, ?_⟩
  refine wpAny_getItem_list_slice ht.isList hs pl pu .none (by simp) ?_ (by rw [List.size_toArray] <;> omega)
  rw [slicePick_cut, ← hlen]
  refine ⟨.ref s.heap.objs.size, _, I.laid (t' := s.toks) (o := .lst (cutV xs lo hi)) (fun b ob q => Heap.get?_push_of_some _ q) (Nat.le_refl _) ?_, rfl, q _ (I.hok.fresh (Nat.le_refl _))⟩
  exact ⟨Nat.le_trans (cutV_length xs lo hi) hz, _, 0, (r.drop (HT.sIx xs.length 0 lo)).take (HT.sIx xs.length xs.length hi - HT.sIx xs.length 0 lo), Heap.get?_push_size _ rfl⟩
noncomputable def flatV : V → Bool
  | .non => true
  | .bl _ => true
  | .int _ => true
  | .str _ => true
  | _ => false
noncomputable def eqV : V → V → Bool
  | .non, .non => true
  | .bl a, .bl b => a == b
  | .bl a, .int b => (if a then 1 else 0) == b
  | .int a, .bl b => a == (if b then 1 else 0)
  | .int a, .int b => a == b
  | .str a, .str b => a == b
  | _, _ => false
theorem eqAt_V {A : Around} {s : Shared} {y x : V} {u v : Value} (ry : RelV y u) (rx : RelV x v) (fy : flatV y = true) (fx : flatV x = true) : SeqAt.EqAt A s u v (eqV y x) := by
  cases y with
  | non =>
    cases ry
    cases x with
    | non => cases rx; exact SeqAt.EqAt.same _
    | bl b => cases rx; exact SeqAt.EqAt.none_bool b
    | int b => obtain ⟨t, rfl⟩ := rx; exact SeqAt.EqAt.none_int b t
    | str b => obtain ⟨t, rfl⟩ := rx; exact SeqAt.EqAt.none_str b t
    | _ => exact absurd (show false = true from fx) Bool.false_ne_true
  | bl a =>
    cases ry
    cases x with
    | non => cases rx; exact SeqAt.EqAt.bool_none a
    | bl b => cases rx; exact SeqAt.EqAt.bool_bool a b
    | int b => obtain ⟨t, rfl⟩ := rx; exact SeqAt.EqAt.bool_int a b t
    | str b => obtain ⟨t, rfl⟩ := rx; exact SeqAt.EqAt.bool_str a b t
    | _ => exact absurd (show false = true from fx) Bool.false_ne_true
  | int a =>
    obtain ⟨t', rfl⟩ := ry
    cases x with
    | non => cases rx; exact SeqAt.EqAt.int_none a t'
    | bl b => cases rx; exact SeqAt.EqAt.int_bool a t' b
    | int b => obtain ⟨t, rfl⟩ := rx; exact SeqAt.EqAt.int_int a t' b t
    | str b => obtain ⟨t, rfl⟩ := rx; exact SeqAt.EqAt.int_str a t' b t
    | _ => exact absurd (show false = true from fx) Bool.false_ne_true
  | str a =>
    obtain ⟨t', rfl⟩ := ry
    cases x with
    | non => cases rx; exact SeqAt.EqAt.str_none a t'
    | bl b => cases rx; exact SeqAt.EqAt.str_bool a t' b
    | int b => obtain ⟨t, rfl⟩ := rx; exact SeqAt.EqAt.str_int a t' b t
    | str b => obtain ⟨t, rfl⟩ := rx; exact SeqAt.EqAt.str_str a t' b t
    | _ => exact absurd (show false = true from fx) Bool.false_ne_true
  | _ => exact absurd (show false = true from fy) Bool.false_ne_true
noncomputable def eqU (x : V) (u : Value) : Bool := match u with
  | .none => eqV .non x
  | .bool b => eqV (.bl b) x
  | .int i _ => eqV (.int i) x
  | .str z _ => eqV (.str z) x
  | _ => false
theorem eqU_of {x y : V} {u : Value} (r : RelV y u) (f : flatV y = true) : eqU x u = eqV y x := by
  cases y with
  | non => cases r; rfl
  | bl b => cases r; rfl
  | int i => obtain ⟨t, rfl⟩ := r; rfl
  | str z => obtain ⟨t, rfl⟩ := r; rfl
  | _ => exact absurd (show false = true from f) Bool.false_ne_true
theorem any_eqU {x : V} : ∀ {xs : List V} {us : List Value}, Vals xs us → xs.all flatV = true → us.any (eqU x) = xs.any fun y => eqV y x
  | _, _, .nil, _ => rfl
  | y :: xs, u :: us, .cons r t, f => by
    rw [List.all_cons, Bool.and_eq_true] at f
    rw [List.any_cons, List.any_cons, eqU_of r f.1, any_eqU t f.2]
theorem mem_eqAt {A : Around} {s : Shared} {x : V} {v : Value} (rx : RelV x v) (fx : flatV x = true) : ∀ {xs : List V} {us : List Value}, Vals xs us → xs.all flatV = true → ∀ u ∈ us, SeqAt.EqAt A s u v (eqU x u)
  | _, _, .nil, _ => fun u hu => by cases hu
  | y :: xs, u :: us, .cons r t, f => fun u' hu => by
    rw [List.all_cons, Bool.and_eq_true] at f
    rcases List.mem_cons.mp hu with rfl | hu
    · rw [eqU_of r f.1]; exact eqAt_V r rx f.1 fx
    · exact mem_eqAt rx fx t f.2 u' hu
noncomputable def inV (x : V) (xs : List V) : Bool := xs.any fun y => eqV y x
noncomputable def rIn (K : PySem.W.Frag) (neg : Bool) : R2 := fun x y H Q => ∃ p xs, y = .ref p ∧ (SqL K H p xs ∨ SqT K H p xs) ∧ flatV x = true ∧ xs.all flatV = true ∧ Q (.bl (if neg then !inV x xs else inV x xs)) H
theorem op_in_seq : OpR X (compareOp .In) (rIn X.K false) := by
  intro pins s σ H x y v u Q I rx ry h
  obtain ⟨p, xs, rfl, hq, fx, fs, q⟩ := h
  cases ry
  rcases hq with hq | hq
  · obtain ⟨its, r, pl, hz⟩ := I.list hq
    refine SeqAt.in_listAt (eqU x) pl.isList (fun w hw => mem_eqAt rx fx r fs w (by simpa using hw)) ⟨.bl _, H, I, rfl, ?_⟩
    rw [show its.toArray.any (eqU x) = its.any (eqU x) by simp, any_eqU r fs]
    exact q
  · obtain ⟨its, r, pl, hz⟩ := I.tuple hq
    refine SeqAt.in_tupleAt (eqU x) pl (fun w hw => mem_eqAt rx fx r fs w (by simpa using hw)) ⟨.bl _, H, I, rfl, ?_⟩
    rw [show its.toArray.any (eqU x) = its.any (eqU x) by simp, any_eqU r fs]
    exact q
theorem call_len_seq : CallR X (.builtin "len") (fun xs H Q => ∃ p ys, xs = [.ref p] ∧ (SqL X.K H p ys ∨ SqT X.K H p ys) ∧ Q (.int ys.length) H) := by
  intro pins s σ H xs us Q I r h
  obtain ⟨p, ys, rfl, hq, q⟩ := h
  obtain ⟨u, rfl, rx⟩ := vals1 r
  cases rx
  have hn := line63
  rcases hq with hq | hq
  · obtain ⟨its, r', pl, hz⟩ := I.list hq
    have hlen := r'.length
    exact Calls.call_len_list pl.isList (by simp only [List.size_toArray] <;> omega) ⟨.int ys.length, H, I.tok _, ⟨s.toks + 1, by rw [List.size_toArray, hlen]⟩, q⟩
  · obtain ⟨its, r', pl, hz⟩ := I.tuple hq
    have hlen := r'.length
    exact len_tuple pl (by simp only [List.size_toArray] <;> omega) ⟨.int ys.length, H, I.tok _, ⟨s.toks + 1, by rw [List.size_toArray, hlen]⟩, q⟩
theorem call_len_str : CallR X (.builtin "len") (fun xs H Q => ∃ z, xs = [.str z] ∧ z.length ≤ sizeLine ∧ Q (.int z.length) H) := by
  intro pins s σ H xs us Q I r h
  obtain ⟨z, rfl, hz, q⟩ := h
  obtain ⟨u, rfl, t, rfl⟩ := vals1 r
  have hn := line63
  exact len_str (by omega) ⟨.int z.length, H, I.tok _, ⟨_, rfl⟩, q⟩
theorem call_list_of : CallR X (.type "list") (fun xs H Q => ∃ p ys, xs = [.ref p] ∧ (SqL X.K H p ys ∨ SqT X.K H p ys) ∧ ∀ l, H l = none → Q (.ref l) (upd H l (.lst ys))) := by
  intro pins s σ H xs us Q I r h
  obtain ⟨p, ys, rfl, hq, q⟩ := h
  obtain ⟨u, rfl, rx⟩ := vals1 r
  cases rx
  have fin : ∀ (its : List Value), Vals ys its → ys.length ≤ sizeLine → ∀ (h' : Heap) (c' : Nat), (∀ b o', s.heap.get? b = some o' → h'.get? b = some o') →
      h'.get? s.heap.objs.size = some { cls := .type "list", dict := none, data := .seq its.toArray c', slots := #[] } → EP X pins σ Q (.ref s.heap.objs.size) { s with heap := h' } := fun its r' hz h' c' kp e =>
    ⟨.ref s.heap.objs.size, _, I.laid (t' := s.toks) kp (Nat.le_refl _) (show ObjOk X.prog X.w _ h' _ (.lst ys) from ⟨hz, its, c', r', e⟩), rfl, q _ (I.hok.fresh (Nat.le_refl _))⟩
  rcases hq with hq | hq
  · obtain ⟨its, r', pl, hz⟩ := I.list hq
    have hlen := r'.length
    obtain ⟨o, ho, hc, n, hd⟩ := pl.isList
    exact call_list_seq p (.inl rfl) ho hc hd (fun h' c' kp e => fin its r' hz h' c' kp e) (by simp only [List.size_toArray] <;> omega)
  · obtain ⟨its, r', pl, hz⟩ := I.tuple hq
    have hlen := r'.length
    obtain ⟨o, ho, hc, n, hd⟩ := pl
    exact call_list_seq p (.inr rfl) ho hc hd (fun h' c' kp e => fin its r' hz h' c' kp e) (by simp only [List.size_toArray] <;> omega)
theorem call_tuple_of : CallR X (.type "tuple") (fun xs H Q => ∃ p ys, xs = [.ref p] ∧ ((SqL X.K H p ys ∧ ∀ l, H l = none → Q (.ref l) (upd H l (.tup ys))) ∨ (SqT X.K H p ys ∧ Q (.ref p) H))) := by
  intro pins s σ H xs us Q I r h
  obtain ⟨p, ys, rfl, h⟩ := h
  obtain ⟨u, rfl, rx⟩ := vals1 r
  cases rx
  rcases h with ⟨hq, q⟩ | ⟨hq, q⟩
  · obtain ⟨its, r', pl, hz⟩ := I.list hq
    have hlen := r'.length
    refine call_tuple_list pl.isList (fun h' kp => ?_) (by simp only [List.size_toArray] <;> omega)
    have I1 : Inv X pins σ H { s with heap := h' } := I.kept (t' := s.toks) kp
    have I2 : Inv X pins σ (upd H h'.objs.size (.tup ys)) { s with heap := h'.push { cls := .type "tuple", data := .seq its.toArray } } :=
      I1.laid (t' := s.toks) (fun b o e => Heap.get?_push_of_some _ e) (Nat.le_refl _) (show ObjOk X.prog X.w _ _ _ (.tup ys) from ⟨hz, its, r', IsTup.new _ _⟩)
    exact ⟨.ref h'.objs.size, _, I2, rfl, q _ (I1.hok.fresh (Nat.le_refl _))⟩
  · obtain ⟨its, r', pl, hz⟩ := I.tuple hq
    exact call_tuple_same pl ⟨.ref p, H, I, rfl, q⟩
noncomputable def tyV (K : PySem.W.Frag) (T : String) (x : V) (H : Hp) : Prop := match x with
  | .str _ => T = "str"
  | .int _ => T = "int"
  | .ref p => (T = "list" ∧ ∃ xs, SqL K H p xs) ∨ (T = "tuple" ∧ ∃ o, K.lookup p = some o ∧ o.cls = .type "tuple" ∧ o.dict = none) ∨
      (T = "dict" ∧ ((∃ kvs, H p = some (.dK kvs)) ∨ ∃ kvs, H p = some (.dT kvs))) ∨ (T = "set" ∧ ∃ S n, H p = some (.set S n))
  | _ => False
theorem tyV_is {pins : List (Addr × Obj)} {σ : St} {H : Hp} {s : Shared} {T : String} {x : V} {v : Value} (I : Inv X pins σ H s) (r : RelV x v) (ty : tyV X.K T x H) :
    s.TypeIs v T ∧ ∀ a, v = .ref a → ∃ ob, s.heap.get? a = some ob ∧ ob.dict = none := by
  cases x with
  | str z =>
    obtain ⟨t, rfl⟩ := r
    cases (show T = "str" from ty)
    exact ⟨typeIs_str s z t, fun _ e => nomatch e⟩
  | int i =>
    obtain ⟨t, rfl⟩ := r
    cases (show T = "int" from ty)
    exact ⟨typeIs_int s i t, fun _ e => nomatch e⟩
  | ref p =>
    cases r
    rcases ty with ⟨rfl, xs, hq⟩ | ⟨rfl, o, hk, hc, hd⟩ | ⟨rfl, hk⟩ | ⟨rfl, S, n, hk⟩
    · obtain ⟨its, _, pl, _⟩ := I.list hq
      refine ⟨pl.isList.typeIs, fun a e => ?_⟩
      cases e
      obtain ⟨o, n, e, c, hd, _⟩ := pl
      exact ⟨o, e, hd⟩
    · refine ⟨⟨o, I.kIn p o hk, hc⟩, fun a e => ?_⟩
      cases e
      exact ⟨o, I.kIn _ o hk, hd⟩
    · have z : ∃ o, s.heap.get? p = some o ∧ o.ExactDict := by
        rcases hk with ⟨kvs, hk⟩ | ⟨kvs, hk⟩
        · obtain ⟨_, _, _, _, o, _, _, e, ex, _⟩ := I.hok p _ hk
          exact ⟨o, e, ex⟩
        · obtain ⟨_, _, _, _, o, _, _, e, ex, _⟩ := I.hok p _ hk
          exact ⟨o, e, ex⟩
      obtain ⟨o, e, ex⟩ := z
      refine ⟨⟨o, e, ex.1⟩, fun a e2 => ?_⟩
      cases e2
      exact ⟨o, e, ex.2.1⟩
    · obtain ⟨o, _, _, _, e, ex, _⟩ := I.hok p _ hk
      refine ⟨⟨o, e, ex.1⟩, fun a e2 => ?_⟩
      cases e2
      exact ⟨o, e, ex.2.1⟩
  | _ => exact False.elim ty
variable {o e : Expr} {es : List Expr} {to : TE} {t : TA} {name : Str} {apos cpos : Pos} {T id : String} {r : V → List V → Hp → VK → Prop}
end
end L2
namespace L2
open PySem PySem.Spec PyProof.Rows
noncomputable def MtM (X : Cx) (id : String) (r : V → List V → Hp → VK → Prop) : Prop :=
  ∀ (pins : List (Addr × Obj)) (s : Shared) (σ : St) (H : Hp) (x : V) (xs : List V) (v : Value) (us : List Value) (Q : VK), Inv X pins σ H s → RelV x v → Vals xs us → r x xs H Q →
    wpAny (model X.prog X.w) X.A (call (.builtin id) (v :: us)) (EP X pins σ Q) X.xe s
theorem Vals.one : ∀ {x : V} {us : List Value}, Vals [x] us → ∃ u, us = [u] ∧ RelV x u
  | _, _, .cons r .nil => ⟨_, rfl, r⟩
theorem Vals.zero : ∀ {us : List Value}, Vals [] us → us = []
  | _, .nil => rfl
theorem Vals.dropLast {xs : List V} {us : List Value} (h : Vals xs us) : Vals xs.dropLast us.dropLast := by
  induction h with
  | nil => exact .nil
  | cons r t ih =>
    cases t with
    | nil => exact .nil
    | cons q t' => exact .cons r ih
theorem Vals.eraseIdx : ∀ {xs : List V} {us : List Value} (i : Nat), Vals xs us → Vals (xs.eraseIdx i) (us.eraseIdx i)
  | _, _, _, .nil => .nil
  | _, _, 0, .cons _ t => t
  | _, _, i + 1, .cons r t => .cons r (Vals.eraseIdx i t)
theorem Vals.reverse {xs : List V} {us : List Value} (h : Vals xs us) : Vals xs.reverse us.reverse := by
  induction h with
  | nil => exact .nil
  | cons r t ih => rw [List.reverse_cons, List.reverse_cons]; exact Vals.append ih (.cons r .nil)
theorem erase_last {α : Type} (l : List α) : l.eraseIdx (l.length - 1) = l.dropLast := by
  induction l with
  | nil => rfl
  | cons a r ih =>
    cases r with
    | nil => rfl
    | cons b r =>
      have e : (a :: b :: r).length - 1 = ((b :: r).length - 1) + 1 := by
        have h1 : (a :: b :: r).length = r.length + 2 := rfl
        have h2 : (b :: r).length = r.length + 1 := rfl
        omega
      rw [e, List.eraseIdx_cons_succ, ih]
      all_goals rfl
theorem len_erase {α : Type} : ∀ (l : List α) (i : Nat), (l.eraseIdx i).length ≤ l.length
  | [], _ => Nat.le_refl _
  | _ :: _, 0 => Nat.le_succ _
  | _ :: r, i + 1 => Nat.succ_le_succ (len_erase r i)
section
variable {X : Cx} {pins : List (Addr × Obj)} {σ : St} {H : Hp} {s : Shared} {l b : Addr} {xs ys zs : List V}
theorem Inv.lset {its its' : List Value} {n : Nat} {f : Array Value → Array Value} {t' : Nat} (I : Inv X pins σ H s) (hH : H l = some (.lst xs))
    (e : s.heap.get? l = some { cls := .type "list", data := .seq its.toArray n }) (hf : f its.toArray = its'.toArray) (hv : Vals ys its') (hz : ys.length ≤ sizeLine) :
    Inv X pins σ (upd H l (.lst ys)) { s with heap := s.heap.update l (Obj.mapSeq f), toks := t' } := by
  have q := PySem.IsL.update e f
  rw [hf] at q
  refine I.write (x := l) (e := l) (by rw [hH]; exact trivial) (.inl rfl) (fun b' u hb hu => (Heap.get?_update_other s.heap (Obj.mapSeq f) (Ne.symm hb)).trans hu) ⟨_, q⟩ ?_
  exact ⟨hz, its', _, hv, q⟩
theorem Inv.lstM (I : Inv X pins σ H s) (hH : H l = some (.lst xs)) : xs.length ≤ sizeLine ∧ ∃ (its : List Value) (n : Nat), Vals xs its ∧ xs.length = its.length ∧ s.heap.get? l = some { cls := .type "list", data := .seq its.toArray n } := by
  obtain ⟨z, its, n, r, e⟩ := I.hok l _ hH
  exact ⟨z, its, n, r, r.length, e⟩
end
section
variable {X : Cx}
noncomputable def rAppend : V → List V → Hp → VK → Prop := fun x vs H Q => ∃ l xs y, x = .ref l ∧ vs = [y] ∧ H l = some (.lst xs) ∧ xs.length < sizeLine ∧ Q .non (upd H l (.lst (xs ++ [y])))
theorem mt_append : MtM X "list.append" rAppend := by
  intro pins s σ H x vs v us Q I rx rv h
  obtain ⟨l, xs, y, rfl, rfl, hH, hz, q⟩ := h
  cases rx
  obtain ⟨u, rfl, ru⟩ := rv.one
  obtain ⟨z, its, n, r, hl, e⟩ := I.lstM hH
  refine call_meets F.slot_list_append ⟨_, e, rfl⟩ F.entry_list_append (F.args_list_append_2 _ _) (PySem.list_append l its.toArray n u (by rw [List.size_toArray]; omega)) ⟨e, ?_⟩
  refine ⟨.non, _, I.lset (its' := its ++ [u]) hH e (by simp) (r.append (.cons ru .nil)) ?_, rfl, q⟩
  rw [List.length_append, List.length_singleton]
  omega
noncomputable def rPop : V → List V → Hp → VK → Prop := fun x vs H Q => ∃ l xs y, x = .ref l ∧ vs = [] ∧ H l = some (.lst xs) ∧ xs[xs.length - 1]? = some y ∧ Q y (upd H l (.lst xs.dropLast))
theorem mt_pop : MtM X "list.pop" rPop := by
  intro pins s σ H x vs v us Q I rx rv h
  obtain ⟨l, xs, y, rfl, rfl, hH, hy, q⟩ := h
  cases rx
  have hus := rv.zero
  subst hus
  obtain ⟨z, its, n, r, hl, e⟩ := I.lstM hH
  obtain ⟨u, hu, ru⟩ := r.get hy
  have hy' : its.toArray[its.toArray.size - 1]? = some u := by
    show its.toArray[its.length - 1]? = some u
    rw [← Array.getElem?_toList, ← hl]
    exact hu
  refine call_meets F.slot_list_pop ⟨_, e, rfl⟩ F.entry_list_pop (F.args_list_pop_1 _) (MeetsSeq.list_pop_last l its.toArray n u hy' (by rw [List.size_toArray]; omega)) ⟨e, ?_⟩
  refine ⟨y, _, I.lset (its' := its.dropLast) hH e ?_ r.dropLast ?_, ru, q⟩
  · show its.toArray.eraseIdxIfInBounds (its.toArray.size - 1) = its.dropLast.toArray
    rw [List.size_toArray, List.eraseIdxIfInBounds_toArray, erase_last]
  · rw [List.length_dropLast]
    omega
noncomputable def rPopAt : V → List V → Hp → VK → Prop := fun x vs H Q => ∃ l xs i k y, x = .ref l ∧ vs = [.int i] ∧ H l = some (.lst xs) ∧ -(2 ^ 63) ≤ i ∧ i < 2 ^ 63 ∧ seqIndex? i xs.length = some k ∧ xs[k]? = some y ∧ Q y (upd H l (.lst (xs.eraseIdx k)))
theorem mt_popAt : MtM X "list.pop" rPopAt := by
  intro pins s σ H x vs v us Q I rx rv h
  obtain ⟨l, xs, i, k, y, rfl, rfl, hH, h1, h2, hk, hy, q⟩ := h
  cases rx
  obtain ⟨u, rfl, ru⟩ := rv.one
  obtain ⟨t, rfl⟩ := ru
  obtain ⟨z, its, n, r, hl, e⟩ := I.lstM hH
  obtain ⟨w, hw, rw'⟩ := r.get hy
  refine call_meets F.slot_list_pop ⟨_, e, rfl⟩ F.entry_list_pop (F.args_list_pop_2 _ _)
    (MeetsSeq.list_pop_at l its.toArray n i t k w (fitsIndex_both h1 h2) (by rw [List.size_toArray, ← hl]; exact hk) (by rw [← Array.getElem?_toList]; exact hw) (by rw [List.size_toArray]; omega)) ⟨e, ?_⟩
  refine ⟨y, _, I.lset (its' := its.eraseIdx k) hH e ?_ (r.eraseIdx k) ?_, rw', q⟩
  · show its.toArray.eraseIdxIfInBounds k = (its.eraseIdx k).toArray
    rw [List.eraseIdxIfInBounds_toArray]
  · have := len_erase xs k
    omega
end
section
variable {prog : Program} {w : World} {A : Around} {E : Value → Shared → Prop} {s : Shared}
set_option maxRecDepth 100000 in
end
section
variable {X : Cx}
end
end L2
namespace L2
open PySem PySem.Spec PyProof.Rows
section
variable {κ : Type} [DecidableEq κ]
noncomputable def valV (kvs : List (κ × V)) (k : κ) : Option V := (kvs.find? fun kv => decide (kv.1 = k)).map (·.2)
noncomputable def putK (kvs : List (κ × V)) (k : κ) (v : V) : List (κ × V) :=
  if (kvs.any fun kv => decide (kv.1 = k)) = true then kvs.map (fun kv => if kv.1 = k then (kv.1, v) else kv) else kvs ++ [(k, v)]
theorem valV_nil {k : κ} : valV ([] : List (κ × V)) k = none := rfl
theorem valV_pos {p : κ × V} {r : List (κ × V)} {k : κ} (e : p.1 = k) : valV (p :: r) k = some p.2 := by simp [valV, List.find?_cons, e]
theorem valV_neg {p : κ × V} {r : List (κ × V)} {k : κ} (e : ¬ p.1 = k) : valV (p :: r) k = valV r k := by simp [valV, List.find?_cons, e]
theorem valV_any (k : κ) : ∀ kvs : List (κ × V), (kvs.any fun kv => decide (kv.1 = k)) = (valV kvs k).isSome
  | [] => rfl
  | p :: r => by
    rw [List.any_cons]
    by_cases e : p.1 = k
    · simp only [valV_pos e, decide_eq_true e, Bool.true_or, Option.isSome_some]
    · rw [valV_neg e, decide_eq_false e, Bool.false_or]; exact valV_any k r
theorem valV_map (k j : κ) (y : V) : ∀ kvs : List (κ × V), valV (kvs.map fun kv => if kv.1 = k then (kv.1, y) else kv) j = (valV kvs j).map fun x => if j = k then y else x
  | [] => rfl
  | p :: r => by
    have ih := valV_map k j y r
    rw [List.map_cons]
    by_cases h : p.1 = k
    · rw [if_pos h]
      by_cases e : p.1 = j
      · rw [valV_pos (p := (p.1, y)) e, valV_pos e, Option.map_some, if_pos (e.symm.trans h)]
      · rw [valV_neg (p := (p.1, y)) e, valV_neg e, ih]
    · rw [if_neg h]
      by_cases e : p.1 = j
      · rw [valV_pos (p := p) e, valV_pos e, Option.map_some, if_neg (fun z => h (e.trans z))]
      · rw [valV_neg (p := p) e, valV_neg e, ih]
theorem valV_snoc (k j : κ) (y : V) : ∀ kvs : List (κ × V), valV kvs k = none → valV (kvs ++ [(k, y)]) j = if j = k then some y else valV kvs j
  | [], _ => by
    by_cases e : k = j
    · rw [if_pos e.symm]; exact valV_pos (p := (k, y)) e
    · rw [if_neg (fun z => e z.symm)]; exact valV_neg (p := (k, y)) e
  | p :: r, hn => by
    rw [List.cons_append]
    have hk : ¬ p.1 = k := fun z => by rw [valV_pos z] at hn; cases hn
    rw [valV_neg hk] at hn
    have ih := valV_snoc k j y r hn
    by_cases e : p.1 = j
    · rw [valV_pos e, valV_pos e, if_neg (fun z => hk (e.trans z))]
    · rw [valV_neg e, valV_neg e, ih]
theorem valV_put (kvs : List (κ × V)) (k j : κ) (y : V) : valV (putK kvs k y) j = if j = k then some y else valV kvs j := by
  unfold putK
  by_cases a : (kvs.any fun kv => decide (kv.1 = k)) = true
  · rw [if_pos a, valV_map]
    rw [valV_any] at a
    by_cases e : j = k
    · obtain ⟨x, hx⟩ := Option.isSome_iff_exists.mp a
      rw [if_pos e, e, hx, Option.map_some, if_pos rfl]
    · rw [if_neg e]
      cases valV kvs j with
      | none => rfl
      | some x => rw [Option.map_some, if_neg e]
  · rw [if_neg a]
    refine valV_snoc k j y kvs ?_
    rw [valV_any] at a
    cases q : valV kvs k with
    | none => rfl
    | some x => rw [q] at a; exact (a rfl).elim
theorem length_putK (kvs : List (κ × V)) (k : κ) (v : V) : (putK kvs k v).length ≤ kvs.length + 1 := by
  unfold putK
  split
  · rw [List.length_map]; omega
  · rw [List.length_append, List.length_cons, List.length_nil]; omega
theorem putK_new {kvs : List (κ × V)} {k : κ} (v : V) (h : valV kvs k = none) : putK kvs k v = kvs ++ [(k, v)] := by
  unfold putK
  rw [valV_any, h]
  exact if_neg (by decide)
theorem RelO.isSome_eq {o : Option V} {u : Option Value} (r : RelO o u) : o.isSome = u.isSome := by
  cases o with
  | none => cases u with
    | none => rfl
    | some _ => exact (show False from r).elim
  | some _ => cases u with
    | none => exact (show False from r).elim
    | some _ => rfl
theorem KV.val {kvs : List (κ × V)} {vs : List (κ × Value)} (r : KV kvs vs) (k : κ) : RelO (valV kvs k) (valueAt vs k) := by
  unfold KV at r
  induction r with
  | nil => exact True.intro
  | @cons p q ps qs h t ih =>
    obtain ⟨h1, h2⟩ := h
    by_cases e : p.1 = k
    · have e' : q.1 = k := h1.symm.trans e
      have b : valueAt (q :: qs) k = some q.2 := by simp [valueAt, List.find?_cons, e']
      rw [valV_pos e, b]; exact h2
    · have e' : ¬ q.1 = k := fun z => e (h1.trans z)
      have b : valueAt (q :: qs) k = valueAt qs k := by simp [valueAt, List.find?_cons, e']
      rw [valV_neg e, b]; exact ih
theorem KV.any {kvs : List (κ × V)} {vs : List (κ × Value)} (r : KV kvs vs) (k : κ) : (kvs.any fun kv => decide (kv.1 = k)) = vs.any fun kv => decide (kv.1 = k) := by
  unfold KV at r
  induction r with
  | nil => rfl
  | cons h t ih => rw [List.any_cons, List.any_cons, ih, h.1]
theorem KV.repl {kvs : List (κ × V)} {vs : List (κ × Value)} (r : KV kvs vs) (k : κ) {y : V} {u : Value} (ry : RelV y u) :
    KV (kvs.map fun kv => if kv.1 = k then (kv.1, y) else kv) (vs.map fun kv => if kv.1 = k then (kv.1, u) else kv) := by
  unfold KV at r ⊢
  induction r with
  | nil => exact .nil
  | @cons p q ps qs h t ih =>
    rw [List.map_cons, List.map_cons]
    refine .cons ?_ ih
    obtain ⟨h1, h2⟩ := h
    by_cases e : p.1 = k
    · rw [if_pos e, if_pos (h1.symm.trans e)]; exact ⟨h1, ry⟩
    · rw [if_neg e, if_neg (fun z => e (h1.trans z))]; exact ⟨h1, h2⟩
theorem KV.put {kvs : List (κ × V)} {vs : List (κ × Value)} (r : KV kvs vs) (k : κ) {y : V} {u : Value} (ry : RelV y u) : KV (putK kvs k y) (stored vs k u) := by
  unfold putK stored
  rw [r.any k]
  by_cases e : (vs.any fun kv => decide (kv.1 = k)) = true
  · rw [if_pos e, if_pos e]; exact r.repl k ry
  · rw [if_neg e, if_neg e]; exact Paired.snoc r ⟨rfl, ry⟩
theorem KV.length {kvs : List (κ × V)} {vs : List (κ × Value)} (r : KV kvs vs) : kvs.length = vs.length := Paired.length r
end
theorem kV_is {P : Program} {w : World} {k : Key} {u : Value} (r : RelV (kV k) u) : (mixKind P w).is k u = true := by
  cases k with
  | inl i => obtain ⟨t, e⟩ := (show ∃ t, u = Value.int i t from r); subst e; exact mixKind_int P w i t
  | inr x => obtain ⟨t, e⟩ := (show ∃ t, u = Value.str x t from r); subst e; exact mixKind_str P w x t
theorem items_are {P : Program} {w : World} : ∀ {ks : List Key} {us : List Value}, Vals (ks.map kV) us → ItemsAre (mixKind P w) ks us
  | [], _, r => by rw [List.map_nil] at r; cases r; exact .nil
  | k :: ks, _, r => by
    rw [List.map_cons] at r
    cases r with
    | cons h t => exact .cons (kV_is h) (items_are t)
noncomputable abbrev KT (H : Hp) : List (List Key × V) → List (List Key × Addr × Value) → Prop := Paired fun p q => p.1 = q.1 ∧ H q.2.1 = some (.tup (p.1.map kV)) ∧ RelV p.2 q.2.2
theorem KT.val {H : Hp} {kvs : List (List Key × V)} {xs : List (List Key × Addr × Value)} (r : KT H kvs xs) (k : List Key) : RelO (valV kvs k) ((atKey xs k).map (·.2)) := by
  induction r with
  | nil => exact True.intro
  | @cons p q ps qs h t ih =>
    obtain ⟨h1, _, h2⟩ := h
    by_cases e : p.1 = k
    · have e' : q.1 = k := h1.symm.trans e
      have b : atKey (q :: qs) k = some q.2 := by simp [atKey, List.find?_cons, e']
      rw [valV_pos e, b]; exact h2
    · have e' : ¬ q.1 = k := fun z => e (h1.trans z)
      have b : atKey (q :: qs) k = atKey qs k := by simp [atKey, List.find?_cons, e']
      rw [valV_neg e, b]; exact ih
theorem KT.repl {H : Hp} {kvs : List (List Key × V)} {xs : List (List Key × Addr × Value)} (r : KT H kvs xs) (k : List Key) {y : V} {u : Value} (ry : RelV y u) :
    KT H (kvs.map fun kv => if kv.1 = k then (kv.1, y) else kv) (xs.map (putAt k u)) := by
  induction r with
  | nil => exact .nil
  | @cons p q ps qs h t ih =>
    rw [List.map_cons, List.map_cons]
    refine .cons ?_ ih
    obtain ⟨h1, h2, h3⟩ := h
    unfold putAt
    by_cases e : p.1 = k
    · rw [if_pos e, if_pos (h1.symm.trans e)]; exact ⟨h1, h2, ry⟩
    · rw [if_neg e, if_neg (fun z => e (h1.trans z))]; exact ⟨h1, h2, h3⟩
theorem KT.put {H : Hp} {kvs : List (List Key × V)} {xs : List (List Key × Addr × Value)} (r : KT H kvs xs) (k : List Key) {b : Addr} {y : V} {u : Value} (hb : H b = some (.tup (k.map kV))) (ry : RelV y u) :
    KT H (putK kvs k y) (storedH xs k b u) := by
  have e : (kvs.any fun kv => decide (kv.1 = k)) = (atKey xs k).isSome := by
    rw [valV_any, (r.val k).isSome_eq, Option.isSome_map]
  unfold putK storedH
  rw [e]
  by_cases q : (atKey xs k).isSome = true
  · rw [if_pos q, if_pos q]; exact r.repl k ry
  · rw [if_neg q, if_neg q]; exact Paired.snoc r ⟨rfl, hb, ry⟩
theorem KT.keeps {H H' : Hp} {kvs : List (List Key × V)} {xs : List (List Key × Addr × Value)} (r : KT H kvs xs) (ht : ∀ b ys, H b = some (.tup ys) → H' b = some (.tup ys)) : KT H' kvs xs :=
  Paired.mapP r fun _ _ z => ⟨z.1, ht _ _ z.2.1, z.2.2⟩
section
variable {P : Program} {w : World} {H : Hp} {h : Heap} {a : Addr}
theorem rd_of {u : HO} (ok : HOk P w H h) (e : Rd H a u) : ObjOk P w H h a u := e.ok ok
theorem dk_rd {kvs : List (Key × V)} (ok : HOk P w H h) (e : Rd H a (.dK kvs)) : kvs.length ≤ sizeLine ∧ (a == sysModules) = false ∧ ∃ vs, KV kvs vs ∧ h.DictOf (mixKind P w) a vs :=
  show ObjOk P w H h a (.dK kvs) from rd_of ok e
theorem dk_of {kvs : List (Key × V)} (ok : HOk P w H h) (e : H a = some (.dK kvs)) : kvs.length ≤ sizeLine ∧ (a == sysModules) = false ∧ ∃ vs, KV kvs vs ∧ h.DictOf (mixKind P w) a vs := dk_rd ok (.inl e)
theorem key_of {ks : List Key} (ok : HOk P w H h) (e : H a = some (.tup (ks.map kV))) : (tupleKind (mixKind P w)).is h ks a := by
  obtain ⟨_, its, r, o, h1, h2, n, h3⟩ := (show ObjOk P w H h a (.tup (ks.map kV)) from ok a _ e)
  exact ⟨o, its.toArray, n, h1, h2, h3, by simpa using items_are r⟩
theorem dt_rd {kvs : List (List Key × V)} (ok : HOk P w H h) (e : Rd H a (.dT kvs)) : kvs.length ≤ sizeLine ∧ (a == sysModules) = false ∧
    ∃ xs, KT H kvs xs ∧ h.DictOfH (tupleKind (mixKind P w)) a xs := by
  obtain ⟨z, y, xs, r, o, es, ep, h1, h2, h3, h4, h5⟩ := (show ObjOk P w H h a (.dT kvs) from rd_of ok e)
  refine ⟨z, y, xs, r, o, es, ep, h1, h2, h3, h4, fun x hx => ?_, h5⟩
  have all : ∀ {l : List (List Key × V)} {m : List (List Key × Addr × Value)}, KT H l m → ∀ x ∈ m, (tupleKind (mixKind P w)).is h x.1 x.2.1 := by
    intro l m q
    induction q with
    | nil => intro x hx; exact nomatch hx
    | @cons p q ps qs hq t ih =>
      intro x hx
      rcases List.mem_cons.mp hx with e | hx
      · subst e
        exact key_of ok (by rw [← hq.1]; exact hq.2.1)
      · exact ih x hx
  exact all r x hx
theorem dt_of {kvs : List (List Key × V)} (ok : HOk P w H h) (e : H a = some (.dT kvs)) : kvs.length ≤ sizeLine ∧ (a == sysModules) = false ∧
    ∃ xs, KT H kvs xs ∧ h.DictOfH (tupleKind (mixKind P w)) a xs := dt_rd ok (.inl e)
end
noncomputable def DGet (H : Hp) (a : Addr) (y : V) (r : Option V) : Prop :=
  (∃ kvs k, Rd H a (.dK kvs) ∧ y = kV k ∧ r = valV kvs k) ∨ ∃ kvs k b, Rd H a (.dT kvs) ∧ y = .ref b ∧ H b = some (.tup (k.map kV)) ∧ r = valV kvs k
noncomputable def DPut (H : Hp) (a : Addr) (y v : V) (H' : Hp) : Prop :=
  (∃ kvs k, H a = some (.dK kvs) ∧ y = kV k ∧ kvs.length < sizeLine ∧ H' = upd H a (.dK (putK kvs k v))) ∨
  ∃ kvs k b, H a = some (.dT kvs) ∧ y = .ref b ∧ H b = some (.tup (k.map kV)) ∧ kvs.length < sizeLine ∧ H' = upd H a (.dT (putK kvs k v))
theorem DGet.k {H : Hp} {a : Addr} {kvs : List (Key × V)} {k : Key} (e : H a = some (.dK kvs)) : DGet H a (kV k) (valV kvs k) := .inl ⟨kvs, k, .inl e, rfl, rfl⟩
theorem DGet.t {H : Hp} {a b : Addr} {kvs : List (List Key × V)} {k : List Key} (e : H a = some (.dT kvs)) (eb : H b = some (.tup (k.map kV))) : DGet H a (.ref b) (valV kvs k) := .inr ⟨kvs, k, b, .inl e, rfl, eb, rfl⟩
theorem DPut.k {H : Hp} {a : Addr} {kvs : List (Key × V)} {k : Key} {v : V} (e : H a = some (.dK kvs)) (hl : kvs.length < sizeLine) : DPut H a (kV k) v (upd H a (.dK (putK kvs k v))) := .inl ⟨kvs, k, e, rfl, hl, rfl⟩
theorem DPut.t {H : Hp} {a b : Addr} {kvs : List (List Key × V)} {k : List Key} {v : V} (e : H a = some (.dT kvs)) (eb : H b = some (.tup (k.map kV))) (hl : kvs.length < sizeLine) :
    DPut H a (.ref b) v (upd H a (.dT (putK kvs k v))) := .inr ⟨kvs, k, b, e, rfl, eb, hl, rfl⟩
section
variable {X : Cx} {pins : List (Addr × Obj)} {σ : St} {H : Hp} {s : Shared} {a : Addr} {y v : V} {u r : Value} {o : Option V} {A : Around} {E : Value → Shared → Prop}
theorem Inv.big (I : Inv X pins σ H s) : sysModules < s.heap.objs.size := by
  have h : mainGlobals < s.heap.objs.size := (I.mod.glob.keeps I.bk).lt
  exact Nat.lt_trans (by decide) h
theorem d_getItem {Q : Value → Shared → Prop} (hu : A.units + 1 < cLine) (I : Inv X pins σ H s) (g : DGet H a y (some v)) (ry : RelV y u) (h : ∀ w' s', Inv X pins σ H s' → RelV v w' → Q w' s') :
    wpAny (model X.prog X.w) A (getItem (.ref a) u) Q E s := by
  rcases g with ⟨kvs, k, e, ey, l⟩ | ⟨kvs, k, b, e, ey, eb, l⟩
  · subst ey
    obtain ⟨z, hd, vs, rel, dd⟩ := dk_rd I.hok e
    obtain ⟨w', hw, rw'⟩ := RelO.some_of (v := v) (o := valueAt vs k) (by rw [l]; exact rel.val k)
    exact wpAny_getItem_of (kV_is ry) dd.mapOf hw (h w' _ (I.tok _) rw')
  · subst ey
    cases (show u = Value.ref b from ry)
    obtain ⟨z, hd, xs, rel, dd⟩ := dt_rd I.hok e
    obtain ⟨w', hw, rw'⟩ := RelO.some_of (v := v) (o := (atKey xs k).map (·.2)) (by rw [l]; exact rel.val k)
    obtain ⟨p, hp, hp2⟩ := Option.map_eq_some_iff.mp hw
    refine wpAny_getItem_heap (tupleKind_room_in1 hu) (key_of I.hok eb) dd hp ?_
    rw [hp2]
    exact h w' _ (I.tok _) rw'
theorem d_write {h' : Heap} {t' : Nat} {ob : HO} (I : Inv X pins σ H s) (mu : Mut (H a)) (hs : Heap.SameBut a s.heap h') (he : ∃ q, h'.get? a = some q) (new : ObjOk X.prog X.w (upd H a ob) h' a ob) :
    Inv X pins σ (upd H a ob) { s with heap := h', toks := t' } :=
  I.write (x := a) (e := a) mu (.inl rfl) (fun b q hb z => (hs.2 b hb).trans z) he new
theorem dk_new {P : Program} {w : World} {H' : Hp} {h' : Heap} {kvs : List (Key × V)} {vs : List (Key × Value)} (z : kvs.length ≤ sizeLine) (hd : (a == sysModules) = false) (rel : KV kvs vs) (dd : h'.DictOf (mixKind P w) a vs) :
    ObjOk P w H' h' a (.dK kvs) := ⟨z, hd, vs, rel, dd⟩
theorem d_setItem {H' : Hp} {Q : Unit → Shared → Prop} (hu : A.units + 1 < cLine) (I : Inv X pins σ H s) (g : DPut H a y v H') (ry : RelV y u) (rv : RelV v r) (h : ∀ s', Inv X pins σ H' s' → Q () s') :
    wpAny (model X.prog X.w) A (setItem (.ref a) u r) Q E s := by
  rcases g with ⟨kvs, k, e, ey, l, eH⟩ | ⟨kvs, k, b, e, ey, eb, l, eH⟩
  · subst ey eH
    obtain ⟨z, hd, vs, rel, dd⟩ := dk_of I.hok e
    have hz : vs.length ≤ sizeLine := by rw [← rel.length]; exact z
    have hl : (putK kvs k v).length ≤ sizeLine := by have := length_putK kvs k v; omega
    refine wpAny_setItem_pairs (hsz := hz) (kV_is ry) dd fun h' dd' hs => h _ ?_
    have he : ∃ q, h'.get? a = some q := let ⟨q, _, _, hq, _⟩ := dd'; ⟨q, hq⟩
    exact d_write I (by rw [e]; exact True.intro) hs he (dk_new hl hd (rel.put k rv) dd')
  · subst ey eH
    cases (show u = Value.ref b from ry)
    obtain ⟨z, hd, xs, rel, dd⟩ := dt_of I.hok e
    have hz : xs.length ≤ sizeLine := by rw [← Paired.length rel]; exact z
    have hl : (putK kvs k v).length ≤ sizeLine := by have := length_putK kvs k v; omega
    refine wpAny_setItem_heap (hsz := hz) (tupleKind_room_in1 hu) (key_of I.hok eb) dd fun h' dd' hs => h _ ?_
    obtain ⟨q, es, ep, hq, h2, h3, h4, _, h5⟩ := dd'
    refine d_write I (by rw [e]; exact True.intro) hs ⟨q, hq⟩ ⟨hl, hd, _, (rel.put k eb rv).keeps fun c ys ec => ?_, q, es, ep, hq, h2, h3, h4, h5⟩
    rw [upd_ne (ne_of ec e (fun z => nomatch z))]
    exact ec
end
section
variable {X : Cx} {pins : List (Addr × Obj)} {σ : St} {H : Hp} {s : Shared} {a : Addr} {kvs : List (Key × V)} {k : Key} {u : Value} {A : Around} {E : Value → Shared → Prop}
end
noncomputable def NoSl (i : Expr) : Prop := ∀ ov iv, subscripted i false ov iv = operate [ov, iv] (getItem ov iv)
theorem subD_of {prog : Program} {w : World} {A : Around} {E : Value → Shared → Prop} {s : Shared} {env : Env} {value slice : Expr} {pos : Pos} {T id : String} {Q : Value → Shared → Prop}
    (hl : typeLookup (.type T) "__getitem__" = pure (some (.builtin id))) (hs : NoSl slice)
    (h : wpAny (model prog w) A (eval value env) (fun o s₁ => wpAny (model prog w) A (eval slice env) (fun i s₂ => s₂.TypeIs o T ∧ wpAny (model prog w) A (getItem o i) Q E s₂) E s₁) E s) :
    wpAny (model prog w) A (eval (.Subscript value slice pos) env) Q E s := by
  refine Subscript_ (wpAny_mono h (fun o s₁ h₁ => wpAny_mono h₁ (fun i s₂ h₂ => ?_) fun _ _ x => x) fun _ _ x => x)
  obtain ⟨hT, h₂⟩ := h₂
  unfold subscriptTail
  refine wpAny_bind ?_
  rw [getitemInPython_of_ne hT.not_modules]
  refine wpAny_bind (wpAny_specialOf hT hl ?_)
  have fin : wpAny (model prog w) A (subscripted slice false o i) (fun r s₃ => wpAny (model prog w) A (letTemporaryGo value o r >>= fun _ => pure r) Q E s₃) E s₂ := by
    rw [hs o i]
    exact wpAny_operating (wpAny_mono h₂ (fun r s₃ h₃ => wpAny_bind (wpAny_letTemporaryGo (wpAny_pure h₃))) fun _ _ x => x)
  first
    | exact wpAny_pure (wpAny_bind fin)
    | exact wpAny_bind (wpAny_pure (wpAny_bind fin))
    | exact wpAny_bind fin
theorem dict_typeIs {X : Cx} {pins : List (Addr × Obj)} {σ : St} {H : Hp} {s : Shared} {a : Addr} {y : V} {o : Option V} (I : Inv X pins σ H s) (g : DGet H a y o) : s.TypeIs (.ref a) "dict" := by
  rcases g with ⟨kvs, k, e, _, _⟩ | ⟨kvs, k, b, e, _, _, _⟩
  · obtain ⟨_, _, vs, _, dd⟩ := dk_rd I.hok e
    exact dd.typeIs
  · obtain ⟨_, _, xs, _, dd⟩ := dt_rd I.hok e
    exact dd.typeIs
section
variable {X : Cx} {o i e value : Expr} {pos pos' tpos : Pos} {td ty tv : TE}
end
theorem dk_empty {P : Program} {w : World} {H : Hp} (h : Heap) (hb : sysModules < h.objs.size) : ObjOk P w H (h.push { cls := .type "dict", data := .dict #[] }) h.objs.size (.dK []) :=
  ⟨Nat.zero_le _, beq_eq_false_iff_ne.mpr (Ne.symm (Nat.ne_of_lt hb)), [], .nil, Heap.DictOf.new h⟩
noncomputable def tDNewK : TE := fun _ H Q => ∀ p, H p = none → Q (.ref p) (upd H p (.dK []))
section
variable {X : Cx} {pos : Pos}
theorem pe_dnewK : PE X (.Dict [] [] pos) tDNewK := fun pins s σ H Q I h =>
  wpAny_Dict_empty ⟨.ref s.heap.objs.size, _, I.laid (a := s.heap.objs.size) (o := .dK []) (t' := s.toks) (fun _ _ q => Heap.get?_push_of_some _ q) (Nat.le_refl _) (dk_empty s.heap I.big), rfl, h _ (I.hok.fresh (Nat.le_refl _))⟩
end
noncomputable def tPairs : List (TE × TE) → St → Hp → (List (V × V) → Hp → Prop) → Prop
  | [], _, H, Q => Q [] H
  | (tk, tv) :: r, σ, H, Q => tk σ H fun x H1 => tv σ H1 fun y H2 => tPairs r σ H2 fun ps H3 => Q ((x, y) :: ps) H3
noncomputable abbrev VV : List (V × V) → List (Value × Value) → Prop := Paired fun p q => RelV p.1 q.1 ∧ RelV p.2 q.2
noncomputable def PPs (X : Cx) (pos : Pos) (keys : List (Option Expr)) (values : List Expr) (trs : List (TE × TE)) : Prop :=
  ∀ (pins : List (Addr × Obj)) (s : Shared) (σ : St) (H : Hp) (Q : List (V × V) → Hp → Prop), Inv X pins σ H s → tPairs trs σ H Q →
    wpAny (model X.prog X.w) X.A (evalPairs (pairTrees keys values X.env pos)) (fun vs s' => ∃ ps H', Inv X pins σ H' s' ∧ VV ps vs ∧ Q ps H') X.xe s
theorem pps_nil {X : Cx} {pos : Pos} : PPs X pos [] [] [] := fun pins s σ H Q I h => pairTrees_nil_walk ⟨[], H, I, .nil, h⟩
theorem pps_cons {X : Cx} {pos : Pos} {k v : Expr} {ks : List (Option Expr)} {vs : List Expr} {tk tv : TE} {trs : List (TE × TE)} (hk : PE X k tk) (hv : PE X v tv) (hr : PPs X pos ks vs trs) :
    PPs X pos (some k :: ks) (v :: vs) ((tk, tv) :: trs) := fun pins s σ H Q I h =>
  pairTrees_cons_walk (thn (hk pins s σ H _ I h) fun u s1 ⟨x, H1, I1, rx, q1⟩ => thn (hv pins s1 σ H1 _ I1 q1) fun w2 s2 ⟨y, H2, I2, ry, q2⟩ =>
    thn (hr pins s2 σ H2 _ I2 q2) fun ws s3 zq9 => by obtain ⟨ps, H3, I3, rel, q3⟩ := zq9; exact (⟨(x, y) :: ps, H3, I3, .cons ⟨rx, ry⟩ rel, q3⟩))
noncomputable def mergeK (kvs more : List (Key × V)) : List (Key × V) := more.foldl (fun acc kv => putK acc kv.1 kv.2) kvs
theorem KV.merge : ∀ {more : List (Key × V)} {rs : List (Key × Value)} {kvs : List (Key × V)} {vs : List (Key × Value)}, KV more rs → KV kvs vs → KV (mergeK kvs more) (merged vs rs) := by
  intro more rs kvs vs r
  unfold KV at r
  induction r generalizing kvs vs with
  | nil => intro q; exact q
  | @cons p q ps qs h t ih =>
    intro r0
    have e : KV (putK kvs p.1 p.2) (stored vs q.1 q.2) := by
      have := r0.put p.1 h.2
      rw [← h.1]; exact this
    exact ih e
theorem length_mergeK : ∀ (more kvs : List (Key × V)), (mergeK kvs more).length ≤ kvs.length + more.length
  | [], kvs => by show kvs.length ≤ kvs.length + 0; omega
  | p :: r, kvs => by
    have h1 := length_mergeK r (putK kvs p.1 p.2)
    have h2 := length_putK kvs p.1 p.2
    show (mergeK (putK kvs p.1 p.2) r).length ≤ _
    rw [List.length_cons]; omega
theorem carries_of {P : Program} {w : World} : ∀ {kvs : List (Key × V)} {ws : List (Value × Value)}, VV (kvs.map fun kv => (kV kv.1, kv.2)) ws → ∃ rs, Carries (mixKind P w) ws rs ∧ KV kvs rs
  | [], _, r => by rw [List.map_nil] at r; cases r; exact ⟨[], True.intro, .nil⟩
  | p :: kvs, _, r => by
    rw [List.map_cons] at r
    cases r with
    | @cons a b as bs h t =>
      obtain ⟨rs, c, q⟩ := carries_of (P := P) (w := w) t
      obtain ⟨b1, b2⟩ := b
      exact ⟨(p.1, b2) :: rs, ⟨kV_is h.1, rfl, c⟩, .cons ⟨rfl, h.2⟩ q⟩
noncomputable def tDisp (trs : List (TE × TE)) : TE := fun σ H Q => ∀ p, H p = none → tPairs trs σ (upd H p (.dK [])) fun ps H2 => H2 p = some (.dK []) ∧ ∃ kvs : List (Key × V), ps = kvs.map (fun kv => (kV kv.1, kv.2)) ∧ kvs.length ≤ 15 ∧ Q (.ref p) (upd H2 p (.dK (mergeK [] kvs)))
theorem pe_disp {X : Cx} {pos : Pos} {keys : List (Option Expr)} {values : List Expr} {trs : List (TE × TE)} (h : PPs X pos keys values trs) (hall : keys.all (·.isSome) = true) (hl : keys.length = values.length) (h0 : keys ≠ [])
    (h15 : keys.length ≤ 15) : PE X (.Dict keys values pos) (tDisp trs) := by
  intro pins s σ H Q I q
  have hn := I.hok.fresh (Nat.le_refl s.heap.objs.size)
  have I1 := I.laid (a := s.heap.objs.size) (o := .dK []) (h' := s.heap.push { cls := .type "dict", data := .dict #[] }) (t' := s.toks) (fun _ _ q => Heap.get?_push_of_some _ q) (Nat.le_refl _) (dk_empty s.heap I.big)
  refine wpAny_Dict_walk (knd := mixKind X.prog X.w) hall hl h0 h15 (thn (h pins _ σ _ _ I1 (q _ hn)) fun ws s2 zr2862 => ?_)
  obtain ⟨ps, H2, I2, rel, e, kvs, ep, lk, q2⟩ := zr2862
  subst ep
  obtain ⟨rs, c, rk⟩ := carries_of (P := X.prog) (w := X.w) rel
  obtain ⟨z, hd, vs0, r0, dd⟩ := dk_of I2.hok e
  cases r0
  refine ⟨rs, c, dd, fun h' dd' hs => ⟨.ref s.heap.objs.size, _, ?_, rfl, q2⟩⟩
  have hz : (mergeK [] kvs).length ≤ sizeLine := by
    have h1 := length_mergeK kvs []
    rw [List.length_nil] at h1
    rw [sizeLine_eq]; omega
  have he : ∃ q, h'.get? s.heap.objs.size = some q := let ⟨q, _, _, hq, _⟩ := dd'; ⟨q, hq⟩
  exact d_write I2 (by rw [e]; exact True.intro) hs he (dk_new hz hd (rk.merge .nil) dd')
section
variable {X : Cx} {pins : List (Addr × Obj)} {σ : St} {H : Hp} {s : Shared} {a : Addr} {y d : V} {u r : Value} {o : Option V} {A : Around} {E : Value → Shared → Prop}
end
section
variable {X : Cx} {o e f : Expr} {apos cpos : Pos} {td ty tx : TE}
end
section
variable {X : Cx} {pins : List (Addr × Obj)} {σ : St} {H : Hp} {s : Shared} {a : Addr} {kvs : List (Key × V)} {A : Around} {E : Value → Shared → Prop}
end
section
variable {X : Cx} {pins : List (Addr × Obj)} {σ : St} {H : Hp} {s : Shared} {a : Addr} {y : V} {u : Value} {A : Around} {E : Value → Shared → Prop}
end
end L2
namespace Att
open PySem PySem.W PySem.Calls PyProof.Rows
theorem ints_of_wellAll {P : Params} {h : Heap} : ∀ (ns : List Int) (vs : List Value), WellAll P h vs (ns.map WData.int) → IntsAre vs ns := by
  intro ns
  induction ns with
  | nil =>
    intro vs w
    rw [List.map_nil] at w
    cases w
    exact .nil
  | cons n ns ih =>
    intro vs w
    rw [List.map_cons] at w
    cases w with
    | cons a b =>
      cases a
      exact .cons _ _ (ih _ b)
theorem script_of {l : OpenLaw} {n : Nat} (hn : l.most = some n) {P : Params} {h : Heap} {args : List WData} {vals : List Value}
    (hpre : l.row.toRowW.claim.pre args = true) (hwl : WellAll P h vals args) :
    ∃ a vs ns, vals = [Value.ref a] ∧ args = [WData.list (ns.map WData.int)] ∧ h.get? a = some { cls := .type "list", data := .seq vs.toArray } ∧ IntsAre vs ns ∧ ns.length ≤ n := by
  have hsh : WShape.hasAll [] args [.list .int] = true := (pre_splitW hpre).1
  have hc : l.pre.holds [] { args := args } = true := (pre_splitW hpre).2
  obtain ⟨d, r, rfl, h1, h2⟩ := hasAllW_cons hsh
  obtain rfl := hasAllW_nil h2
  obtain ⟨xs, rfl, h3⟩ := hasW_list h1
  obtain ⟨ns, rfl⟩ := items_int h3
  have hlen : ns.length ≤ n := by
    unfold OpenLaw.pre at hc
    have h4 : (WTm.not (.lt (.lit (.int (n : Int))) (.len (.arg 0)))).holds [] { args := [.list (ns.map .int)] } = true := by
      have h4 := (holds_andW hc).1
      rw [hn] at h4
      exact h4
    have h5 := condW_of h4 (w_not (w_lt w_lit (w_len_list (w_arg rfl))))
    rw [List.length_map] at h5
    refine Nat.le_of_not_lt fun q => ?_
    have q' : (n : Int) < ((ns.length : Nat) : Int) := by omega
    first
      | (rw [decide_eq_true q'] at h5; exact absurd h5 (by decide))
      | (simp at h5; omega)
  cases hwl with
  | cons w1 w2 =>
    cases w2
    cases w1 with
    | list ho hall => exact ⟨_, _, ns, rfl, rfl, ho, ints_of_wellAll ns _ hall, hlen⟩
theorem post_true (l : OpenLaw) (args : List WData) : l.row.toRowW.claim.post args (.bool true) args = true :=
  postW_of (r := l.row.toRowW) (X := (true == true))
    (show WShape.has [] (.bool true) .bool = true by first | rfl | decide | simp [WShape.has, WShape.arms, WShape.armsAll])
    (show (WTm.eq .res (.lit (.bool true))).value [] { args := args, res := some (.bool true), after := args } = some (.bool (true == true)) from w_eq_bool (w_res rfl) w_lit) rfl
theorem attach_call {l : OpenLaw} {n : Nat} {q : Program} {loose : List Str} {XP : (Str → Option Value) → Heap → Prop} {YP : World → Heap → Prop} {d : DefRec}
    (hn : l.most = some n) (hdf : d.params.defaults = [])
    (call : ∀ (w : World) (s₀ s₁ : Shared) (mg mb : Str → Option Value) (fa : Addr) (o : Obj) (pm cd doc : Value) (a : Addr) (vs : List Value) (ns : List Int),
      Ground q loose [] XP w s₀ mg mb s₁.heap → YP w s₁.heap →
      s₁.heap.get? fa = some o → o.data = .func (docDef d.name d.params d.body d.scope pm cd doc) → s₁.heap.CodeRec cd d.name → mg d.name = some (.ref fa) →
      s₁.heap.get? a = some { cls := .type "list", data := .seq vs.toArray } → IntsAre vs ns → ns.length ≤ n → s₁.gens = #[] →
      codeAny (model l.prog w) callerA (.call (.ref fa) ⟨[.ref a], []⟩) (fun r s' => r = .ok (.ret (.bool true)) ∧ OldK s₁.heap s'.heap ∧ s'.os = s₁.os ∧ AllBare s'.gens) s₁) :
    WalkO q loose XP YP l.row.toRowW d [] (fun f vs => PySem.call f vs) := by
  intro w s₀ s₁ mg mb G Y fa o pm cd doc dV kV ho hd hcd hD hmg hg args vals as hpre hlay hrd hwl hlo
  obtain rfl : dV = .none := Dflts.none hD hdf
  obtain rfl : kV = .none := Dflts.noKw hD
  obtain ⟨a, vs, ns, rfl, rfl, hobj, hints, hlen⟩ := script_of hn hpre hwl
  refine enter_call (codeAny_mono (call w s₀ s₁ mg mb fa o pm cd doc a vs ns G Y ho (fd_plain hd) hcd hmg hobj hints hlen hg) fun r s' hq => ?_)
  obtain ⟨rfl, h2, h3, h4⟩ := hq
  exact ⟨.inl ⟨.bool true, .bool true, [], rfl, fun _ => rfl, .bool true, post_true l _, fun _ => ⟨List.Pairwise.nil, fun _ hm => (nomatch hm)⟩⟩, h2, h3, h4⟩
section
variable {prog : Program} {w : World} {A : Around} {E : Value → Shared → Prop} {s : Shared} {K : Frag}
end
end Att
namespace L2
open PySem PySem.Spec PyProof.Rows
theorem vals_ints : ∀ {vs : List Value} {ns : List Int}, IntsAre vs ns → Vals (ns.map V.int) vs
  | _, _, .nil => .nil
  | _, _, .cons n t h => .cons ⟨t, rfl⟩ (vals_ints h)
noncomputable def Only (H : Hp) : Prop := ∀ b, H b = none ∨ ∃ o xs, H b = some (.frz o (.lst xs))
theorem law_call {P : Program} {w : World} {K : PySem.W.Frag} {mg mb : Str → Option Value} {CX : CXT} {k : Nat} {fa a : Addr} {fd : FuncData} {x : Str} {sp : Sp} {s₁ : Shared} {vs : List Value} {ns : List Int}
    (KX : K.In s₁.heap) (hns : s₁.heap.Ns mainGlobals mg) (hb : s₁.heap.Ns builtinsNs mb) (hbb : ∀ x : Str, x ≠ "__name__" → mb x = bootBuiltins x) (hlim : s₁.heap.NoLimit) (hg : s₁.gens = #[])
    (ha : s₁.heap.get? a = some { cls := .type "list", data := .seq vs.toArray }) (hi : IntsAre vs ns) (hl : ns.length ≤ sizeLine) (hr : Room k callerA)
    (F : ∀ base : Heap, K.In base → base.Ns mainGlobals mg → FnOk P w K mg base CX k fa fd [x] sp) (hbind : ∀ (s : Shared) (u : Value), BindsTo s fd ⟨[u], []⟩ [(x, u)])
    (hsp : ∀ H : Hp, Only H → SqL K H a (ns.map V.int) → sp [.ref a] H (fun v _ => v = .bl true) fun _ _ _ => False)
    (hCX : ∀ H e s', CX [] H s₁ (fun _ _ _ => False) e s' → False) :
    codeAny (model P w) callerA (.call (.ref fa) ⟨[.ref a], []⟩) (fun r s' => r = .ok (.ret (.bool true)) ∧ OldK s₁.heap s'.heap ∧ s'.os = s₁.os ∧ AllBare s'.gens) s₁ := by
  have rv := vals_ints hi
  have lenV := hi.length
  -- from an abstract heap in which nothing but the script may be tracked
  have core : ∀ H : Hp, Only H → SqL K H a (ns.map V.int) → HOk P w H s₁.heap → (∀ b, H b ≠ none → b = a) → (H a ≠ none → K.lookup a = none) →
      codeAny (model P w) callerA (.call (.ref fa) ⟨[.ref a], []⟩) (fun r s' => r = .ok (.ret (.bool true)) ∧ OldK s₁.heap s'.heap ∧ s'.os = s₁.os ∧ AllBare s'.gens) s₁ := by
    intro H hO hS hok hA hK
    have base_of : ∀ {b : Addr} {o : Obj}, s₁.heap.get? b = some o → H b = none → (hidT s₁.heap H).get? b = some o := fun e n => hidT_get e n
    have noA : ∀ {b : Addr} {o : Obj} {es : Array DictEntry} {ep : Nat}, s₁.heap.get? b = some o → o.data = .dict es ep → H b = none := fun {b o es ep} e d => by
      cases q : H b with
      | none => rfl
      | some u =>
        have e' : b = a := hA b (by rw [q]; simp)
        subst e'
        rw [ha] at e; cases e
        have d' : Data.seq vs.toArray _ = Data.dict es ep := d
        cases d'
    have nsK : ∀ {b : Addr} {m : Str → Option Value}, s₁.heap.Ns b m → (hidT s₁.heap H).Ns b m := fun {b m} zq10 => by obtain ⟨o, es, ep, e, d, r⟩ := zq10; exact (⟨o, es, ep, base_of e (noA e d), d, r⟩)
    have hKb : K.In (hidT s₁.heap H) := fun b o e => base_of (KX b o e) (by
      cases q : H b with
      | none => rfl
      | some u =>
        have e' : b = a := hA b (by rw [q]; simp)
        subst e'
        rw [hK (by rw [q]; simp)] at e; cases e)
    have hM : Mod K mg (hidT s₁.heap H) := ⟨hKb, nsK hns, ⟨mb, nsK hb, hbb⟩, let ⟨mc, h1, h2⟩ := hlim; ⟨mc, nsK h1, h2⟩⟩
    have e0 : Env0 P w K mg (hidT s₁.heap H) callerA [] s₁ H := ⟨rfl, hM, fun b o e => of_hidT e, Nat.le_of_eq (hidT_size _ _), trivial, fun b hb => absurd (show b ∈ ([] : List Addr) from hb) (by simp), hok, .of_eq hg⟩
    refine codeAny_mono ((F _ hKb (nsK hns)).run callerA [] s₁ H ⟨[.ref a], []⟩ [.ref a] [.ref a] _ _ hr e0 (hbind s₁ (.ref a)) (.cons rfl .nil) (hsp H hO hS)) fun r s' h => ?_
    cases r with
    | error e => exact (hCX H e s' h).elim
    | ok fl =>
      cases fl with
      | next => exact False.elim h
      | brk => exact False.elim h
      | cont => exact False.elim h
      | ret u =>
        obtain ⟨v, H', os, bare, un, hok', r', q⟩ := h
        have q' : v = .bl true := q
        subst q'
        obtain rfl : u = Value.bool true := r'
        refine ⟨rfl, OldK.of_keep fun b o e => ?_, os, bare⟩
        cases q : H b with
        | none => exact un.keep b o e q (by intro z; exact absurd (show b ∈ ([] : List Addr) from z) (by simp)) (by simp)
        | some u =>
          rcases hO b with z | ⟨ob, xs, z⟩
          · rw [q] at z; cases z
          · have z2 := un.frzs b ob _ z
            obtain ⟨e1, _⟩ := hok b _ z
            obtain ⟨e2, _⟩ := hok' b _ z2
            rw [e] at e1; cases e1
            exact e2
  cases hk : K.lookup a with
  | some o =>
    -- the script is one of the module's own objects
    have e := KX a o hk
    rw [ha] at e
    cases e
    refine core (fun _ => none) (fun _ => .inl rfl) (.inr ⟨_, vs.toArray, _, hk, rfl, rfl, rfl, by rw [List.size_toArray, lenV]; exact hl, by simpa using rv⟩) (fun b u z => by have z' : (none : Option HO) = some u := z; cases z') (fun b z => absurd rfl z) fun z => absurd rfl z
  | none =>
    refine core (fun b => if b = a then some (.frz { cls := .type "list", data := .seq vs.toArray } (.lst (ns.map V.int))) else none) (fun b => ?_) (.inl (.inr ⟨{ cls := .type "list", data := .seq vs.toArray }, if_pos rfl⟩)) (fun b u z => ?_) (fun b z => ?_) fun _ => hk
    · by_cases hb : b = a
      · exact .inr ⟨_, _, if_pos hb⟩
      · exact .inl (if_neg hb)
    · by_cases hb : b = a
      · have z' := (if_pos hb).symm.trans z
        cases z'
        subst hb
        exact ⟨ha, by rw [List.length_map]; exact hl, vs, _, rv, ha⟩
      · have z' := (if_neg hb).symm.trans z
        cases z'
    · by_cases hb : b = a
      · exact hb
      · exact absurd (if_neg hb) z
end L2
namespace L2
open PySem PySem.Spec PyProof.Rows
noncomputable abbrev KOf {K : PySem.W.Frag} {h : Heap} (_ : K.In h) : PySem.W.Frag := K
theorem walk_of {l : PySem.W.OpenLaw} {n k : Nat} {q : Program} {loose : List Str} {XP : (Str → Option Value) → Heap → Prop} {YP : World → Heap → Prop} {d : DefRec} {K : Params → PySem.W.Frag} {CX : World → CXT} {sp : World → Sp} {x : Str}
    (hn : l.most = some n) (hn2 : n ≤ sizeLine) (hdf : d.params.defaults = []) (hr : Room k callerA)
    (hY : ∀ (w : World) (h : Heap), YP w h → (K w.params).In h)
    (F : ∀ (w : World) (mg : Str → Option Value) (fa : Addr) (h : Heap), (K w.params).In h → h.Ns mainGlobals mg → mg d.name = some (.ref fa) →
      ∃ fd : FuncData, (∀ (s : Shared) (u : Value), BindsTo s fd ⟨[u], []⟩ [(x, u)]) ∧
        ∀ base : Heap, (K w.params).In base → base.Ns mainGlobals mg → FnOk l.prog w (K w.params) mg base (CX w) k fa fd [x] (sp w))
    (hsp : ∀ (w : World) (H : Hp) (a : Addr) (ns : List Int), ns.length ≤ n → Only H → SqL (K w.params) H a (ns.map V.int) → sp w [.ref a] H (fun v _ => v = .bl true) fun _ _ _ => False)
    (hCX : ∀ (w : World) (H : Hp) (s : Shared) (e : Value) (s' : Shared), CX w [] H s (fun _ _ _ => False) e s' → False) :
    PySem.W.WalkO q loose XP YP l.row.toRowW d [] (fun f vs => PySem.call f vs) := by
  refine Att.attach_call hn hdf fun w s₀ s₁ mg mb fa o pm cd doc a vs ns G Y ho hd hcd hmg hobj hints hlen hg => ?_
  have KX := hY w _ Y
  obtain ⟨fd, hb, hF⟩ := F w mg fa _ KX G.T.g hmg
  exact law_call KX G.T.g G.T.b G.T.builtins G.T.nolimit hg hobj hints (Nat.le_trans hlen hn2) hr hF hb (fun H hO hS => hsp w H a ns hlen hO hS) fun H e s' => hCX w H s₁ e s'
end L2
/- THE LAST THEOREM (shape; LID, My.* are yours):
   My.Adr: a structure of the addresses that your layer names (classes, functions); My.Txt K t: a structure (Prop) of the equations over K;
   My.txt_mk : {K} {implicit addresses ..} (e1 : nsIn K mainGlobals "law" = some (some (.ref f))) (e2 : K.lookup f = some ⟨oc, od, .func (fnOf "law" "law" params body scope dV kV doc pm an cdv ct), sl⟩) (e3 : codeIn K cdv "law" = true) .. : ∃ t, My.Txt K t
set_option maxRecDepth 100000 in
set_option maxHeartbeats 0 in
theorem PySem.Challenge.cw_LID_holds : PySem.Challenge.rw_LID.Holds := by
  w_on; o_law; k_head; (case hw => w_witness2)
  k_fill
  refine L2.walk_of (l := PySem.Challenge.rw_LID) (n := 63) (k := 40) (x := "script") (CX := fun w => ..) (sp := fun _ => My.sp_law) rfl (by decide) rfl ⟨rfl, by decide, by decide⟩ (fun w h Y => PySem.W.kIn_of Y) ?F ?S ?C
  case F =>
    intro w mg fa h KX G hmg
    have T : ∃ t, My.Txt (L2.KOf KX) t := by
      dsimp only [L2.KOf]                          -- K must stand as «<heap const> w.params» for k_is
      refine' My.txt_mk ?e1 ?e2 ?e3 ..
      (case e1 => PySem.W.k_is)                    -- in the order: a name -> its address -> its object -> its parts
      (case e2 => PySem.W.k_is)
      ..
    obtain ⟨t, T⟩ := T
    have e0 := hmg.symm.trans (PySem.W.mg_of KX G T.law)
    cases e0                                       -- fa is the law's own address
    exact ⟨_, fun s u => .of_eq rfl, fun base kb nb => My.law_fn T kb nb⟩     -- if «.of_eq rfl» comes too early: refine' ⟨_, ?b, fun base kb nb => My.law_fn T kb nb⟩; exact fun s u => .of_eq rfl
  case S => exact fun w H a ns hl hO hS => ..
  case C => exact ..
(the tactic k_is has no namespace: write k_is) -/
namespace L2
open PySem PySem.Spec PyProof.Rows
noncomputable def defArgs (s : Stmt) : Arguments := match s with
  | .FunctionDef _ a _ _ _ _ _ _ _ _ => a
  | _ => { posonlyargs := [], args := [], vararg := none, kwonlyargs := [], kw_defaults := [], kwarg := none, defaults := [] }
noncomputable def defBody (s : Stmt) : List Stmt := match s with
  | .FunctionDef _ _ b _ _ _ _ _ _ _ => b
  | _ => []
noncomputable def defScope (s : Stmt) : Scope := match s with
  | .FunctionDef _ _ _ _ _ _ sc _ _ _ => sc
  | _ => { kind := .function, names := [], isGenerator := false, isCoroutine := false }
noncomputable abbrev CX0 : CXT := fun _ _ _ _ _ _ => False
noncomputable abbrev E0 : XK := fun _ _ _ => False
theorem pass0 {X : Cx} : Passes CX0 X E0 := fun _ _ _ _ _ _ _ h => h.elim
structure Fun (K : PySem.W.Frag) (x qual : Str) (st : Stmt) (f : Addr) (fd : FuncData) : Prop where
  ex : ∃ (oc : Value) (od : Option Addr) (kV doc pm : Value) (an : Option Addr) (cdv ct : Value) (osl : Array (Option Value)),
    fd = PySem.W.fnOf x qual (defArgs st) (defBody st) (defScope st) .none kV doc pm an cdv ct ∧ K.lookup f = some ⟨oc, od, .func fd, osl⟩ ∧ PySem.W.codeIn K cdv qual = true
  kp : PySem.W.keepIn K (.ref f) = true
section
variable {P : Program} {w : World} {K : PySem.W.Frag} {mg : Str → Option Value} {base : Heap}
theorem Fun.ok {x qual : Str} {st : Stmt} {f : Addr} {fd : FuncData} {N ps : List Str} {k : Nat} {sp : Sp} (F : Fun K x qual st f fd) (S : FnScope N ps (defScope st)) (len : ∀ vs H Q E, sp vs H Q E → vs.length = ps.length)
    (hbody : ∀ (cdv : Value) (A : Around) (outer : List Env) (s : Shared) (H : Hp) (vs : List V) (Q : VK) (E : XK), Room k (A.deeper (envOfC qual (defScope st) s.heap.objs.size f cdv)) → sp vs H Q E →
      ∃ t, PSs (cxOf CX0 P w K mg base N qual (defScope st) f cdv A outer s H E).nox (defBody st) t ∧ t { nx := fun _ H' => Q .non H', rt := Q } (start N vs) H) : FnOk P w K mg base CX0 (k + 1) f fd ps sp := by
  obtain ⟨oc, od, kV, doc, pm, an, cdv, ct, osl, rfl, lk, hcd⟩ := F.ex
  refine fn_of lk hcd S len fun A outer s H vs Q E hr hsp => ?_
  obtain ⟨t, h, q⟩ := hbody cdv A outer s H vs Q E hr hsp
  exact ⟨t, h.nox, q⟩
theorem Fun.binds {x qual : Str} {st : Stmt} {f : Addr} {fd : FuncData} {ps : List Str} (F : Fun K x qual st f fd)
    (h : ∀ (kV doc pm : Value) (an : Option Addr) (cdv ct : Value) (us : List Value), us.length = ps.length → bindArgs (PySem.W.fnOf x qual (defArgs st) (defBody st) (defScope st) .none kV doc pm an cdv ct) ⟨us, []⟩ = pure (ps.zip us)) : Binds K fd ps [] := by
  obtain ⟨oc, od, kV, doc, pm, an, cdv, ct, osl, rfl, lk, hcd⟩ := F.ex
  exact .all (h kV doc pm an cdv ct)
theorem fun_mk {x qual : Str} {st : Stmt} {f : Addr} {oc : Value} {od an : Option Addr} {osl : Array (Option Value)} {kV doc pm cdv ct : Value} (l : K.lookup f = some ⟨oc, od, .func (PySem.W.fnOf x qual (defArgs st) (defBody st) (defScope st) .none kV doc pm an cdv ct), osl⟩)
    (c : PySem.W.codeIn K cdv qual = true) (k : PySem.W.keepIn K (.ref f) = true) : Fun K x qual st f (PySem.W.fnOf x qual (defArgs st) (defBody st) (defScope st) .none kV doc pm an cdv ct) := ⟨⟨oc, od, kV, doc, pm, an, cdv, ct, osl, rfl, l, c⟩, k⟩
end
theorem hu_of {A : Around} {k : Nat} (hr : Room k A) : A.units + 1 < cLine := Nat.lt_of_le_of_lt (Nat.add_le_add_left (by decide : 1 ≤ 64) _) hr.units
theorem small1000 {n : Nat} (h : n ≤ 1000) : n < sizeLine := Nat.lt_of_le_of_lt h (by decide)
section
variable {X : Cx}
end
theorem ite2 {c A B : Prop} [Decidable c] (h1 : c → A) (h2 : ¬ c → B) : if c then A else B := by
  by_cases h : c
  · rw [if_pos h]
    exact h1 h
  · rw [if_neg h]
    exact h2 h
noncomputable def Same (H H' : Hp) : Prop := ∀ b o, H b = some o → H' b = some o
theorem Same.refl (H : Hp) : Same H H := fun _ _ h => h
theorem Same.trans {H H1 H2 : Hp} (a : Same H H1) (b : Same H1 H2) : Same H H2 := fun c o h => b c o (a c o h)
theorem Same.free {H H' : Hp} (e : Same H H') {l : Addr} (h : H' l = Option.none) : H l = Option.none := by
  cases q : H l with
  | none => rfl
  | some o =>
    rw [e l o q] at h
    cases h
theorem Same.seq {K : PySem.W.Frag} {H H' : Hp} {a : Addr} {xs : List V} (e : Same H H') (h : SqL K H a xs) : SqL K H' a xs := by
  rcases h with (h | ⟨o, h⟩) | h
  · exact .inl (.inl (e _ _ h))
  · exact .inl (.inr ⟨o, e _ _ h⟩)
  · exact .inr h
end L2
namespace L2
open PySem PySem.Spec PyProof.Rows
section
variable {X : Cx}
end
section
variable {κ : Type} [DecidableEq κ]
end
end L2
set_option Elab.async false
set_option linter.all false
set_option maxRecDepth 100000
namespace L2
open PySem PySem.Spec PyProof.Rows
theorem compLoop_any {prog : Program} {w : World} {A : Around} {R : Result → Shared → Prop} {s : Shared} {elt target iter : Expr} {ifs : List Expr} {scope : Scope} {pos : Pos} {it acc : Value} {env : Env} (I : Nat → Shared → Prop)
    (turn : ∀ n s, I n s → wpAny (model prog w) A (pyNext it) (fun r s₁ => match r with
      | none => R (.ok .next) s₁
      | some v => wpAny (model prog w) A (letOwnedTupleGo target it v) (fun _ s₁ => wpAny (model prog w) A (assign target env v) (fun _ s₂ =>
          wpAny (model prog w) A (forIn ifs true fun c r => if r = true then do let ok ← isTrue c env (eval c env); pure (ForInStep.yield ok) else pure (ForInStep.yield r)) (fun ok s₃ =>
            if ok = true then wpAny (model prog w) A (eval elt env) (fun x s₄ =>
              wpAny (model prog w) A (call (.builtin "list.append") [acc, x]) (fun _ s₅ => ∃ m, m < n ∧ I m s₅) (notedBy (model prog w) A env fun e s' => R (.error e) s') s₄) (notedBy (model prog w) A env fun e s' => R (.error e) s') s₃
            else ∃ m, m < n ∧ I m s₃) (notedBy (model prog w) A env fun e s' => R (.error e) s') s₂) (notedBy (model prog w) A env fun e s' => R (.error e) s') s₁) (notedBy (model prog w) A env fun e s' => R (.error e) s') s₁) (notedBy (model prog w) A env fun e s' => R (.error e) s') s)
    (n : Nat) (h : I n s) :
    codeAny (model prog w) A (.compLoop (.ListComp elt [⟨target, iter, ifs, 0⟩] scope pos) 0 it acc env) R s := by
  refine codeAny_loop rfl I (fun n s hI => ?_) n h
  show wpAny _ A ((compTurn (.ListComp elt [⟨target, iter, ifs, 0⟩] scope pos) 0 it acc env).onRaise (fun x => do noteFrame x env; theTreesLotGoes x)) _ _ s
  refine wpAny_noted ?_
  rw [compTurn_list]
  refine wpAny_bind (wpAny_standAt (wpAny_bind (wpAny_mono (turn n s hI) (fun r s₁ h₁ => ?_) fun _ _ h' => h')))
  cases r with
  | none => exact wpAny_pure h₁
  | some v =>
    refine wpAny_bind (wpAny_mono h₁ (fun _ s₁ h₁ => ?_) fun _ _ h' => h')
    refine wpAny_bind (wpAny_mono h₁ (fun _ s₂ h₂ => wpAny_bind (wpAny_mono h₂ (fun ok s₃ h₃ => ?_) fun _ _ h' => h')) fun _ _ h' => h')
    cases ok with
    | false => exact wpAny_pure ⟨rfl, h₃⟩
    | true =>
      exact wpAny_bind (wpAny_bind (wpAny_mono h₃ (fun x s₄ h₄ => wpAny_bind (wpAny_mono h₄ (fun _ s₅ h₅ => wpAny_pure (wpAny_pure ⟨rfl, h₅⟩)) fun _ _ h' => h')) fun _ _ h' => h'))
noncomputable def PTs (X : Cx) (ifs : List Expr) (t : TT) : Prop :=
  ∀ (pins : List (Addr × Obj)) (s : Shared) (σ : St) (H : Hp) (Q : Bool → Hp → Prop), Inv X pins σ H s → t σ H Q →
    wpAny (model X.prog X.w) X.A (forIn ifs true fun c r => if r = true then do let ok ← isTrue c X.env (eval c X.env); pure (ForInStep.yield ok) else pure (ForInStep.yield r)) (TP X pins σ Q) X.xe s
noncomputable def tYes : TT := fun _ H Q => Q true H
theorem pts_nil {X : Cx} : PTs X [] tYes := fun _ _ _ H _ I h => wpAny_tests_nil ⟨H, I, h⟩
theorem pts_one {X : Cx} {c : Expr} {t : TT} (hc : PT X c t) : PTs X [c] t := fun pins s σ H Q I h => wpAny_tests_one (hc pins s σ H Q I h)
theorem closure_of {env : Env} : ∀ (names : List (Str × NameKind)) (acc : List (Str × Addr)), (∀ x ∈ names, x.2 = .free → ∃ c, env.cells.lookup x.1 = some c) →
    ∃ cl, (forIn (m := Sem) names acc fun x r => match x with
      | (name, kind) => if (kind == NameKind.free) = true then do let c ← cellOf env name; pure (ForInStep.yield ((name, c) :: r)) else pure (ForInStep.yield r)) = pure cl ∧
      (∀ x c, cl.lookup x = some c → acc.lookup x = some c ∨ env.cells.lookup x = some c) ∧ (∀ x, (acc.lookup x).isSome = true → (cl.lookup x).isSome = true) ∧ (∀ x, (x, NameKind.free) ∈ names → (cl.lookup x).isSome = true)
  | [], acc, _ => ⟨acc, rfl, fun x c h => .inl h, fun x h => h, fun x h => nomatch h⟩
  | (n, k) :: r, acc, h => by
    by_cases hk : k = .free
    · subst hk
      obtain ⟨c, hc⟩ := h (n, .free) List.mem_cons_self rfl
      obtain ⟨cl, e, h1, h2, h3⟩ := closure_of r ((n, c) :: acc) (fun x hx => h x (List.mem_cons_of_mem _ hx))
      refine ⟨cl, ?_, fun x d hd => ?_, fun x hx => h2 x ?_, fun x hx => ?_⟩
      · simp only [List.forIn_cons, beq_self_eq_true, if_true, cellOf, hc]
        exact e
      · rcases h1 x d hd with q | q
        · simp only [List.lookup_cons] at q
          split at q
          · rename_i hb
            have : x = n := by simpa using hb
            subst this
            cases q
            exact .inr hc
          · exact .inl q
        · exact .inr q
      · simp only [List.lookup_cons]
        split
        · rfl
        · exact hx
      · rcases List.mem_cons.mp hx with q | q
        · cases q
          exact h2 n (by simp)
        · exact h3 x q
    · obtain ⟨cl, e, h1, h2, h3⟩ := closure_of r acc (fun x hx => h x (List.mem_cons_of_mem _ hx))
      refine ⟨cl, ?_, h1, h2, fun x hx => ?_⟩
      · have : (k == NameKind.free) = false := by simpa using hk
        simp only [List.forIn_cons, this, Bool.false_eq_true, if_false]
        exact e
      · rcases List.mem_cons.mp hx with q | q
        · cases q
          exact absurd rfl hk
        · exact h3 x q
noncomputable def compCx (X : Cx) (scope : Scope) (N : List Str) (cl : List (Str × Addr)) (C : Addr) (fp : List Addr) (s : Shared) (H : Hp) (xe : Value → Shared → Prop) : Cx where
  prog := X.prog
  w := X.w
  K := X.K
  mg := X.mg
  base := X.base
  A := X.A
  N := N
  s₀ := s
  H₀ := H
  env := compEnvC scope cl C X.env
  outer := X.stack
  stack := X.stack
  ex := fp
  fn := fun _ => false
  calm := X.calm
  pn := []
  xe := xe
noncomputable def inner (nt : Nat) (js : List Nat) (σ : St) : St := List.replicate nt none ++ js.map fun j => (σ[j]?).join
noncomputable def Wk (σ0 σ2 : St) : Prop := σ0.length = σ2.length ∧ ∀ (i : Nat) v, σ0[i]? = some (some v) → σ2[i]? = some (some v)
noncomputable def TgOk (g : TG) (nt : Nat) : Prop := ∀ (x : V) (σ0 : St) (H : Hp) (Q : St → Hp → Prop), (∀ i, i < nt → σ0[i]? = some none) → g x σ0 H Q → g x σ0 H fun σ2 H2 => Wk σ0 σ2 ∧ Q σ2 H2
theorem Wk.set {σ0 : St} {i : Nat} {v : V} (h : σ0[i]? = some none) : Wk σ0 (σ0.set i (some v)) := by
  refine ⟨by simp, fun j w e => ?_⟩
  by_cases hj : j = i
  · subst hj; rw [h] at e; cases e
  · rw [List.getElem?_set_ne (Ne.symm hj)]; exact e
theorem Wk.trans {a b c : St} (h : Wk a b) (h' : Wk b c) : Wk a c := ⟨h.1.trans h'.1, fun i v e => h'.2 i v (h.2 i v e)⟩
theorem tgOk_name {i nt : Nat} (hi : i < nt) : TgOk (gName i) nt := fun x σ0 H Q h q => ⟨Wk.set (h i hi), q⟩
theorem inner_none {nt : Nat} {js : List Nat} {σ : St} : ∀ i, i < nt → (inner nt js σ)[i]? = some none := fun i hi => by
  unfold inner
  rw [List.getElem?_append_left (by simpa using hi)]
  simp [hi]
noncomputable def tComp (nt : Nat) (js : List Nat) (wi : TI) (g : TG) (tc : TT) (te : TE) : TE := fun σ H Q => wi σ H fun J H1 => ∀ D, H1 D = none → ∃ W : Nat → Nat → List V → Hp → Prop, (∃ m, W 0 m [] (upd H1 D (.lst []))) ∧
  ∀ i m ys H2, W i m ys H2 → (J.stop i H2 ∧ Q (.ref D) H2) ∨ (J.go i H2 ∧ ∃ N : List V → Hp → Prop, (∀ ys' H', N ys' H' → ∃ m', m' < m ∧ W (i + 1) m' ys' H') ∧
    ∀ x H', J.yld i H2 x H' → g x (inner nt js σ) H' fun σ2 H3 => tc σ2 H3 fun b H4 => if b = true then te σ2 H4 fun y H5 => H5 D = some (.lst ys) ∧ ys.length < sizeLine ∧ N (ys ++ [y]) (upd H5 D (.lst (ys ++ [y]))) else N ys H4)
section
variable {X : Cx}
structure CompOk (X : Cx) (scope : Scope) (N : List Str) (nt : Nat) (js : List Nat) : Prop where
  kind : scope.kind = .function
  nd : N.Nodup
  len : N.length = nt + js.length
  /-- each name of around: its slot there, where it is a cell or free -/
  at_ : ∀ (k : Nat) (j : Nat) (x : Str), js[k]? = some j → N[nt + k]? = some x → X.N[j]? = some x ∧ (X.env.scope.names.lookup x = some .cell ∨ X.env.scope.names.lookup x = some .free)
  frl : ∀ (k : Nat) (x : Str), N[nt + k]? = some x → scope.names.lookup x = some .free
  own : ∀ y ∈ scope.names, y.2 ≠ .cell
  loc : ∀ y ∈ scope.names, y.2 = .local → scope.names.lookup y.1 = some .local
  free : ∀ y ∈ scope.names, y.2 = .free → X.env.scope.names.lookup y.1 = some .cell ∨ X.env.scope.names.lookup y.1 = some .free
theorem relabel_free {env : Env} : ∀ {names : List (Str × NameKind)} {x : Str}, ((names.map fun (n, k) => if (k == NameKind.free && env.scope.kind == .function && env.kindOf n == some .cell) then (n, NameKind.cell) else (n, k)).lookup x = some .cell ∨ (names.map fun (n, k) => if (k == NameKind.free && env.scope.kind == .function && env.kindOf n == some .cell) then (n, NameKind.cell) else (n, k)).lookup x = some .free) →
    (∀ y ∈ names, y.2 ≠ .cell) → (x, NameKind.free) ∈ names
  | [], x, h, _ => by rcases h with h | h <;> simp at h
  | (n, k) :: r, x, h, hc => by
    have ih := @relabel_free env r x
    have hr : ∀ y ∈ r, y.2 ≠ .cell := fun y hy => hc y (List.mem_cons_of_mem _ hy)
    cases hx : x == n with
    | true =>
      have e : x = n := by simpa using hx
      subst e
      have kf : k = .free := by
        simp only [List.map_cons] at h
        by_cases q : (k == NameKind.free && env.scope.kind == .function && env.kindOf x == some .cell) = true
        · simp only [Bool.and_eq_true, beq_iff_eq] at q
          exact q.1.1
        · rw [if_neg q] at h
          simp only [List.lookup_cons, beq_self_eq_true] at h
          rcases h with h | h
          · cases h
            exact absurd rfl (hc _ List.mem_cons_self)
          · exact Option.some.inj h
      subst kf
      exact List.mem_cons_self
    | false =>
      refine List.mem_cons_of_mem _ (ih ?_ hr)
      simp only [List.map_cons] at h
      by_cases q : (k == NameKind.free && env.scope.kind == .function && env.kindOf n == some .cell) = true
      · rw [if_pos q] at h; simpa only [List.lookup_cons, hx] using h
      · rw [if_neg q] at h; simpa only [List.lookup_cons, hx] using h
theorem lookup_relabel_free {env : Env} : ∀ {names : List (Str × NameKind)} {x : Str}, names.lookup x = some .free →
    ((names.map fun (n, k) => if (k == NameKind.free && env.scope.kind == .function && env.kindOf n == some .cell) then (n, NameKind.cell) else (n, k)).lookup x = some .cell ∨ (names.map fun (n, k) => if (k == NameKind.free && env.scope.kind == .function && env.kindOf n == some .cell) then (n, NameKind.cell) else (n, k)).lookup x = some .free)
  | [], _, h => by simp at h
  | (n, k) :: r, x, h => by
    have ih := @lookup_relabel_free env r x
    simp only [List.map_cons]
    cases hx : x == n with
    | true =>
      simp only [List.lookup_cons, hx] at h
      cases h
      by_cases q : (NameKind.free == NameKind.free && env.scope.kind == .function && env.kindOf n == some .cell) = true
      · rw [if_pos q]; simp only [List.lookup_cons, hx]; simp
      · rw [if_neg q]; simp only [List.lookup_cons, hx]; simp
    | false =>
      simp only [List.lookup_cons, hx] at h
      by_cases q : (k == NameKind.free && env.scope.kind == .function && env.kindOf n == some .cell) = true
      · rw [if_pos q]; simp only [List.lookup_cons, hx]; exact ih h
      · rw [if_neg q]; simp only [List.lookup_cons, hx]; exact ih h
theorem comp_start {scope : Scope} {N : List Str} {nt : Nat} {js : List Nat} {cl : List (Str × Addr)} {fp : List Addr} {pins : List (Addr × Obj)} {σ : St} {H H1 : Hp} {s : Shared} {h' : Heap} {C : Addr} {tk : Nat} {xe : Value → Shared → Prop} {m : Str → Option Value}
    (S : CompOk X scope N nt js) (I : Inv X pins σ H s) (hf : ∀ b ∈ fp, FpOk X pins H b) (hcl : ∀ x c, cl.lookup x = some c → X.env.cells.lookup x = some c) (hcl2 : ∀ x, (x, NameKind.free) ∈ scope.names → (cl.lookup x).isSome = true)
    (hfp : ∀ b ∈ fp, b < s.heap.objs.size) (hC : s.heap.objs.size ≤ C) (k : ∀ b o, s.heap.get? b = some o → h'.get? b = some o) (hs : ∀ b o, H b = some o → H1 b = some o) (hs2 : ∀ b, H b = none → b < s.heap.objs.size → H1 b = none) (hok : HOk X.prog X.w H1 h') (hn : h'.Ns C m) (hC0 : H1 C = none)
    (hm : ∀ x, m x = none) :
    Inv (compCx X scope N cl C fp s H xe) [] (inner nt js σ) H1 { s with heap := h', toks := tk } := by
  have hfs : ∀ b ∈ fp, b ∉ frs X.stack := fun b hb z => by
    obtain ⟨f0, f1, f2, _⟩ := hf b hb
    rcases List.mem_cons.mp (I.stkSub b z) with q | q
    · exact f1 q
    · exact f2 q
  refine ⟨⟨I.ok.mod, S.kind, I.ok.glob, I.ok.blt, hC, fun x y c h1 h2 => I.ok.inj x y c (hcl x c h1) (hcl y c h2), fun x hx => ?_, fun x c z => (Bool.false_ne_true z).elim, I.ok.hd, I.ok.frames, .inl rfl, fun b hb => ?_, I.bs, Nat.le_trans I.ok.bsz I.sz, fun b o e hb => ?_, hfs, I.stack, I.stkFree⟩,
    rfl, I.bare, ?_, ⟨m, hn, fun i x v h1 h2 h3 => ?_⟩, fun x c e => ?_, hC0, fun x c e => ?_, fun p hp => absurd (show p ∈ ([] : List (Addr × Obj)) from hp) (by simp), hok, ?_⟩
  · have q : (x, NameKind.free) ∈ scope.names := relabel_free (env := X.env) hx S.own
    exact Option.isSome_iff_exists.mp (hcl2 x q)
  · obtain ⟨f0, f1, f2, f3, f4, f5⟩ := hf b hb
    refine ⟨Nat.ne_of_lt (Nat.lt_of_lt_of_le (hfp b hb) hC), fun x c e => f4 x c (hcl x c e)⟩
  · have := hf b hb
    obtain ⟨f0, f1, f2, f3, f4, f5⟩ := this
    rcases f3 with f3 | f3
    · exact I.ok.noex b o e f3
    · exact absurd (Nat.lt_of_lt_of_le (Heap.lt_size e) (Nat.le_trans I.ok.bsz f3)) (Nat.lt_irrefl _)
  · refine ⟨fun b o e n _ _ => k b o e, fun b o e n _ _ => ⟨o.slots, k b o e⟩, fun b o e n _ => hs2 b n (Heap.lt_size e), fun b o e _ => ⟨o, k b o e⟩, fun b xs e => hs b _ e, fun b o u e => hs b _ e, fun b ps e => ⟨#[], by rw [hs b _ e]; simp⟩⟩
  · by_cases hi : i < nt
    · rw [inner_none i hi] at h2; cases h2
    · obtain ⟨k', rfl⟩ : ∃ k', i = nt + k' := ⟨i - nt, by omega⟩
      unfold inner at h2
      rw [List.getElem?_append_right (by simp)] at h2
      simp only [List.length_replicate, Nat.add_sub_cancel_left, List.getElem?_map] at h2
      cases ej : js[k']? with
      | none => rw [ej] at h2; cases h2
      | some j =>
        rw [ej] at h2
        simp only [Option.map_some, Option.some.injEq] at h2
        obtain ⟨hN, hk⟩ := S.at_ k' j x ej h1
        have hσ : σ[j]? = some (some v) := by
          cases q : σ[j]? with
          | none => rw [q] at h2; cases h2
          | some z => rw [q] at h2; simp only [Option.join] at h2; rw [← h2]; rfl
        have vis : Vis X.env.scope x := by rcases hk with q | q; exact .inr (.inl q); exact .inr (.inr q)
        obtain ⟨m0, hn0, hl0⟩ := I.loc
        obtain ⟨u, r, l⟩ := hl0 j x v hN hσ vis
        refine ⟨u, r, ?_⟩
        rcases l with ⟨q, _⟩ | ⟨q, c, e, z⟩
        · have q' : X.env.scope.names.lookup x = some .local := q
          rw [q'] at hk
          rcases hk with hk | hk <;> cases hk
        · have hv : (relabel scope X.env).names.lookup x = some .cell ∨ (relabel scope X.env).names.lookup x = some .free := lookup_relabel_free (env := X.env) (S.frl k' x h1)
          have q : (x, NameKind.free) ∈ scope.names := relabel_free (env := X.env) hv S.own
          obtain ⟨c', e'⟩ := Option.isSome_iff_exists.mp (hcl2 x q)
          have e2 := hcl x c' e'
          rw [e] at e2; cases e2
          obtain ⟨oc, hoc, hd⟩ := z
          exact .inr ⟨hv, c, e', oc, k _ _ hoc, hd⟩
  · obtain ⟨v, oc, hoc, hd⟩ := I.cell x c (hcl x c e)
    exact ⟨v, oc, k _ _ hoc, hd⟩
  · have e2 := hcl x c e
    obtain ⟨v, oc, hoc, hd⟩ := I.cell x c e2
    exact hs2 c (I.freeC x c e2) (Heap.lt_size hoc)
  · unfold inner
    show _ = N.length
    rw [S.len]
    simp
theorem Inv.wk {Y : Cx} {pins : List (Addr × Obj)} {σ0 σ2 : St} {H : Hp} {s : Shared} (I : Inv Y pins σ2 H s) (h : Wk σ0 σ2) : Inv Y pins σ0 H s := I.weak h.1 h.2
theorem pe_comp {elt tg iter : Expr} {ifs : List Expr} {scope : Scope} {pos : Pos} {N : List Str} {nt : Nat} {js : List Nat} {wi : TI} {g : TG} {tc : TT} {te : TE}
    (hca : X.calm = true) (S : CompOk X scope N nt js) (hi : PI X tg iter wi)
    (hg : ∀ cl C fp s H xe, PG (compCx X scope N cl C fp s H xe) tg g) (hgo : TgOk g nt)
    (hc : ∀ cl C fp s H xe, PTs (compCx X scope N cl C fp s H xe) ifs tc)
    (he : ∀ cl C fp s H xe, PE (compCx X scope N cl C fp s H xe) elt te)
    (hs : ∀ x, foldedSetIterable iter X.env x = pure x := by intro _; rfl) :
    PE X (.ListComp elt [⟨tg, iter, ifs, 0⟩] scope pos) (tComp nt js wi g tc te) := by
  intro pins s σ H Q I h
  obtain ⟨cl, hclos, hcl1, _, hcl2⟩ := closure_of (env := X.env) scope.names [] (fun x hx hk => I.ok.has x.1 (S.free x hx hk))
  have hcl : ∀ x c, cl.lookup x = some c → X.env.cells.lookup x = some c := fun x c e => (hcl1 x c e).elim (fun z => by simp at z) fun z => z
  have hclos' : closureFor scope X.env = pure cl := by
    unfold closureFor
    simp only []
    rw [hclos]
    rfl
  rw [eval_ListComp]
  refine wpAny_comprehension_free (use := none) rfl hs hclos' S.kind S.loc (thn (hi pins s σ H _ I h) fun v s1 h1 => thn h1 fun itv s2 h2 => ?_)
  obtain ⟨it, fp, tn, J, H2, e, I2, T, st2, f2, q2⟩ := h2
  subst e
  have hfresh : H2 s2.heap.objs.size = none := I2.hok.fresh (Nat.le_refl _)
  obtain ⟨W, ⟨m0, w0⟩, turn⟩ := q2 s2.heap.objs.size hfresh
  refine wpAny_newObj_type (wpAny_newFunctionEnv S.own (by intro y hy; simp at hy) (fun h₁ hns₁ hsb₁ => ?_) S.kind)
  dsimp only at hns₁ hsb₁ ⊢
  generalize hG : s2.heap.push { cls := .type "list", dict := none, data := .seq ([] : List Value).toArray } = G at hns₁ hsb₁ ⊢
  have hGs : G.objs.size = s2.heap.objs.size + 1 := by rw [← hG, Heap.size_push]
  have kold : ∀ b o, s2.heap.get? b = some o → h₁.get? b = some o := fun b o e =>
    hsb₁.extBut b o (by rw [hGs]; exact Nat.ne_of_lt (Nat.lt_succ_of_lt (Heap.lt_size e))) (Heap.get?_push_of_some _ (hG ▸ Heap.get?_push_of_some _ e))
  have kD : h₁.get? s2.heap.objs.size = some { cls := .type "list", dict := none, data := .seq ([] : List Value).toArray } :=
    hsb₁.extBut _ _ (by rw [hGs]; exact Nat.ne_of_lt (Nat.lt_succ_self _)) (Heap.get?_push_of_some _ (hG ▸ Heap.get?_push_size _ rfl))
  have hok1 : HOk X.prog X.w (upd H2 s2.heap.objs.size (.lst [])) h₁ := I2.hok.laid kold (Nat.le_refl _) ⟨Nat.zero_le _, [], 0, .nil, kD⟩
  have hfpl : ∀ b ∈ fp, b < s2.heap.objs.size := fun b hb => by
    obtain ⟨o, e, _⟩ := T.obj _ _ st2 b hb
    exact Heap.lt_size e
  have hC0 : (upd H2 s2.heap.objs.size (.lst [])) G.objs.size = none := by
    rw [upd_ne (by rw [hGs]; exact Nat.ne_of_gt (Nat.lt_succ_self _))]
    exact I2.hok.fresh (by rw [hGs]; exact Nat.le_succ _)
  generalize hRR : (compPost (model X.prog X.w) X.A X.xe none (EP X pins σ Q) (.ref s2.heap.objs.size) G.objs.size) = RR
  have stat : ∀ {H' : Hp}, (∀ b ∈ fp, H' b = none) → ∀ b ∈ fp, FpOk (compCx X scope N cl G.objs.size fp s2 H2 (notedBy (model X.prog X.w) X.A (compEnvC scope cl G.objs.size X.env) fun e s' => RR (.error e) s')) [] H' b := fun {H'} hn b hb => by
    obtain ⟨f0, f1, f2', f3, f4, f5⟩ := f2 b hb
    refine ⟨hn b hb, Nat.ne_of_lt (Nat.lt_of_lt_of_le (hfpl b hb) (by show _ ≤ G.objs.size; rw [hGs]; exact Nat.le_succ _)), fun z => ?_, .inl hb, fun x c e => f4 x c (hcl x c e), fun p hp => absurd (show p ∈ ([] : List (Addr × Obj)) from hp) (by simp)⟩
    rcases List.mem_cons.mp (I2.stkSub b z) with q | q
    · exact f1 q
    · exact f2' q
  have I3 : ∀ tk, Inv (compCx X scope N cl G.objs.size fp s2 H2 (notedBy (model X.prog X.w) X.A (compEnvC scope cl G.objs.size X.env) fun e s' => RR (.error e) s')) [] (inner nt js σ) (upd H2 s2.heap.objs.size (.lst [])) { s2 with heap := h₁, toks := tk } := fun tk =>
    comp_start S I2 f2 hcl hcl2 hfpl (by rw [hGs]; exact Nat.le_succ _) kold (fun b o e => by rw [upd_ne (ne_of_none e hfresh)]; exact e) (fun b n hb => by rw [upd_ne (Nat.ne_of_lt hb)]; exact n) hok1 hns₁ hC0 (fun _ => rfl)
  have loop : ∀ s₃ : Shared, s₃ = { s2 with heap := h₁, toks := s2.toks + ([] : List (Str × Value)).length } →
      codeAny (model X.prog X.w) X.A (.compLoop (.ListComp elt [⟨tg, iter, ifs, 0⟩] scope pos) 0 (.ref it) (.ref s2.heap.objs.size) (compEnvC scope cl G.objs.size X.env)) RR s₃ := by
    rintro s₃ rfl
    refine compLoop_any (fun n s' => ∃ i ys H', Inv (compCx X scope N cl G.objs.size fp s2 H2 (notedBy (model X.prog X.w) X.A (compEnvC scope cl G.objs.size X.env) fun e s' => RR (.error e) s')) [] (inner nt js σ) H' s' ∧ tn i s'.heap ∧ (∀ b ∈ fp, H' b = none) ∧ W i n ys H') ?_ m0
      ⟨0, [], _, I3 _, T.keep _ _ _ st2 fun b hb o e => kold b o e, fun b hb => by rw [upd_ne (Nat.ne_of_lt (hfpl b hb))]; exact (f2 b hb).1, w0⟩
    rintro n s3 ⟨i, ys, H3, J3, st3, fr3, w3⟩
    rcases turn i n ys H3 w3 with ⟨stop, qn⟩ | ⟨go, NN, hN, step⟩
    · refine thn (T.done (compCx X scope N cl G.objs.size fp s2 H2 (notedBy (model X.prog X.w) X.A (compEnvC scope cl G.objs.size X.env) fun e s' => RR (.error e) s')) rfl rfl rfl hca i [] s3 (inner nt js σ) H3 _ J3 (stat fr3) st3 stop) fun r s4 zr3434 => ?_
      obtain ⟨hr, I4⟩ := zr3434
      subst hr
      show RR (.ok .next) s4
      rw [← hRR]
      obtain ⟨mC, hnC, _⟩ := id I4.loc
      refine ⟨mC, hnC, fun h'' hs'' => ?_⟩
      have keepC : ∀ b o, b ≠ G.objs.size → s4.heap.get? b = some o → h''.get? b = some o := fun b o hb e => hs''.extBut b o hb e
      have un : Un (frs X.stack) fp H2 H3 s2.heap h'' := by
        have u := I4.base
        refine ⟨fun b o e n hb hx => keepC b o ?_ (u.keep b o e n hb hx), fun b o e n hb hx => ?_, u.free, fun b o e hx => ?_, u.tups, u.frzs, u.tbls⟩
        · exact Nat.ne_of_lt (Nat.lt_of_lt_of_le (Heap.lt_size e) (by rw [hGs]; exact Nat.le_succ _))
        · obtain ⟨sl, e1⟩ := u.slot b o e n hb hx
          exact ⟨sl, keepC b _ (Nat.ne_of_lt (Nat.lt_of_lt_of_le (Heap.lt_size e) (by rw [hGs]; exact Nat.le_succ _))) e1⟩
        · obtain ⟨o', e1⟩ := u.there b o e hx
          exact ⟨o', keepC b _ (Nat.ne_of_lt (Nat.lt_of_lt_of_le (Heap.lt_size e) (by rw [hGs]; exact Nat.le_succ _))) e1⟩
      have hok' : HOk X.prog X.w H3 h'' := fun b u e => (I4.hok b u e).stay (fun c v hc q => keepC c v (by
          have cf : H3 G.objs.size = none := I4.free
          rintro rfl
          rcases hc with z | z
          · rw [z] at cf; rw [cf] at e; cases e
          · rw [cf] at z; cases z) q) (fun _ q => q) fun _ _ q => q
      exact ⟨.ref s2.heap.objs.size, H3, I2.call' (s' := { s4 with heap := h'' }) I4.os un hok' I4.bare (fun b hb => by
        obtain ⟨f0, f1, f2', f3, f4, f5⟩ := f2 b hb
        exact ⟨f3, f1, f4, f5⟩), rfl, qn⟩
    · refine thn (T.item (compCx X scope N cl G.objs.size fp s2 H2 (notedBy (model X.prog X.w) X.A (compEnvC scope cl G.objs.size X.env) fun e s' => RR (.error e) s')) rfl rfl rfl hca i [] s3 (inner nt js σ) H3 _ J3 (stat fr3) st3 go) fun r s4 zr3458 => ?_
      obtain ⟨u, hr, h4⟩ := zr3458
      subst hr
      refine thn h4 fun _ s5 zr3460 => ?_
      obtain ⟨x, H5, I5, r5, y5, st5, fr5⟩ := zr3460
      have I5' := I5.pinned (stat fr5) (T.obj _ _ st5)
      have g5 := hgo x (inner nt js σ) H5 _ inner_none (step x H5 y5)
      refine thn (hg cl G.objs.size fp s2 H2 _ _ s5 _ H5 x u _ I5' r5 g5) fun _ s6 zr3463 => ?_
      obtain ⟨σ6, H6, I6, wk6, q6⟩ := zr3463
      refine thn (hc cl G.objs.size fp s2 H2 _ _ s6 σ6 H6 _ I6 q6) fun ok s7 zr3464 => ?_
      obtain ⟨H7, I7, q7⟩ := zr3464
      have again : ∀ {s8 : Shared} {H8 : Hp} {ys' : List V}, Inv (compCx X scope N cl G.objs.size fp s2 H2 (notedBy (model X.prog X.w) X.A (compEnvC scope cl G.objs.size X.env) fun e s' => RR (.error e) s')) ([] ++ pinsAt fp s5.heap) σ6 H8 s8 → NN ys' H8 →
          ∃ m, m < n ∧ ∃ i ys H', Inv (compCx X scope N cl G.objs.size fp s2 H2 (notedBy (model X.prog X.w) X.A (compEnvC scope cl G.objs.size X.env) fun e s' => RR (.error e) s')) [] (inner nt js σ) H' s8 ∧ tn i s8.heap ∧ (∀ b ∈ fp, H' b = none) ∧ W i m ys H' := fun {s8 H8 ys'} I8 n8 => by
        obtain ⟨m', hm, w8⟩ := hN ys' H8 n8
        refine ⟨m', hm, i + 1, ys', H8, (I8.unpinned).wk wk6, T.keep _ _ _ st5 fun b hb o e => (I8.pin (b, o) (List.mem_append_right _ (List.mem_append_right _ (mem_pinsAt hb e)))).1, fun b hb => ?_, w8⟩
        obtain ⟨o, e, d⟩ := T.obj _ _ st5 b hb
        exact (I8.pin (b, o) (List.mem_append_right _ (List.mem_append_right _ (mem_pinsAt hb e)))).2.1
      cases ok with
      | false =>
        rw [if_neg Bool.false_ne_true] at q7 ⊢
        exact again I7 q7
      | true =>
        rw [if_pos rfl] at q7 ⊢
        refine thn (he cl G.objs.size fp s2 H2 _ _ s7 σ6 H7 _ I7 q7) fun y s8 zr3477 => ?_
        obtain ⟨yv, H8, I8, r8, hD8, hl8, q8⟩ := zr3477
        refine thn (mt_append (X := compCx X scope N cl G.objs.size fp s2 H2 (notedBy (model X.prog X.w) X.A (compEnvC scope cl G.objs.size X.env) fun e s' => RR (.error e) s')) _ s8 σ6 H8 (.ref s2.heap.objs.size) [yv] (.ref s2.heap.objs.size) [y] (fun _ H9 => NN (ys ++ [yv]) H9) I8 rfl (.cons r8 .nil) ⟨_, ys, yv, rfl, rfl, hD8, hl8, q8⟩) fun v9 s9 zr3478 => ?_
        obtain ⟨x9, H9, I9, r9, q9⟩ := zr3478
        exact again I9 q9
  subst hRR
  exact codeAny_compStart_list (loop _ rfl) (T.self _ 0 _ _ _ (T.keep _ _ _ st2 fun b hb o e => kold b o e) (loop _ rfl))
end
end L2
set_option Elab.async false
set_option linter.all false
set_option maxRecDepth 100000
namespace PySem
open Sem (wp)
theorem lri_nolen : typeLookup (.type "list_reverseiterator") "__len__" = pure none := by rw [typeLookup_type, builtinLookup_eq_fast]; kernel_rfl
theorem lri_hint : typeLookup (.type "list_reverseiterator") "__length_hint__" = pure (some (.builtin "list_reverseiterator.__length_hint__")) := by rw [typeLookup_type, builtinLookup_eq_fast]; kernel_rfl
section
variable {prog : Program} {w : World} {A : Around} {E : Value → Shared → Prop} {s : Shared}
theorem extend_rev {R : Result → Shared → Prop} (hh : A.handled = none) (S : Addr) (res : Value) (c₀ : Nat) (hS : s.heap.get? S = some { cls := .type "list", data := .seq #[] c₀ })
    {I l : Addr} {items : Array Value} (hi : s.heap.IsRevIter I l ((items.size : Int) - 1)) (hl : s.heap.IsList l items) (hIl : l ≠ I) (hSI : S ≠ I) (hSl : S ≠ l)
    (hR : ∀ h' tk acc' c', (∀ b o, b ≠ S → b ≠ I → s.heap.get? b = some o → h'.get? b = some o) → h'.get? S = some { cls := .type "list", dict := none, data := .seq acc' c', slots := #[] } →
      ItemsOf (fun i v => items[items.size - 1 - i]? = some v) acc' items.size → R (.ok (.ret res)) { s with heap := h', toks := tk }) (hn : items.size ≤ sizeLine) :
    wpAny (model prog w) A.in1 (Builtin.List.listExtendWith (.ref S) (.ref I) res)
      (fun fin s' => match fin with | .done f => R (.ok f) s' | .again c' => c'.quiet = true ∧ codeAny (model prog w) A c' R s') (fun e s' => R (.error e) s') s := by
  have W := (Walks.listRev (prog := prog) (w := w) (A := A.in1) hh I l hIl items)
  have hSf : S ∉ [I, l] := fun hm => by
    rcases List.mem_cons.mp hm with e | e
    · exact hSI e
    · exact hSl (List.mem_singleton.mp e)
  have hst : 0 ≤ items.size ∧ s.heap.IsRevIter I l ((items.size : Int) - 1 - ((0 : Nat) : Int)) ∧ s.heap.IsList l items := ⟨Nat.zero_le _, by simpa using hi, hl⟩
  unfold Builtin.List.listExtendWith
  refine wpAny_bind (wpAny_typeOf hi.typeIs ?_)
  have h1 : Builtin.List.listSameRef (.ref S) (.ref I) = false := by simp [Builtin.List.listSameRef, hSI]
  have h2 : (Value.type "list_reverseiterator" == Value.type "list") = false := by decide
  have h3 : (Value.type "list_reverseiterator" == Value.type "tuple") = false := by decide
  simp only [h1, h2, h3, Bool.or_false, Bool.false_eq_true, if_false]
  refine wpAny_bind (W.self 0 _ _ _ hst ?_)
  refine wpAny_bind (wpAny_holding ?_)
  unfold Builtin.List.listLengthHint
  refine wpAny_bind (wpAny_specialOf hi.typeIs lri_nolen ?_)
  show wpAny _ A.in1 (specialOf (Value.ref I) (Str.ofString "__length_hint__") >>= _) _ _ _
  refine wpAny_bind (wpAny_specialOf hi.typeIs lri_hint ?_)
  (generalize hid : ("list_reverseiterator.__length_hint__" : String) = id0; (fail_if_success (clear hid id0)); wp_delta; rw [show splitId id0 = some ("list_reverseiterator", "__length_hint__") from by subst hid; decide +kernel]; subst hid)
  refine wpAny_bind (wpAny_isInstance (b := true) hi.typeIs (by rw [isSubtype_type]; kernel_rfl) ?_)
  refine wpAny_pure ?_
  rw [if_neg (by decide)]
  refine wpAny_pure ⟨plainId_quiet F.plain_extend_loop _, codeAny_extend_loopS W.toS hn _ hSf _ items.size 0 _ _ _ rfl (Nat.zero_le _) hst hS (ItemsOf.nil _) fun s' acc' c' hm hS' hacc => ?_⟩
  rw [Moved.eq_with hm]
  refine hR s'.heap s'.toks acc' c' (fun b ob hb hbI e => hm.heap b ob (fun hmem => ?_) e) hS' hacc
  rcases List.mem_cons.mp hmem with e' | hmem
  · exact hb e'
  · exact hbI (List.mem_singleton.mp hmem)
theorem list_init_rev {R : Result → Shared → Prop} (hh : A.handled = none) (S : Addr) (hS : s.heap.get? S = some { cls := .type "list", data := .seq #[] })
    {I l : Addr} {items : Array Value} (hi : s.heap.IsRevIter I l ((items.size : Int) - 1)) (hl : s.heap.IsList l items) (hIl : l ≠ I) (hSI : S ≠ I) (hSl : S ≠ l)
    (hR : ∀ h' tk acc' c', (∀ b o, b ≠ S → b ≠ I → s.heap.get? b = some o → h'.get? b = some o) → h'.get? S = some { cls := .type "list", dict := none, data := .seq acc' c', slots := #[] } →
      ItemsOf (fun i v => items[items.size - 1 - i]? = some v) acc' items.size → R (.ok (.ret .none)) { s with heap := h', toks := tk }) (hn : items.size ≤ sizeLine) :
    wpAny (model prog w) A.in1 (Builtin.«list.__init__» ⟨[.ref S, .ref I], []⟩)
      (fun fin s' => match fin with | .done f => R (.ok f) s' | .again c' => c'.quiet = true ∧ codeAny (model prog w) A c' R s') (fun e s' => R (.error e) s') s := by
  show wpAny _ _ (do let old ← Builtin.List.listItems (.ref S); Builtin.List.listUpdate (.ref S) (fun _ => #[]); letGo old.toList.reverse; Builtin.List.listExtendWith (.ref S) (.ref I) .none) _ _ s
  refine wpAny_bind ?_
  unfold Builtin.List.listItems
  refine wpAny_bind (wpAny_seqItems hS rfl (wpAny_pure ?_))
  show wpAny _ _ (updateSeq S (fun _ => #[]) >>= fun _ => letGo (#[] : Array Value).toList.reverse >>= fun _ => Builtin.List.listExtendWith (.ref S) (.ref I) .none) _ _ s
  refine wpAny_bind (wpAny_updateSeq hS rfl ?_)
  have hS₂ := Heap.get?_update_self (Obj.mapSeq (fun _ => (#[] : Array Value))) hS rfl
  have oth : ∀ b o, b ≠ S → s.heap.get? b = some o → (s.heap.update S (Obj.mapSeq (fun _ => (#[] : Array Value)))).get? b = some o :=
    fun b o hb e => (Heap.get?_update_other _ _ (Ne.symm hb)).trans e
  refine wpAny_bind (wpAny_letGo ?_)
  refine extend_rev (s := { s with heap := s.heap.update S (Obj.mapSeq (fun _ => (#[] : Array Value))) }) hh S .none _ hS₂ (hi.at fun o e => oth _ o (Ne.symm hSI) e) (hl.at fun o e => oth _ o (Ne.symm hSl) e) hIl hSI hSl (fun h' tk acc' c' hk hS' hacc => ?_) hn
  exact hR h' tk acc' c' (fun b o hb hbI e => hk b o hb hbI (oth b o hb e)) hS' hacc
theorem call_list_rev {Q : Value → Shared → Prop} (hh : A.handled = none) {I l : Addr} {items : Array Value} (hi : s.heap.IsRevIter I l ((items.size : Int) - 1)) (hl : s.heap.IsList l items) (hIl : l ≠ I)
    (hQ : ∀ h' tk acc' c', (∀ b o, b ≠ I → s.heap.get? b = some o → h'.get? b = some o) →
      h'.get? s.heap.objs.size = some { cls := .type "list", dict := none, data := .seq acc' c', slots := #[] } → ItemsOf (fun i v => items[items.size - 1 - i]? = some v) acc' items.size → Q (.ref s.heap.objs.size) { s with heap := h', toks := tk }) (hn : items.size ≤ sizeLine) :
    wpAny (model prog w) A (call (.type "list") [.ref I]) Q E s := by
  refine callType_codes (Q₁ := fun obj s₁ => obj = .ref s.heap.objs.size ∧ s₁ = { s with heap := s.heap.push { cls := .type "list", data := .seq #[] } }) F.called_list (F.typeCall_list_1 _) F.entry_list_init
    (code_list_new _ ⟨rfl, rfl⟩) fun obj s₁ h₁ => ?_
  obtain ⟨rfl, rfl⟩ := h₁
  have hS : (s.heap.push { cls := .type "list", data := .seq #[] }).get? s.heap.objs.size = some { cls := .type "list", data := .seq #[] } := Heap.get?_push_size _ rfl
  have up : ∀ b o, s.heap.get? b = some o → (s.heap.push { cls := .type "list", data := .seq #[] }).get? b = some o := fun b o e => Heap.get?_push_of_some _ e
  obtain ⟨oi, hoi, _⟩ := id hi
  obtain ⟨ol, hol, _⟩ := id hl
  refine ⟨⟨_, hS, rfl⟩, F.args_list_init_2 _ _, list_init_rev (s := { s with heap := s.heap.push { cls := .type "list", data := .seq #[] } }) (A := A.in1) hh _ hS (hi.at fun o e => up _ o e) (hl.at fun o e => up _ o e) hIl (Nat.ne_of_gt (Heap.lt_size hoi)) (Nat.ne_of_gt (Heap.lt_size hol)) (fun h' tk acc' c' hk hS' hacc => ?_) hn⟩
  exact ⟨rfl, hQ h' tk acc' c' (fun b o hb e => hk b o (Nat.ne_of_lt (Heap.lt_size e)) hb (up b o e)) hS' hacc⟩
end
end PySem
set_option Elab.async false
set_option linter.all false
set_option maxRecDepth 100000
namespace L2
open PySem PySem.Spec PyProof.Rows
mutual
inductive Rep (K : PySem.W.Frag) (H : Hp) : V → PyData → Prop
  | non : Rep K H .non .none
  | bl (b : Bool) : Rep K H (.bl b) (.bool b)
  | int (i : Int) : Rep K H (.int i) (.int i)
  | str (x : Str) : Rep K H (.str x) (.str x)
  | tup {a : Addr} {vs : List V} {ds : List PyData} : SqT K H a vs → Reps K H vs ds → Rep K H (.ref a) (.tuple ds)
  | lst {a : Addr} {vs : List V} {ds : List PyData} : SqL K H a vs → Reps K H vs ds → Rep K H (.ref a) (.list ds)
inductive Reps (K : PySem.W.Frag) (H : Hp) : List V → List PyData → Prop
  | nil : Reps K H [] []
  | cons {v : V} {vs : List V} {d : PyData} {ds : List PyData} : Rep K H v d → Reps K H vs ds → Reps K H (v :: vs) (d :: ds)
end
theorem Same.seqT {K : PySem.W.Frag} {H H' : Hp} {a : Addr} {xs : List V} (e : Same H H') (h : SqT K H a xs) : SqT K H' a xs := by
  rcases h with (h | ⟨o, h⟩) | h
  · exact .inl (.inl (e _ _ h))
  · exact .inl (.inr ⟨o, e _ _ h⟩)
  · exact .inr h
mutual
theorem Rep.mono {K : PySem.W.Frag} {H H' : Hp} (e : Same H H') : ∀ {v : V} {d : PyData}, Rep K H v d → Rep K H' v d
  | _, _, .non => .non
  | _, _, .bl b => .bl b
  | _, _, .int b => .int b
  | _, _, .str b => .str b
  | _, _, .tup h r => .tup (e.seqT h) (Reps.mono e r)
  | _, _, .lst h r => .lst (e.seq h) (Reps.mono e r)
theorem Reps.mono {K : PySem.W.Frag} {H H' : Hp} (e : Same H H') : ∀ {v : List V} {d : List PyData}, Reps K H v d → Reps K H' v d
  | _, _, .nil => .nil
  | _, _, .cons h r => .cons (Rep.mono e h) (Reps.mono e r)
end
theorem Reps.ints {K : PySem.W.Frag} {H : Hp} : ∀ (ns : List Int), Reps K H (ns.map V.int) (ns.map PyData.int)
  | [] => .nil
  | _ :: ns => .cons (.int _) (Reps.ints ns)
theorem Reps.strs {K : PySem.W.Frag} {H : Hp} : ∀ (ns : List Str), Reps K H (ns.map V.str) (ns.map PyData.str)
  | [] => .nil
  | _ :: ns => .cons (.str _) (Reps.strs ns)
section
variable {X : Cx} {pins : List (Addr × Obj)} {σ : St} {H : Hp} {s : Shared}
mutual
theorem Inv.reads (I : Inv X pins σ H s) : ∀ {v : V} {d : PyData} {u : Value}, Rep X.K H v d → RelV v u → ∃ as, Reads s.heap u d as
  | _, _, _, .non, r => by cases r; exact ⟨_, .none⟩
  | _, _, _, .bl b, r => by cases r; exact ⟨_, .bool b⟩
  | _, _, _, .int b, r => by obtain ⟨t, rfl⟩ := r; exact ⟨_, .int b t⟩
  | _, _, _, .str b, r => by obtain ⟨t, rfl⟩ := r; exact ⟨_, .str b t⟩
  | _, _, _, .tup h q, r => by
    cases r
    obtain ⟨its, rv, ⟨o, ho, hc, n, hd⟩, _⟩ := I.tuple h
    obtain ⟨as, ra⟩ := Inv.readsAll I q rv
    exact ⟨_, .tuple ho hc hd (by simpa using ra)⟩
  | _, _, _, .lst h q, r => by
    cases r
    obtain ⟨its, rv, ⟨o, n, ho, hc, _, hd⟩, _⟩ := I.list h
    obtain ⟨as, ra⟩ := Inv.readsAll I q rv
    exact ⟨_, .list ho hc hd (by simpa using ra)⟩
theorem Inv.readsAll (I : Inv X pins σ H s) : ∀ {v : List V} {d : List PyData} {u : List Value}, Reps X.K H v d → Vals v u → ∃ as, ReadsAll s.heap u d as
  | _, _, _, .nil, r => by cases r; exact ⟨_, .nil⟩
  | _, _, _, .cons h q, r => by
    cases r with
    | cons r1 r2 =>
      obtain ⟨as, ra⟩ := Inv.reads I h r1
      obtain ⟨bs, rb⟩ := Inv.readsAll I q r2
      exact ⟨_, .cons ra rb⟩
end
end
section
variable {X : Cx} {a b c : Expr} {ta tb tc : TE} {pos : Pos}
noncomputable def rEqD (K : PySem.W.Frag) : R2 := fun x y H Q => ∃ dx dy, Rep K H x dx ∧ Rep K H y dy ∧ dx.canLay0 = true ∧ dy.canLay0 = true ∧ dx.depth ≤ 100 ∧ Q (.bl (PyData.eqv dx dy)) H
noncomputable def rNeD (K : PySem.W.Frag) : R2 := fun x y H Q => ∃ dx dy, Rep K H x dx ∧ Rep K H y dy ∧ dx.canLay0 = true ∧ dy.canLay0 = true ∧ dx.depth ≤ 100 ∧ Q (.bl (!PyData.eqv dx dy)) H
theorem op_eqD (hu : X.A.units + 100 < cLine) : OpR X (compareOp .Eq) (rEqD X.K) := by
  intro pins s σ H x y v u Q I rx ry h
  obtain ⟨dx, dy, h1, h2, h3, h4, h5, q⟩ := h
  obtain ⟨as, r1⟩ := I.reads h1 rx
  obtain ⟨bs, r2⟩ := I.reads h2 ry
  exact PySem.SeqAt.compareEq_reads r1 r2 h3 h4 (by omega) ⟨.bl _, H, I, rfl, q⟩
theorem op_neD (hu : X.A.units + 100 < cLine) : OpR X (compareOp .NotEq) (rNeD X.K) := by
  intro pins s σ H x y v u Q I rx ry h
  obtain ⟨dx, dy, h1, h2, h3, h4, h5, q⟩ := h
  obtain ⟨as, r1⟩ := I.reads h1 rx
  obtain ⟨bs, r2⟩ := I.reads h2 ry
  exact PySem.SeqAt.compareNe_reads r1 r2 h3 h4 (by omega) ⟨.bl _, H, I, rfl, q⟩
theorem op_le_str : OpR X (compareOp .LtE) (fun x y H Q => ∃ i j, x = .str i ∧ y = .str j ∧ Q (.bl (!decide (j.cps.toList < i.cps.toList))) H) := by
  intro pins s σ H x y v u Q I rx ry h
  obtain ⟨i, j, rfl, rfl, q⟩ := h
  obtain ⟨t, rfl⟩ := rx
  obtain ⟨t', rfl⟩ := ry
  exact PySem.P.le_str (fin_bl I q rfl)
noncomputable def rIsI (K : PySem.W.Frag) : List V → Hp → VK → Prop := fun xs H Q => ∃ x t T k, xs = [x, .ty T] ∧ TyOf K H x t ∧ PySem.W.kitOne K t (.type T) = some k ∧ Q (.bl k) H
theorem call_isi : CallR X (.builtin "isinstance") (rIsI X.K) := by
  intro pins s σ H xs us Q I r h
  obtain ⟨x, t, T, k, rfl, ty, e, q⟩ := h
  obtain ⟨u, w', rfl, r1, r2⟩ := vals2 r
  cases r2
  exact isinst_ok I r1 ty e fun tk => ⟨.bl k, H, I.tok tk, rfl, q⟩
theorem pe_ty {x : Str} {T : String} (hg : Gl X x) (hm : X.mg x = none) (hv : bootBuiltins x = some (.type T)) (hn : x ≠ "__name__" := by decide) (hd : (x == ("__debug__" : Str)) = false := by decide) : PE X (.Name x pos) (tC (.ty T)) :=
  pe_bltn hg hm hv rfl hn hd
theorem truth_of_bools {prog : Program} {w : World} {A : Around} {its : Array Value} {bs : List Bool} (h : Vals (bs.map V.bl) its.toList) : TruthOf prog w A (fun i v => its[i]? = some v) (fun i => bs.getD i true) := by
  intro i v s Q E hP hq
  have h1 : its.toList[i]? = some v := by simpa using hP
  have hlt : i < its.toList.length := (List.getElem?_eq_some_iff.mp h1).1
  have hl := h.length
  have hb : i < bs.length := by rw [← hl] at hlt; simpa using hlt
  obtain ⟨u, hu, ru⟩ := h.get (i := i) (x := V.bl bs[i]) (by simp [hb])
  rw [h1] at hu; cases hu
  cases ru
  refine wpAny_truthy_bool ?_
  have e : bs.getD i true = bs[i] := by simp [List.getD, hb]
  show Q bs[i] s
  have hq : Q (bs.getD i true) s := hq
  rw [e] at hq
  exact hq
theorem range_all (bs : List Bool) : (List.range bs.length).all (fun i => bs.getD i true) = bs.all id := by
  rw [Bool.eq_iff_iff]
  simp only [List.all_eq_true, List.mem_range]
  constructor
  · intro h b hb
    obtain ⟨i, hi, e⟩ := List.getElem_of_mem hb
    have := h i hi
    simp [List.getD, hi, e] at this
    simpa using this
  · intro h i hi
    have := h bs[i] (List.getElem_mem hi)
    simpa [List.getD, hi] using this
noncomputable def rAll (K : PySem.W.Frag) : List V → Hp → VK → Prop := fun xs H Q => ∃ (p : Addr) (bs : List Bool), xs = [.ref p] ∧ SqL K H p (bs.map V.bl) ∧ Q (.bl (bs.all id)) H
theorem call_all_l (hc : X.calm = true) : CallR X (.builtin "all") (rAll X.K) := by
  intro pins s σ H xs us Q I r h
  obtain ⟨p, bs, rfl, hq, q⟩ := h
  obtain ⟨u, rfl, rx⟩ := vals1 r
  cases rx
  obtain ⟨its, rv, pl, hz⟩ := I.list hq
  refine call_all_walk (wpAny_pyIter_list pl.isList ?_)
  have hne : p ≠ s.heap.objs.size := by
    obtain ⟨o, n, ho, _⟩ := pl
    exact Nat.ne_of_lt (Heap.lt_size ho)
  refine ⟨_, _, _, _, _, _, fun i => bs.getD i true, rfl, Walks.list (A := X.A.in1) (I.ok.hd hc) _ p hne its.toArray, ⟨⟨_, Heap.get?_push_size _ rfl, rfl, rfl⟩, pl.isList.at fun o e => Heap.get?_push_of_some _ e⟩, truth_of_bools (by simpa using rv), fun h' tk hk => ?_⟩
  have hl : its.toArray.size = bs.length := by have := rv.length; simp at this ⊢; omega
  rw [hl, range_all]
  exact ⟨.bl (bs.all id), H, I.kept fun b o e => hk b o (by simp; exact Nat.ne_of_lt (Heap.lt_size e)) (Heap.get?_push_of_some _ e), rfl, q⟩
theorem preSum_take (ns : List Int) : ∀ n, n ≤ ns.length → preSum (fun i => ns.getD i 0) n = (ns.take n).sum
  | 0, _ => by simp [preSum]
  | n + 1, h => by
    have ih := preSum_take ns n (by omega)
    have e : ns[n]? = some (ns[n]'(by omega)) := by simp
    show preSum (fun i => ns.getD i 0) n + ns.getD n 0 = _
    rw [ih, List.take_add_one, e, List.sum_append, List.getD, e]
    simp
theorem preSum_list (ns : List Int) : preSum (fun i => ns.getD i 0) ns.length = ns.sum := by
  rw [preSum_take ns _ (Nat.le_refl _), List.take_length]
noncomputable def rSum (K : PySem.W.Frag) : List V → Hp → VK → Prop := fun xs H Q => ∃ (p : Addr) (ns : List Int), xs = [.ref p] ∧ SqL K H p (ns.map V.int) ∧ Q (.int ns.sum) H
theorem call_sum_l (hc : X.calm = true) : CallR X (.builtin "sum") (rSum X.K) := by
  intro pins s σ H xs us Q I r h
  obtain ⟨p, ns, rfl, hq, q⟩ := h
  obtain ⟨u, rfl, rx⟩ := vals1 r
  cases rx
  obtain ⟨its, rv, pl, hz⟩ := I.list hq
  refine call_sum_walkG (wpAny_pyIter_list pl.isList ?_)
  have hne : p ≠ s.heap.objs.size := by
    obtain ⟨o, n, ho, _⟩ := pl
    exact Nat.ne_of_lt (Heap.lt_size ho)
  refine ⟨_, _, _, _, _, _, fun i => ns.getD i 0, rfl, Walks.list (A := X.A.in1) (I.ok.hd hc) _ p hne its.toArray, ⟨⟨_, Heap.get?_push_size _ rfl, rfl, rfl⟩, pl.isList.at fun o e => Heap.get?_push_of_some _ e⟩, fun b hb => ?_, fun i v hv => ?_, fun h' tk t' hk => ?_⟩
  · obtain ⟨o, n, ho, _⟩ := pl
    rcases List.mem_cons.mp hb with e | e
    · rw [e]; exact Nat.lt_of_lt_of_le (Nat.lt_succ_self _) (by simp)
    · rw [List.mem_singleton.mp e]; exact Nat.lt_of_lt_of_le (Heap.lt_size ho) (by simp)
  · have h1 : its[i]? = some v := by simpa using hv
    have hlt : i < its.length := (List.getElem?_eq_some_iff.mp h1).1
    have hl := rv.length
    have hb : i < ns.length := by rw [← hl] at hlt; simpa using hlt
    obtain ⟨u, hu, t, ru⟩ := rv.get (i := i) (x := V.int ns[i]) (by simp [hb])
    rw [h1] at hu; cases hu
    exact ⟨t, by rw [ru]; simp [List.getD, hb]⟩
  · have hl : its.toArray.size = ns.length := by have := rv.length; simp at this ⊢; omega
    rw [hl, preSum_list]
    exact ⟨.int ns.sum, H, I.kept fun b o e => hk b o (by simp; exact Nat.ne_of_lt (Heap.lt_size e)) (Heap.get?_push_of_some _ e), ⟨t', rfl⟩, q⟩
noncomputable def tListRev (t : TE) : TE := fun σ H Q => t σ H fun x H1 => ∃ p, x = .ref p ∧ ∃ ys, H1 p = some (.lst ys) ∧ ∀ l, H1 l = none → Q (.ref l) (upd H1 l (.lst ys.reverse))
end
end L2
set_option Elab.async false
set_option linter.all false
set_option maxRecDepth 100000
namespace L2
open PySem PySem.Spec PyProof.Rows
section
variable {X : Cx} {a b c e : Expr} {ta tb tc te : TE} {pos p p2 pos2 : Pos} {tg : Expr}
theorem pe_listrev (hc : X.calm = true) (hg : Gl X "list") (hm : X.mg "list" = none) (hg2 : Gl X "reversed") (hm2 : X.mg "reversed" = none) (he : PE X e te) (hse : starEach [e] X.env = [(false, eval e X.env)] := by rfl) :
    PE X (.Call (.Name "list" p) [.Call (.Name "reversed" p2) [e] [] pos2] [] pos) (tListRev te) := by
  intro pins s σ H Q I h
  refine wpAny_Call_Name_kw (ld_blt I hg hm (by decide +kernel : bootBuiltins "list" = some (.type "list")) ?_)
  refine PyProof.Rows.callWith_type1 (Calls.spliced_cons ?_) rfl rfl
  refine wpAny_Call_Name_kw (ld_blt I hg2 hm2 boot_reversed ?_)
  refine PyProof.Rows.callWith_type1 (Q := _) ?_ hse rfl
  rw [hse]
  refine Calls.spliced_cons (thn (he pins s σ H _ I h) fun u s1 ⟨x, H1, I1, r1, pp, e1, ys, hq', q⟩ => Calls.spliced_nil ?_)
  subst e1
  cases r1
  have hq : SqL X.K H1 pp ys := .of hq'
  obtain ⟨its, rv, pl, hz⟩ := I1.list hq
  have hlen := rv.length
  refine call_reversed_list pl.isList ?_
  have hlt : pp < s1.heap.objs.size := by
    obtain ⟨o, n, ho, _⟩ := pl
    exact Heap.lt_size ho
  refine Calls.spliced_nil (call_list_rev (I.ok.hd hc) (I := s1.heap.objs.size) (l := pp) (items := its.toArray) ⟨_, Heap.get?_push_size _ rfl, rfl, rfl⟩ (pl.isList.at fun o e => Heap.get?_push_of_some _ e) (Nat.ne_of_lt hlt) (fun h' tk acc' c' hk hS hacc => ?_) (by simp only [List.size_toArray]; omega))
  have kp : ∀ b o, s1.heap.get? b = some o → h'.get? b = some o := fun b o e => hk b o (Nat.ne_of_lt (Heap.lt_size e)) (Heap.get?_push_of_some _ e)
  have hrev : acc' = its.reverse.toArray := by
    apply Array.ext_getElem?
    intro i
    have hs1 := hacc.1
    simp only [List.size_toArray] at hs1
    by_cases hi : i < its.length
    · have h1 : acc'[i]? = some (acc'[i]'(by omega)) := by simp [hs1, hi]
      have h2 := hacc.2 i _ h1
      rw [h1, ← h2]
      simp only [List.size_toArray, List.getElem?_toArray]
      rw [List.getElem?_reverse hi]
    · simp only [List.getElem?_toArray]
      rw [Array.getElem?_eq_none (by omega), List.getElem?_eq_none (by simp; omega)]
  subst hrev
  have hsz : s1.heap.objs.size ≤ (s1.heap.push (revObj pp ((its.toArray.size : Int) - 1))).objs.size := by rw [Heap.size_push]; exact Nat.le_succ _
  exact ⟨.ref (s1.heap.push (revObj pp ((its.toArray.size : Int) - 1))).objs.size, upd H1 _ (.lst ys.reverse), I1.laid (t' := tk) kp hsz ⟨by simp; omega, its.reverse, c', rv.reverse, hS⟩, rfl, q _ (I1.hok.fresh hsz)⟩
noncomputable def rSlS : V → Option Int → Option Int → Hp → VK → Prop := fun x lo hi H Q => ∃ z, x = .str z ∧ z.length ≤ sizeLine ∧ Q (.str (Txt.slice z lo hi)) H
theorem sl_str : SlR X rSlS := by
  intro pins s σ H x v vl vu lo hi sl Q I rx hs pl pu h
  obtain ⟨z, rfl, hz, q⟩ := h
  obtain ⟨t, rfl⟩ := rx
  refine ⟨"str", _, F.slot_str_getitem.lookup, typeIs_str _ _ _, ?_⟩
  have fin : ∀ (t' : Tok) (k : Nat), EP X pins σ Q (.str (Txt.slice z lo hi) t') { s with toks := k } := fun t' k => ⟨.str _, H, I.tok k, ⟨t', rfl⟩, q⟩
  obtain ⟨o, h1, h2, h3⟩ := hs
  cases pl with
  | none => cases pu with
    | none => exact wpAny_getItem_str_slice (l := none) (u := none) (st := none) ⟨o, h1, h2, h3⟩ rfl (post_val_or_str ⟨Nat.le_trans (Txt.slice_le z _ _) hz, fun t' k => fin t' k⟩)
    | int j uj => exact wpAny_getItem_str_slice (l := none) (u := some (j, uj)) (st := none) ⟨o, h1, h2, h3⟩ rfl (post_val_or_str ⟨Nat.le_trans (Txt.slice_le z _ _) hz, fun t' k => fin t' k⟩)
  | int i ui => cases pu with
    | none => exact wpAny_getItem_str_slice (l := some (i, ui)) (u := none) (st := none) ⟨o, h1, h2, h3⟩ rfl (post_val_or_str ⟨Nat.le_trans (Txt.slice_le z _ _) hz, fun t' k => fin t' k⟩)
    | int j uj => exact wpAny_getItem_str_slice (l := some (i, ui)) (u := some (j, uj)) (st := none) ⟨o, h1, h2, h3⟩ rfl (post_val_or_str ⟨Nat.le_trans (Txt.slice_le z _ _) hz, fun t' k => fin t' k⟩)
end
end L2
set_option Elab.async false
set_option linter.all false
set_option maxRecDepth 100000
namespace L2
open PySem PySem.Spec PyProof.Rows
noncomputable def FnL (K : PySem.W.Frag) (mg : Str → Option Value) (x : Str) (st : Stmt) (ps : List Str) : Prop :=
  ∃ f fd, Fun K x x st f fd ∧ mg x = some (.ref f) ∧ Binds K fd ps []
noncomputable def Fn (P : Program) (w : World) (K : PySem.W.Frag) (mg : Str → Option Value) (base : Heap) (x : Str) (k : Nat) (ps : List Str) (sp : Sp) : Prop :=
  ∃ f fd, FnOk P w K mg base CX0 k f fd ps sp ∧ mg x = some (.ref f) ∧ PySem.W.keepIn K (.ref f) = true ∧ Binds K fd ps []
section
variable {P : Program} {w : World} {K : PySem.W.Frag} {mg : Str → Option Value} {base : Heap}
theorem FnL.ok {x : Str} {st : Stmt} {N ps : List Str} {k : Nat} {sp : Sp} (F : FnL K mg x st ps) (S : FnScope N ps (defScope st)) (len : ∀ vs H Q E, sp vs H Q E → vs.length = ps.length)
    (hbody : ∀ (f : Addr) (cdv : Value) (A : Around) (outer : List Env) (s : Shared) (H : Hp) (vs : List V) (Q : VK) (E : XK), Room k (A.deeper (envOfC x (defScope st) s.heap.objs.size f cdv)) → sp vs H Q E →
      ∃ t, PSs (cxOf CX0 P w K mg base N x (defScope st) f cdv A outer s H E).nox (defBody st) t ∧ t { nx := fun _ H' => Q .non H', rt := Q } (start N vs) H) : Fn P w K mg base x (k + 1) ps sp := by
  obtain ⟨f, fd, F, m, b⟩ := F
  exact ⟨f, fd, F.ok S len (hbody f), m, F.kp, b⟩
theorem Fn.mono {x : Str} {j k : Nat} {ps : List Str} {sp : Sp} (F : Fn P w K mg base x j ps sp) (h : j ≤ k) : Fn P w K mg base x k ps sp := by
  obtain ⟨f, fd, F, m, kp, b⟩ := F
  exact ⟨f, fd, F.mono h, m, kp, b⟩
theorem fnL_mk {x : Str} {st : Stmt} {ps : List Str} {h : Heap} {f : Addr} {oc : Value} {od an : Option Addr} {osl : Array (Option Value)} {kV doc pm cdv ct : Value} (X : K.In h) (G : h.Ns mainGlobals mg)
    (a : PySem.W.nsIn K mainGlobals x = some (some (.ref f)))
    (l : K.lookup f = some ⟨oc, od, .func (PySem.W.fnOf x x (defArgs st) (defBody st) (defScope st) .none kV doc pm an cdv ct), osl⟩)
    (c : PySem.W.codeIn K cdv x = true) (k : PySem.W.keepIn K (.ref f) = true)
    (hb : ∀ (kV doc pm : Value) (an : Option Addr) (cdv ct : Value) (us : List Value), us.length = ps.length → bindArgs (PySem.W.fnOf x x (defArgs st) (defBody st) (defScope st) .none kV doc pm an cdv ct) ⟨us, []⟩ = pure (ps.zip us)) : FnL K mg x st ps :=
  ⟨f, _, fun_mk l c k, PySem.W.mg_of X G a, (fun_mk l c k).binds hb⟩
end
section
variable {X : Cx} {k : Nat} {ps : List Str} {sp : Sp} {x : Str} {p pos : Pos} {e : Expr} {es : List Expr} {t : TA}
theorem pe_callF (F : Fn X.prog X.w X.K X.mg X.base x k ps sp) (hr : Room k X.A) (hg : Gl X x) (ha : PA X (e :: es) t) (hdb : (x == ("__debug__" : Str)) = false := by decide)
    (he : starEach (e :: es) X.env = (false, eval e X.env) :: starEach es X.env := by rfl) (hpl : (backTo pos (starEach es X.env)).any (·.1) = false := by rfl) :
    PE X (.Call (.Name x p) (e :: es) [] pos) (tCall sp [] E0 t) := by
  obtain ⟨f, fd, F, m, kp, b⟩ := F
  exact pe_call F hr hg m kp b .nil pass0 ha hdb he hpl
end
structure Wlk (J : It) (xs : List V) (C : Hp → Prop) : Prop where
  go : ∀ i H, C H → i < xs.length → J.go i H
  yld : ∀ i H x H', C H → i < xs.length → J.yld i H x H' → xs[i]? = some x ∧ H' = H
  stop : ∀ i H, C H → xs.length ≤ i → J.stop i H
theorem wlk_list {K : PySem.W.Frag} {a : Addr} {xs : List V} : Wlk (Itl K a) xs (fun H => SqL K H a xs) :=
  ⟨fun i H h hi => ⟨xs, xs[i], h, by simp [hi]⟩, fun i H x H' h _ y => ⟨y.2 xs h, y.1⟩, fun i H h hi => ⟨xs, h, hi⟩⟩
theorem wlk_tup {K : PySem.W.Frag} {a : Addr} {xs : List V} : Wlk (Itt K a) xs (fun H => SqT K H a xs) :=
  ⟨fun i H h hi => ⟨xs, xs[i], h, by simp [hi]⟩, fun i H x H' h _ y => ⟨y.2 xs h, y.1⟩, fun i H h hi => ⟨xs, h, hi⟩⟩
noncomputable def rngV (lo : Int) (n : Nat) : List V := (List.range n).map fun (i : Nat) => V.int (lo + (i : Int))
theorem rngV_length (lo : Int) (n : Nat) : (rngV lo n).length = n := by simp [rngV]
theorem rngV_get {lo : Int} {n i : Nat} (h : i < n) : (rngV lo n)[i]? = some (.int (lo + i)) := by simp [rngV, h]
theorem wlk_range {lo : Int} {n : Nat} : Wlk (Itr lo n) (rngV lo n) (fun _ => True) :=
  ⟨fun i H _ hi => by rw [rngV_length] at hi; exact hi, fun i H x H' _ hi y => by
    obtain ⟨e, y⟩ := y
    rw [rngV_length] at hi
    rw [rngV_get hi, y]; exact ⟨rfl, e⟩, fun i H _ hi => by rw [rngV_length] at hi; exact hi⟩
theorem for_wlk {J : It} {xs : List V} {C : Hp → Prop} (w : Wlk J xs C) {g : TG} {tb : TS} {D : Ends} {σ : St} {H : Hp} (Pv : Nat → St → Hp → Prop) (h0 : Pv 0 σ H) (hl : ∀ i σ H, Pv i σ H → C H)
    (hs : ∀ i x σ H, i < xs.length → xs[i]? = some x → Pv i σ H → g x σ H fun σ2 H2 => tb { D with nx := Pv (i + 1), ct := Pv (i + 1), bk := D.nx } σ2 H2) (hd : ∀ σ H, Pv xs.length σ H → D.nx σ H) :
    ∃ W : Nat → Nat → St → Hp → Prop, (∃ m, W 0 m σ H) ∧ ∀ i m σ H, W i m σ H →
      (J.stop i H ∧ D.nx σ H) ∨ (J.go i H ∧ ∃ N : St → Hp → Prop, (∀ σ' H', N σ' H' → ∃ m', m' < m ∧ W (i + 1) m' σ' H') ∧ ∀ x H', J.yld i H x H' → g x σ H' fun σ2 H2 => tb { D with nx := N, ct := N, bk := D.nx } σ2 H2) := by
  refine ⟨fun i m σ H => m = xs.length - i ∧ i ≤ xs.length ∧ Pv i σ H, ⟨xs.length, by simp, Nat.zero_le _, h0⟩, ?_⟩
  rintro i m σ H ⟨rfl, hi, p⟩
  have q := hl i σ H p
  by_cases hlt : i < xs.length
  · refine .inr ⟨w.go i H q hlt, Pv (i + 1), fun σ' H' p' => ⟨xs.length - (i + 1), by omega, rfl, hlt, p'⟩, fun x H' y => ?_⟩
    obtain ⟨e1, e2⟩ := w.yld i H x H' q hlt y
    subst e2
    exact hs i x σ _ hlt e1 p
  · have e : i = xs.length := by omega
    subst e
    exact .inl ⟨w.stop _ H q (Nat.le_refl _), hd σ H p⟩
theorem comp_wlk {J : It} {xs : List V} {C : Hp → Prop} (w : Wlk J xs C) {g : TG} {tc : TT} {te : TE} {σ0 : St} {Q : VK} {H1 : Hp} {D : Addr} (Pv : Nat → List V → Hp → Prop) (h0 : Pv 0 [] (upd H1 D (.lst []))) (hl : ∀ i ys H, Pv i ys H → C H)
    (hs : ∀ i x ys H, i < xs.length → xs[i]? = some x → Pv i ys H → g x σ0 H fun σ2 H3 => tc σ2 H3 fun b H4 => if b = true then te σ2 H4 fun y H5 => H5 D = some (.lst ys) ∧ ys.length < sizeLine ∧ Pv (i + 1) (ys ++ [y]) (upd H5 D (.lst (ys ++ [y]))) else Pv (i + 1) ys H4)
    (hd : ∀ ys H, Pv xs.length ys H → Q (.ref D) H) :
    ∃ W : Nat → Nat → List V → Hp → Prop, (∃ m, W 0 m [] (upd H1 D (.lst []))) ∧
      ∀ i m ys H2, W i m ys H2 → (J.stop i H2 ∧ Q (.ref D) H2) ∨ (J.go i H2 ∧ ∃ N : List V → Hp → Prop, (∀ ys' H', N ys' H' → ∃ m', m' < m ∧ W (i + 1) m' ys' H') ∧
        ∀ x H', J.yld i H2 x H' → g x σ0 H' fun σ2 H3 => tc σ2 H3 fun b H4 => if b = true then te σ2 H4 fun y H5 => H5 D = some (.lst ys) ∧ ys.length < sizeLine ∧ N (ys ++ [y]) (upd H5 D (.lst (ys ++ [y]))) else N ys H4) := by
  refine ⟨fun i m ys H => m = xs.length - i ∧ i ≤ xs.length ∧ Pv i ys H, ⟨xs.length, by simp, Nat.zero_le _, h0⟩, ?_⟩
  rintro i m ys H ⟨rfl, hi, p⟩
  have q := hl i ys H p
  by_cases hlt : i < xs.length
  · refine .inr ⟨w.go i H q hlt, Pv (i + 1), fun σ' H' p' => ⟨xs.length - (i + 1), by omega, rfl, hlt, p'⟩, fun x H' y => ?_⟩
    obtain ⟨e1, e2⟩ := w.yld i H x H' q hlt y
    subst e2
    exact hs i x ys _ hlt e1 p
  · have e : i = xs.length := by omega
    subst e
    exact .inl ⟨w.stop _ H q (Nat.le_refl _), hd ys H p⟩
end L2
set_option Elab.async false
set_option linter.all false
set_option maxRecDepth 100000
namespace HT
open PySem PyProof.Rows
open PySem.SeqAt
open PySem.AutoSeq1 (wpAny_loadPart')
open PySem.MeetsSeq PySem.MeetsSeq2 PySem.MeetsSeq3
section
variable {prog : Program} {w : World} {A : Around} {E : Value → Shared → Prop} {s : Shared}
theorem getItem_tuple_whole {t sl : Addr} {items : Array Value} {vl vu : Value} {lo hi : Option Int} {Q : Value → Shared → Prop} (ht : IsTup s.heap t items) (hs : s.heap.IsSliceOf sl vl vu .none) (pl : IsPart vl lo) (pu : IsPart vu hi)
    (h1 : sIx items.size 0 lo = 0) (h2 : sIx items.size items.size hi = items.size)
    (h : Q (.ref t) s) : wpAny (model prog w) A (getItem (.ref t) (.ref sl)) Q E s := by
  obtain ⟨os, hos, hcs, hds⟩ := id hs
  have hTs : s.TypeIs (.ref sl) "slice" := ⟨os, hos, hcs⟩
  unfold getItem
  try with_reducible refine wpAny_holding ?_
  first | refine wpAny_bind (wpAny_pure ?_) | skip
  refine wpAny_bind (wpAny_sequenceKey ht.typeIs (by decide) ?_)
  refine wpAny_bind (wpAny_callSpecial?_slot (name := Str.ofString "__getitem__") ht.typeIs PyProof.Rows.slot_tuple_getitem
    (wpAny_call_entry PyProof.Rows.slot_tuple_getitem ht.typeIs entry_tuple_getitem ?_ (args_tuple_getitem _ _)))
  show wpAny _ _ (Builtin.Tuple.tupleItemsOf (.ref t) >>= _) _ _ s
  refine wpAny_bind (tupleItemsOf_ ht ?_)
  refine wpAny_bind (wpAny_typeOf hTs ?_)
  rw [if_pos (by decide)]
  refine wpAny_bind (sliceApplied_gen hs pl pu ?_)
  rw [h1, h2]
  show wpAny _ _ (if (((0 : Nat) : Int) == 0 && (1 : Int) == 1 && (items.size - 0) == items.size) = true then _ else _) _ _ s
  rw [if_pos (by simp)]
  unfold Builtin.Tuple.tupleIsExact
  refine wpAny_bind (wpAny_bind (wpAny_typeOf ht.typeIs (wpAny_pure ?_)))
  rw [if_pos (by decide)]
  exact wpAny_bind (wpAny_rule (wpAny_pure ⟨_, rfl, wpAny_pure h⟩))
end
end HT
namespace L2
open PySem PySem.Spec PyProof.Rows
noncomputable def cellOrFree (xs : List (Str × NameKind)) (x : Str) : Bool := xs.lookup x == some .cell || xs.lookup x == some .free
noncomputable def compChk (XN : List Str) (xs sn : List (Str × NameKind)) (N : List Str) (nt : Nat) (js : List Nat) : Bool :=
  decide N.Nodup && N.length == nt + js.length && (js.zip (N.drop nt)).all (fun p => XN[p.1]? == some p.2 && cellOrFree xs p.2) && (N.drop nt).all (fun x => sn.lookup x == some .free)
    && sn.all (fun y => y.2 != .cell) && sn.all (fun y => y.2 != .local || sn.lookup y.1 == some .local) && sn.all (fun y => y.2 != .free || cellOrFree xs y.1)
theorem cellOrFree_iff {xs : List (Str × NameKind)} {x : Str} (h : cellOrFree xs x = true) : xs.lookup x = some .cell ∨ xs.lookup x = some .free := by
  unfold cellOrFree at h
  rw [Bool.or_eq_true] at h
  simpa using h
theorem compOk_of {X : Cx} {scope : Scope} {N : List Str} {nt : Nat} {js : List Nat} (XN : List Str) (xs : List (Str × NameKind)) (hk : scope.kind = .function) (hN : X.N = XN) (hx : X.env.scope.names = xs)
    (h : compChk XN xs scope.names N nt js = true) : CompOk X scope N nt js := by
  subst hN hx
  unfold compChk at h
  simp only [Bool.and_eq_true] at h
  obtain ⟨⟨⟨⟨⟨⟨h1, h2⟩, h3⟩, h4⟩, h5⟩, h6⟩, h7⟩ := h
  refine ⟨hk, of_decide_eq_true h1, by simpa using h2, fun k j x e1 e2 => ?_, fun k x e => ?_, fun y hy => ?_, fun y hy e => ?_, fun y hy e => ?_⟩
  · have hm : (j, x) ∈ js.zip (N.drop nt) := by
      have e2' : (N.drop nt)[k]? = some x := by rw [List.getElem?_drop]; exact e2
      have : (js.zip (N.drop nt))[k]? = some (j, x) := by rw [List.getElem?_zip_eq_some]; exact ⟨e1, e2'⟩
      exact List.mem_of_getElem? this
    have q := List.all_eq_true.mp h3 _ hm
    rw [Bool.and_eq_true] at q
    exact ⟨by simpa using q.1, cellOrFree_iff q.2⟩
  · have hm : x ∈ N.drop nt := by
      have e2' : (N.drop nt)[k]? = some x := by rw [List.getElem?_drop]; exact e
      exact List.mem_of_getElem? e2'
    simpa using List.all_eq_true.mp h4 _ hm
  · simpa using List.all_eq_true.mp h5 _ hy
  · have q := List.all_eq_true.mp h6 _ hy
    rw [e] at q
    simpa using q
  · have q := List.all_eq_true.mp h7 _ hy
    rw [e] at q
    exact cellOrFree_iff (by simpa using q)
noncomputable def rSlTA (K : PySem.W.Frag) : V → Option Int → Option Int → Hp → VK → Prop := fun x lo hi H Q => ∃ a xs, x = .ref a ∧ SqT K H a xs ∧ (cutV xs lo hi = xs → Q (.ref a) H) ∧ (∀ p, H p = none → Q (.ref p) (upd H p (.tup (cutV xs lo hi))))
theorem sl_tupA {X : Cx} : SlR X (rSlTA X.K) := by
  intro pins s σ H x v vl vu lo hi sl Q I rx hs pl pu h
  obtain ⟨a, xs, e, hx, q1, q2⟩ := h
  by_cases hw : HT.sIx xs.length 0 lo = 0 ∧ HT.sIx xs.length xs.length hi = xs.length
  · subst e
    cases rx
    obtain ⟨its, r, ht, hz⟩ := I.tuple hx
    have hlen : its.toArray.size = xs.length := by rw [List.size_toArray]; exact r.length.symm
    refine ⟨"tuple", _, PyProof.Rows.slot_tuple_getitem.lookup, ht.typeIs, ?_⟩
    refine HT.getItem_tuple_whole ht hs pl pu (by rw [hlen]; exact hw.1) (by rw [hlen]; exact hw.2) ⟨.ref a, H, I, rfl, q1 ?_⟩
    unfold cutV
    rw [hw.1, hw.2]
    simp
  · exact sl_tup pins s σ H x v vl vu lo hi sl Q I rx hs pl pu ⟨a, xs, e, hx, hw, q2⟩
end L2
set_option Elab.async false
set_option linter.all false
set_option maxRecDepth 100000
namespace L2
open PySem PySem.Spec PyProof.Rows
theorem ex_kS {s : Str} {P : Key → Prop} : (∃ k, V.str s = kV k ∧ P k) ↔ P (Sum.inr s) := by
  constructor
  · rintro ⟨k, e, p⟩
    cases k with
    | inl i => cases e
    | inr x => cases e; exact p
  · exact fun p => ⟨_, rfl, p⟩
theorem ex_kI {i : Int} {P : Key → Prop} : (∃ k, V.int i = kV k ∧ P k) ↔ P (Sum.inl i) := by
  constructor
  · rintro ⟨k, e, p⟩
    cases k with
    | inl i => cases e; exact p
    | inr x => cases e
  · exact fun p => ⟨_, rfl, p⟩
section
variable {X : Cx} {o i value e : Expr} {td ty tv : TE} {pos pos' : Pos}
noncomputable def tDG (td ty : TE) : TE := fun σ H Q => td σ H fun x H1 => ty σ H1 fun y H2 => ∃ a, x = .ref a ∧ ∃ k, y = kV k ∧ ∃ kvs v, H2 a = some (.dK kvs) ∧ valV kvs k = some v ∧ Q v H2
theorem pe_dg (hu : X.A.units + 1 < cLine) (ho : PE X o td) (hi : PE X i ty) (hs : NoSl i) : PE X (.Subscript o i pos) (tDG td ty) := by
  intro pins s σ H Q I h
  refine subD_of PySem.F.slot_dict_getitem.lookup hs (thn (ho pins s σ H _ I h) fun u s1 ⟨x, H1, I1, rx, q1⟩ => thn (hi pins s1 σ H1 _ I1 q1) fun iv s2 zr3993 => ?_)
  obtain ⟨y, H2, I2, ry, a, ex, k, ey, kvs, v, hd, hv, q2⟩ := zr3993
  subst ex
  obtain rfl : u = Value.ref a := rx
  have g : DGet H2 a y (some v) := .inl ⟨kvs, k, .inl hd, ey, hv.symm⟩
  exact ⟨dict_typeIs I2 g, d_getItem hu I2 g ry fun w' s3 I3 rw' => ⟨v, H2, I3, rw', q2⟩⟩
noncomputable def sDP (td ty tv : TE) : TS := fun D σ H => tv σ H fun v H1 => td σ H1 fun x H2 => ty σ H2 fun y H3 => ∃ a, x = .ref a ∧ ∃ k, y = kV k ∧ ∃ kvs, H3 a = some (.dK kvs) ∧ kvs.length < sizeLine ∧ D.nx σ (upd H3 a (.dK (putK kvs k v)))
theorem ps_dp (hu : X.A.units + 1 < cLine) (ho : PE X o td) (hi : PE X i ty) (hv : PE X value tv) (hs : swapsWith value (some (.Subscript o i pos')) pos.line X.env = pure false) :
    PS X (.Assign [.Subscript o i pos'] value pos) (sDP td ty tv) := by
  intro pins s σ H D I h
  refine wpAny_Assign_Subscript (thn (hv pins s σ H _ I h) fun r s1 ⟨v, H1, I1, rv, q1⟩ => thn (ho pins s1 σ H1 _ I1 q1) fun u s2 ⟨x, H2, I2, rx, q2⟩ => thn (hi pins s2 σ H2 _ I2 q2) fun iv s3 zr4002 => ?_) hs
  obtain ⟨y, H3, I3, ry, a, ex, k, ey, kvs, hd, hl, q3⟩ := zr4002
  subst ex
  obtain rfl : u = Value.ref a := rx
  have g : DPut H3 a y v (upd H3 a (.dK (putK kvs k v))) := .inl ⟨kvs, k, hd, ey, hl, rfl⟩
  exact d_setItem hu I3 g ry rv fun s4 I4 => ⟨σ, _, I4, q3⟩
end
end L2
namespace L2
open PySem PySem.Spec PyProof.Rows
theorem while_rd {c : TT} {tb : TS} {D : Ends} {σ : St} {H : Hp} (W : Nat → St → Hp → Prop) (hend : St → Hp → Prop) (h0 : ∃ m, W m σ H)
    (hs : ∀ R : St → Hp → Prop, (∀ σ H, hend σ H → R σ H) → ∀ m σ H, W m σ H → c σ H fun b H1 => if b = true then ∃ N : St → Hp → Prop, (∀ σ' H', N σ' H' → ∃ m', m' < m ∧ W m' σ' H') ∧ tb { D with nx := N, ct := N, bk := R } σ H1 else R σ H1)
    (hnx : ∀ σ H, hend σ H → D.nx σ H) : tWhile c tb D σ H := ⟨W, h0, fun m σ H w => hs D.nx hnx m σ H w⟩
theorem cxK {CX : CXT} {P : Program} {w : World} {K : PySem.W.Frag} {mg : Str → Option Value} {base : Heap} {N : List Str} {q : Str} {sc : Scope} {f : Addr} {cd : Value} {A : Around} {o : List Env} {s : Shared} {H : Hp} {E : XK} :
    (cxOf CX P w K mg base N q sc f cd A o s H E).K = K := rfl
theorem cpK {X : Cx} {sc : Scope} {N : List Str} {cl : List (Str × Addr)} {C : Addr} {fp : List Addr} {s : Shared} {H : Hp} {xe : Value → Shared → Prop} : (compCx X sc N cl C fp s H xe).K = X.K := rfl
end L2
set_option Elab.async false
set_option linter.all false
set_option maxRecDepth 100000
namespace L2
open PySem PySem.Spec PyProof.Rows
theorem scal_ii (i j : Int) : scal (.int i) (.int j) = true := rfl
theorem scal_ss (i j : Str) : scal (.str i) (.str j) = true := rfl
theorem scal_bb (i j : Bool) : scal (.bl i) (.bl j) = true := rfl
theorem scal_nn : scal .non .non = true := rfl
theorem scal_in (i : Int) : scal (.int i) .non = true := rfl
theorem scal_si (s : Str) (i : Int) : scal (.str s) (.int i) = true := rfl
section
variable {X : Cx} {a b o e l : Expr} {es : List Expr} {ta tb to : TE} {t : TA} {pos : Pos} {tg : Expr}
theorem OpR.imp {f : Value → Value → Sem Value} {r r' : R2} (h : OpR X f r) (i : ∀ x y H Q, r' x y H Q → r x y H Q) : OpR X f r' := fun pins s σ H x y v u Q I rx ry q => h pins s σ H x y v u Q I rx ry (i _ _ _ _ q)
theorem CallR.imp {f : Value} {r r' : List V → Hp → VK → Prop} (h : CallR X f r) (i : ∀ x H Q, r' x H Q → r x H Q) : CallR X f r' := fun pins s σ H xs us Q I rx q => h pins s σ H xs us Q I rx (i _ _ _ q)
theorem IxR.imp {r r' : R2} (h : IxR X r) (i : ∀ x y H Q, r' x y H Q → r x y H Q) : IxR X r' := fun value slice pins s σ H x y v u Q I rx ry q hs => h value slice pins s σ H x y v u Q I rx ry (i _ _ _ _ q) hs
theorem SlR.imp {r r' : V → Option Int → Option Int → Hp → VK → Prop} (h : SlR X r) (i : ∀ x lo hi H Q, r' x lo hi H Q → r x lo hi H Q) : SlR X r' := fun pins s σ H x v vl vu lo hi sl Q I rx hs pl pu q => h pins s σ H x v vl vu lo hi sl Q I rx hs pl pu (i _ _ _ _ _ q)
noncomputable def rLenL : List V → Hp → VK → Prop := fun xs H Q => ∃ p, xs = [.ref p] ∧ ∃ ys, H p = some (.lst ys) ∧ Q (.int ys.length) H
noncomputable def rLenT : List V → Hp → VK → Prop := fun xs H Q => ∃ p, xs = [.ref p] ∧ ∃ ys, H p = some (.tup ys) ∧ Q (.int ys.length) H
theorem call_lenL : CallR X (.builtin "len") rLenL := call_len_seq.imp fun _ _ _ zq11 => by obtain ⟨p, e, ys, h, q⟩ := zq11; exact (⟨p, ys, e, .inl (.of h), q⟩)
theorem call_lenT : CallR X (.builtin "len") rLenT := call_len_seq.imp fun _ _ _ zq12 => by obtain ⟨p, e, ys, h, q⟩ := zq12; exact (⟨p, ys, e, .inr (.of h), q⟩)
noncomputable def rIL : R2 := fun x y H Q => ∃ p, x = .ref p ∧ ∃ i, y = .int i ∧ ∃ xs, H p = some (.lst xs) ∧ ∃ v, atI xs i = some v ∧ Q v H
noncomputable def rIT : R2 := fun x y H Q => ∃ p, x = .ref p ∧ ∃ i, y = .int i ∧ ∃ xs, H p = some (.tup xs) ∧ ∃ v, atI xs i = some v ∧ Q v H
theorem ix_L : IxR X rIL := ix_list.imp fun _ _ _ _ zq13 => by obtain ⟨p, e, i, e2, xs, h, v, ha, q⟩ := zq13; exact (⟨p, xs, i, v, e, e2, .of h, ha, q⟩)
theorem ix_T : IxR X rIT := ix_tup.imp fun _ _ _ _ zq14 => by obtain ⟨p, e, i, e2, xs, h, v, ha, q⟩ := zq14; exact (⟨p, xs, i, v, e, e2, .of h, ha, q⟩)
noncomputable def rIS : R2 := fun x y H Q => ∃ z, x = .str z ∧ ∃ i, y = .int i ∧ z.length ≤ sizeLine ∧ ∃ c, atI z.cps.toList i = some c ∧ Q (.str ⟨#[c]⟩) H
theorem ix_S : IxR X rIS := ix_str.imp fun _ _ _ _ zq15 => by obtain ⟨z, e, i, e2, h, c, ha, q⟩ := zq15; exact (⟨z, i, c, e, e2, h, ha, q⟩)
noncomputable def rSL : V → Option Int → Option Int → Hp → VK → Prop := fun x lo hi H Q => ∃ a, x = .ref a ∧ ∃ xs, H a = some (.lst xs) ∧ ∀ p, H p = none → Q (.ref p) (upd H p (.lst (cutV xs lo hi)))
theorem sl_L : SlR X rSL := sl_list.imp fun _ _ _ _ _ zq16 => by obtain ⟨a, e, xs, h, q⟩ := zq16; exact (⟨a, xs, e, .of h, q⟩)
noncomputable def rSQ (K : PySem.W.Frag) : V → Option Int → Option Int → Hp → VK → Prop := fun x lo hi H Q => ∃ a, x = .ref a ∧ ∃ xs, SqL K H a xs ∧ ∀ p, H p = none → Q (.ref p) (upd H p (.lst (cutV xs lo hi)))
theorem sl_Q : SlR X (rSQ X.K) := sl_list.imp fun _ _ _ _ _ zq17 => by obtain ⟨a, e, xs, h, q⟩ := zq17; exact (⟨a, xs, e, h, q⟩)
noncomputable def rST : V → Option Int → Option Int → Hp → VK → Prop := fun x lo hi H Q => ∃ a, x = .ref a ∧ ∃ xs, H a = some (.tup xs) ∧ (cutV xs lo hi = xs → Q (.ref a) H) ∧ (∀ p, H p = none → Q (.ref p) (upd H p (.tup (cutV xs lo hi))))
theorem sl_T : SlR X rST := sl_tupA.imp fun _ _ _ _ _ zq18 => by obtain ⟨a, e, xs, h, q⟩ := zq18; exact (⟨a, xs, e, .of h, q⟩)
noncomputable def iL (K : PySem.W.Frag) (tl : TE) : TI := fun σ H R => tl σ H fun x H1 => ∃ a, x = .ref a ∧ ∃ xs, H1 a = some (.lst xs) ∧ R (Itl K a) H1
noncomputable def iT (K : PySem.W.Frag) (tl : TE) : TI := fun σ H R => tl σ H fun x H1 => ∃ a, x = .ref a ∧ ∃ xs, H1 a = some (.tup xs) ∧ R (Itt K a) H1
theorem pi_L {tl : TE} (hl : PE X l tl) : PI X tg l (iL X.K tl) := by
  intro pins s σ H R I h
  refine thn (hl pins s σ H _ I h) fun v s1 zr4055 => ?_
  obtain ⟨x, H1, I1, r1, a, e, xs, hq, q⟩ := zr4055
  subst e
  cases r1
  obtain ⟨its, rv, p, hz⟩ := I1.list (SqL.of hq)
  refine wpAny_pyIter_list p.isList ?_
  refine ⟨s1.heap.objs.size, [s1.heap.objs.size], _, _, H1, rfl, I1.kept (t' := s1.toks) fun b o e => Heap.get?_push_of_some _ e, turn_list a _, ⟨_, Heap.get?_push_size _ rfl, rfl, rfl⟩, fun b hb => ?_, q⟩
  have e : b = s1.heap.objs.size := by simpa using hb
  subst e
  exact I1.fpOk (Nat.le_refl _) (I1.hok.fresh (Nat.le_refl _))
theorem pi_T {tl : TE} (hl : PE X l tl) : PI X tg l (iT X.K tl) := by
  intro pins s σ H R I h
  refine thn (hl pins s σ H _ I h) fun v s1 zr4066 => ?_
  obtain ⟨x, H1, I1, r1, a, e, xs, hq, q⟩ := zr4066
  subst e
  cases r1
  obtain ⟨its, rv, p, hz⟩ := I1.tuple (SqT.of hq)
  refine wpAny_pyIter_tuple (show s1.heap.IsTuple a its.toArray from p) ?_
  refine ⟨s1.heap.objs.size, [s1.heap.objs.size], _, _, H1, rfl, I1.kept (t' := s1.toks) fun b o e => Heap.get?_push_of_some _ e, turn_tuple a _, ⟨_, Heap.get?_push_size _ rfl, rfl, rfl⟩, fun b hb => ?_, q⟩
  have e : b = s1.heap.objs.size := by simpa using hb
  subst e
  exact I1.fpOk (Nat.le_refl _) (I1.hok.fresh (Nat.le_refl _))
noncomputable abbrev RM := Addr → List V → Hp → VK → Prop
noncomputable def MtL (X : Cx) (id : String) (r : RM) : Prop := MtR X id fun x vs H Q => ∃ p, x = .ref p ∧ r p vs H Q
noncomputable def tML (r : RM) (to : TE) (t : TA) : TE := fun σ H Q => to σ H fun x H1 => ∃ p, x = .ref p ∧ (∃ xs, H1 p = some (.lst xs)) ∧ t σ H1 fun vs H2 => r p vs H2 Q
variable {name : Str} {id : String} {r : RM} {apos cpos : Pos}
theorem pe_mL (slot : Slot "list" name id) (hty : typeOf (.builtin id) = pure (.type "method_descriptor")) (hm : MtL X id r) (ho : PE X o to) (ha : PA X (e :: es) t)
    (hbase : attributeBase o name X.env (eval o X.env) = eval o X.env := by rfl)
    (hfew : ((backTo cpos (starEach (e :: es) X.env)).all (fun x => !x.1) && (backToKw cpos (keywordEach [] X.env)).all (fun x => x.1.isSome)
      && decide ((e :: es).length + ([] : List Keyword).length + (if ([] : List Keyword).isEmpty then 0 else 1) < 30)) = true := by rfl)
    (hline : (apos.endLine == cpos.line) = true := by rfl) (hs : starEach (e :: es) X.env = (false, eval e X.env) :: starEach es X.env := by rfl) (hplain : (backTo cpos (starEach es X.env)).any (·.1) = false := by rfl) :
    PE X (.Call (.Attribute o name apos) (e :: es) [] cpos) (tML r to t) := by
  intro pins s σ H Q I h
  refine wpAny_Call_method_late hbase hfew hline rfl (thn (ho pins s σ H _ I h) fun v s1 ⟨x, H1, I1, r1, p, ex, ⟨xs, hp⟩, q1⟩ => ?_)
  subst ex
  have ty : tyV X.K "list" (.ref p) H1 := .inl ⟨rfl, xs, .of hp⟩
  obtain ⟨h1, h2⟩ := tyV_is I1 r1 ty
  refine ⟨"list", id, PySem.F.plainAttrs_list, slot, hty, h1, h2, ?_⟩
  have hA := ha cpos pins s1 σ H1 _ I1 q1
  rw [hs] at hA ⊢
  refine Calls.callWith_builtin (by show (false || (backTo cpos (starEach es X.env)).any (·.1)) = false; rw [hplain] <;> rfl) (Calls.evalArgs_plain ?_)
  refine thn hA fun us s2 zr4094 => ?_
  obtain ⟨vs, H2, I2, rr, q2⟩ := zr4094
  exact hm pins s2 σ H2 (.ref p) vs v us Q I2 r1 rr ⟨p, rfl, q2⟩
theorem pe_mL0 (slot : Slot "list" name id) (hty : typeOf (.builtin id) = pure (.type "method_descriptor")) (hm : MtL X id r) (ho : PE X o to)
    (hbase : attributeBase o name X.env (eval o X.env) = eval o X.env := by rfl) (hline : (apos.endLine == cpos.line) = true := by rfl) : PE X (.Call (.Attribute o name apos) [] [] cpos) (tML r to tNil) := by
  intro pins s σ H Q I h
  refine wpAny_Call_method0_late hbase hline (thn (ho pins s σ H _ I h) fun v s1 ⟨x, H1, I1, r1, p, ex, ⟨xs, hp⟩, q1⟩ => ?_)
  subst ex
  have ty : tyV X.K "list" (.ref p) H1 := .inl ⟨rfl, xs, .of hp⟩
  obtain ⟨h1, h2⟩ := tyV_is I1 r1 ty
  exact ⟨"list", id, PySem.F.plainAttrs_list, slot, hty, h1, h2, Calls.callWith_builtin rfl (PySem.evalArgs_none (hm pins s1 σ H1 _ [] v [] Q I1 r1 .nil ⟨p, rfl, q1⟩))⟩
noncomputable def rmAppend : RM := fun p vs H Q => ∃ y, vs = [y] ∧ ∃ xs, H p = some (.lst xs) ∧ xs.length < sizeLine ∧ Q .non (upd H p (.lst (xs ++ [y])))
theorem ml_append : MtL X "list.append" rmAppend := fun pins s σ H x vs v us Q I rx rv zq19 => by obtain ⟨p, e, y, e2, xs, h, hl, q⟩ := zq19; exact (mt_append pins s σ H x vs v us Q I rx rv ⟨p, xs, y, e, e2, h, hl, q⟩)
noncomputable def rmPop : RM := fun p vs H Q => vs = [] ∧ ∃ xs, H p = some (.lst xs) ∧ ∃ y, xs[xs.length - 1]? = some y ∧ Q y (upd H p (.lst xs.dropLast))
theorem ml_pop : MtL X "list.pop" rmPop := fun pins s σ H x vs v us Q I rx rv zq20 => by obtain ⟨p, e, e2, xs, h, y, hl, q⟩ := zq20; exact (mt_pop pins s σ H x vs v us Q I rx rv ⟨p, xs, y, e, e2, h, hl, q⟩)
noncomputable def rmInsert : RM := fun p vs H Q => ∃ i y, vs = [.int i, y] ∧ ∃ xs, H p = some (.lst xs) ∧ 0 ≤ i ∧ i ≤ xs.length ∧ xs.length < sizeLine ∧ Q .non (upd H p (.lst (xs.take i.toNat ++ y :: xs.drop i.toNat)))
theorem ml_insert : MtL X "list.insert" rmInsert := by
  intro pins s σ H x vs v us Q I rx rv h
  obtain ⟨p, rfl, i, y, rfl, xs, hH, i0, i1, hz, q⟩ := h
  cases rx
  obtain ⟨u, w', rfl, ru, rw'⟩ := vals2 rv
  obtain ⟨t, rfl⟩ := ru
  obtain ⟨z, its, n, rr, hl, e⟩ := I.lstM hH
  have hfit : Builtin.List.listFitsIndex i = true := by
    have h63 := line63
    simp only [Builtin.List.listFitsIndex, Bool.and_eq_true, decide_eq_true_eq]
    omega
  refine call_meets F.slot_list_insert ⟨_, e, rfl⟩ F.entry_list_insert (F.args_list_insert_3 _ _ _) (PySem.AutoSeq1.list_insert_list_int_val_1 p its.toArray n i t w' (by rw [hfit]; decide) (by rw [List.size_toArray]; omega)) ⟨e, ?_⟩
  refine ⟨.non, _, I.lset (its' := its.take i.toNat ++ w' :: its.drop i.toNat) hH e ?_ ((rr.take i.toNat).append (.cons rw' (rr.drop i.toNat))) ?_, rfl, q⟩
  · have hk : (if i < 0 then (i + (its.toArray.size : Int)).toNat else min i.toNat its.toArray.size) = i.toNat := by
      rw [if_neg (by omega), List.size_toArray]; omega
    simp only [hk]
    apply Array.ext'
    simp
    rw [List.take_of_length_le (by simp)]
  · simp
    omega
noncomputable def rInL (neg : Bool) : R2 := fun x y H Q => ∃ p, y = .ref p ∧ ∃ xs, H p = some (.lst xs) ∧ flatV x = true ∧ xs.all flatV = true ∧ Q (.bl (if neg then !inV x xs else inV x xs)) H
noncomputable def rInT (neg : Bool) : R2 := fun x y H Q => ∃ p, y = .ref p ∧ ∃ xs, H p = some (.tup xs) ∧ flatV x = true ∧ xs.all flatV = true ∧ Q (.bl (if neg then !inV x xs else inV x xs)) H
theorem op_inL : OpR X (compareOp .In) (rInL false) := op_in_seq.imp fun _ _ _ _ zq21 => by obtain ⟨p, e, xs, h, f1, f2, q⟩ := zq21; exact (⟨p, xs, e, .inl (.of h), f1, f2, q⟩)
theorem op_inT : OpR X (compareOp .In) (rInT false) := op_in_seq.imp fun _ _ _ _ zq22 => by obtain ⟨p, e, xs, h, f1, f2, q⟩ := zq22; exact (⟨p, xs, e, .inr (.of h), f1, f2, q⟩)
noncomputable def rListT : List V → Hp → VK → Prop := fun xs H Q => ∃ p, xs = [.ref p] ∧ ∃ ys, H p = some (.tup ys) ∧ ∀ l, H l = none → Q (.ref l) (upd H l (.lst ys))
noncomputable def rTupL : List V → Hp → VK → Prop := fun xs H Q => ∃ p, xs = [.ref p] ∧ ∃ ys, H p = some (.lst ys) ∧ ∀ l, H l = none → Q (.ref l) (upd H l (.tup ys))
theorem call_listT : CallR X (.type "list") rListT := call_list_of.imp fun _ _ _ zq23 => by obtain ⟨p, e, ys, h, q⟩ := zq23; exact (⟨p, ys, e, .inr (.of h), q⟩)
theorem call_tupL : CallR X (.type "tuple") rTupL := call_tuple_of.imp fun _ _ _ zq24 => by obtain ⟨p, e, ys, h, q⟩ := zq24; exact (⟨p, ys, e, .inl ⟨.of h, q⟩⟩)
noncomputable def rCS : R2 := fun x y H Q => ∃ i, x = .str i ∧ ∃ j, y = .str j ∧ i.length + j.length ≤ sizeLine ∧ Q (.str (i ++ j)) H
theorem op_catS : OpR X (binaryOp .Add) rCS := op_add_str.imp fun _ _ _ _ zq25 => by obtain ⟨i, e, j, e2, h, q⟩ := zq25; exact (⟨i, j, e, e2, h, q⟩)
noncomputable def rLenS : List V → Hp → VK → Prop := fun xs H Q => ∃ z, xs = [.str z] ∧ z.length ≤ sizeLine ∧ Q (.int z.length) H
theorem call_lenS : CallR X (.builtin "len") rLenS := call_len_str
noncomputable def rLeS : R2 := fun x y H Q => ∃ i, x = .str i ∧ ∃ j, y = .str j ∧ Q (.bl (!decide (j.cps.toList < i.cps.toList))) H
theorem op_leS : OpR X (compareOp .LtE) rLeS := op_le_str.imp fun _ _ _ _ zq26 => by obtain ⟨i, e, j, e2, q⟩ := zq26; exact (⟨i, j, e, e2, q⟩)
end
end L2
set_option Elab.async false
set_option linter.all false
set_option maxRecDepth 100000
namespace L2
open PySem PySem.Spec PyProof.Rows
section
variable {X : Cx}
theorem ps_setC {i : Nat} {y : Str} {py spos : Pos} {elt tg iter : Expr} {ifs : List Expr} {scope : Scope} {pos : Pos} {N : List Str} {nt : Nat} {js : List Nat} {wi : TI} {g : TG} {tc : TT} {te : TE}
    (hN : X.N.Nodup) (hi0 : X.N[i]? = some y) (hy : Loc X.env.scope y) (hca : X.calm = true) (S : CompOk X scope N nt js) (hi : PI X tg iter wi)
    (hg : ∀ cl C fp s H xe, PG (compCx X scope N cl C fp s H xe) tg g) (hgo : TgOk g nt)
    (hc : ∀ cl C fp s H xe, PTs (compCx X scope N cl C fp s H xe) ifs tc)
    (he : ∀ cl C fp s H xe, PE (compCx X scope N cl C fp s H xe) elt te)
    (hs : ∀ x, foldedSetIterable iter X.env x = pure x := by intro _; rfl)
    (hsw : swapsWith (.ListComp elt [⟨tg, iter, ifs, 0⟩] scope pos) (some (.Name y py)) spos.line X.env = pure true := by rfl)
    (hf : X.fn y = true ∨ X.env.scope.names.lookup y = some .local := by first | exact .inl rfl | exact .inr rfl | assumption) :
    PS X (.Assign [.Name y py] (.ListComp elt [⟨tg, iter, ifs, 0⟩] scope pos) spos) (tAsg (tComp nt js wi g tc te) (gName i)) := by
  intro pins s σ H D I h
  obtain ⟨cl, hclos, hcl1, _, hcl2⟩ := closure_of (env := X.env) scope.names [] (fun x hx hk => I.ok.has x.1 (S.free x hx hk))
  have hcl : ∀ x c, cl.lookup x = some c → X.env.cells.lookup x = some c := fun x c e => (hcl1 x c e).elim (fun z => by simp at z) fun z => z
  have hclos' : closureFor scope X.env = pure cl := by
    unfold closureFor
    simp only []
    rw [hclos]
    rfl
  rw [exec_Assign_Name_used _ _ _ _ hsw]
  refine wpAny_bind (wpAny_standAt (wpAny_bind ?_))
  show wpAny _ X.A (do let _ ← comprehension (.ListComp elt [⟨tg, iter, ifs, 0⟩] scope pos) scope X.env _ (newList []) false (eval iter X.env) (some (assign (.Name y py) X.env))) _ _ s
  refine wpAny_bind (wpAny_mono (wpAny_comprehension_free (use := some (assign (.Name y py) X.env)) (Q := fun _ s' => SP X pins D .next s') rfl hs hclos' S.kind S.loc (thn (hi pins s σ H _ I h) fun v s1 h1 => thn h1 fun itv s2 h2 => ?_)) (fun _ s' hq => wpAny_pure (wpAny_pure hq)) fun _ _ e => e)
  obtain ⟨it, fp, tn, J, H2, e, I2, T, st2, f2, q2⟩ := h2
  subst e
  have hfresh : H2 s2.heap.objs.size = none := I2.hok.fresh (Nat.le_refl _)
  obtain ⟨W, ⟨m0, w0⟩, turn⟩ := q2 s2.heap.objs.size hfresh
  refine wpAny_newObj_type (wpAny_newFunctionEnv S.own (by intro y hy; simp at hy) (fun h₁ hns₁ hsb₁ => ?_) S.kind)
  dsimp only at hns₁ hsb₁ ⊢
  generalize hG : s2.heap.push { cls := .type "list", dict := none, data := .seq ([] : List Value).toArray } = G at hns₁ hsb₁ ⊢
  have hGs : G.objs.size = s2.heap.objs.size + 1 := by rw [← hG, Heap.size_push]
  have kold : ∀ b o, s2.heap.get? b = some o → h₁.get? b = some o := fun b o e =>
    hsb₁.extBut b o (by rw [hGs]; exact Nat.ne_of_lt (Nat.lt_succ_of_lt (Heap.lt_size e))) (Heap.get?_push_of_some _ (hG ▸ Heap.get?_push_of_some _ e))
  have kD : h₁.get? s2.heap.objs.size = some { cls := .type "list", dict := none, data := .seq ([] : List Value).toArray } :=
    hsb₁.extBut _ _ (by rw [hGs]; exact Nat.ne_of_lt (Nat.lt_succ_self _)) (Heap.get?_push_of_some _ (hG ▸ Heap.get?_push_size _ rfl))
  have hok1 : HOk X.prog X.w (upd H2 s2.heap.objs.size (.lst [])) h₁ := I2.hok.laid kold (Nat.le_refl _) ⟨Nat.zero_le _, [], 0, .nil, kD⟩
  have hfpl : ∀ b ∈ fp, b < s2.heap.objs.size := fun b hb => by
    obtain ⟨o, e, _⟩ := T.obj _ _ st2 b hb
    exact Heap.lt_size e
  have hC0 : (upd H2 s2.heap.objs.size (.lst [])) G.objs.size = none := by
    rw [upd_ne (by rw [hGs]; exact Nat.ne_of_gt (Nat.lt_succ_self _))]
    exact I2.hok.fresh (by rw [hGs]; exact Nat.le_succ _)
  generalize hRR : (compPost (model X.prog X.w) X.A X.xe (some (assign (.Name y py) X.env)) (fun _ s' => SP X pins D .next s') (.ref s2.heap.objs.size) G.objs.size) = RR
  have stat : ∀ {H' : Hp}, (∀ b ∈ fp, H' b = none) → ∀ b ∈ fp, FpOk (compCx X scope N cl G.objs.size fp s2 H2 (notedBy (model X.prog X.w) X.A (compEnvC scope cl G.objs.size X.env) fun e s' => RR (.error e) s')) [] H' b := fun {H'} hn b hb => by
    obtain ⟨f0, f1, f2', f3, f4, f5⟩ := f2 b hb
    refine ⟨hn b hb, Nat.ne_of_lt (Nat.lt_of_lt_of_le (hfpl b hb) (by show _ ≤ G.objs.size; rw [hGs]; exact Nat.le_succ _)), fun z => ?_, .inl hb, fun x c e => f4 x c (hcl x c e), fun p hp => absurd (show p ∈ ([] : List (Addr × Obj)) from hp) (by simp)⟩
    rcases List.mem_cons.mp (I2.stkSub b z) with q | q
    · exact f1 q
    · exact f2' q
  have I3 : ∀ tk, Inv (compCx X scope N cl G.objs.size fp s2 H2 (notedBy (model X.prog X.w) X.A (compEnvC scope cl G.objs.size X.env) fun e s' => RR (.error e) s')) [] (inner nt js σ) (upd H2 s2.heap.objs.size (.lst [])) { s2 with heap := h₁, toks := tk } := fun tk =>
    comp_start S I2 f2 hcl hcl2 hfpl (by rw [hGs]; exact Nat.le_succ _) kold (fun b o e => by rw [upd_ne (ne_of_none e hfresh)]; exact e) (fun b n hb => by rw [upd_ne (Nat.ne_of_lt hb)]; exact n) hok1 hns₁ hC0 (fun _ => rfl)
  have loop : ∀ s₃ : Shared, s₃ = { s2 with heap := h₁, toks := s2.toks + ([] : List (Str × Value)).length } →
      codeAny (model X.prog X.w) X.A (.compLoop (.ListComp elt [⟨tg, iter, ifs, 0⟩] scope pos) 0 (.ref it) (.ref s2.heap.objs.size) (compEnvC scope cl G.objs.size X.env)) RR s₃ := by
    rintro s₃ rfl
    refine compLoop_any (fun n s' => ∃ i ys H', Inv (compCx X scope N cl G.objs.size fp s2 H2 (notedBy (model X.prog X.w) X.A (compEnvC scope cl G.objs.size X.env) fun e s' => RR (.error e) s')) [] (inner nt js σ) H' s' ∧ tn i s'.heap ∧ (∀ b ∈ fp, H' b = none) ∧ W i n ys H') ?_ m0
      ⟨0, [], _, I3 _, T.keep _ _ _ st2 fun b hb o e => kold b o e, fun b hb => by rw [upd_ne (Nat.ne_of_lt (hfpl b hb))]; exact (f2 b hb).1, w0⟩
    rintro n s3 ⟨i, ys, H3, J3, st3, fr3, w3⟩
    rcases turn i n ys H3 w3 with ⟨stop, qn⟩ | ⟨go, NN, hN, step⟩
    · refine thn (T.done (compCx X scope N cl G.objs.size fp s2 H2 (notedBy (model X.prog X.w) X.A (compEnvC scope cl G.objs.size X.env) fun e s' => RR (.error e) s')) rfl rfl rfl hca i [] s3 (inner nt js σ) H3 _ J3 (stat fr3) st3 stop) fun r s4 zr4209 => ?_
      obtain ⟨hr, I4⟩ := zr4209
      subst hr
      show RR (.ok .next) s4
      rw [← hRR]
      obtain ⟨mC, hnC, _⟩ := id I4.loc
      have I5 : Inv X pins σ H3 s4 := I2.call' (s' := s4) I4.os I4.base I4.hok I4.bare (fun b hb => by
        obtain ⟨f0, f1, f2', f3, f4, f5⟩ := f2 b hb
        exact ⟨f3, f1, f4, f5⟩)
      show wpAny _ X.A (assign (.Name y py) X.env (.ref s2.heap.objs.size)) _ _ s4
      have hCL : G.objs.size ≠ X.env.locals := Nat.ne_of_gt (Nat.lt_of_lt_of_le I2.lt (by rw [hGs]; exact Nat.le_succ _))
      have hCc : ∀ x c, X.env.cells.lookup x = some c → c ≠ G.objs.size := fun x c e z => by
        obtain ⟨v, q⟩ := I2.cell x c e
        exact absurd (Nat.lt_of_lt_of_le q.lt (by rw [z, hGs]; exact Nat.le_succ _)) (Nat.lt_irrefl _)
      refine wpAny_assign_Name (store_ok2 I5 hN hi0 hy (v := .ref s2.heap.objs.size) rfl (fun s6 I6 zr4222 => ?_) hf)
      obtain ⟨ad, sb, had⟩ := zr4222
      have hadC : G.objs.size ≠ ad := by
        rcases had with z | z
        · rw [z]; exact hCL
        · exact fun e => hCc _ _ z e.symm
      refine ⟨mC, hnC.sameBut sb hadC, fun h'' hs'' => ?_⟩
      refine ⟨_, H3, Inv.turned (t' := s6.toks) (it := G.objs.size) I6 (fun b o hb e => hs''.extBut b o hb e) I4.free hCL (.inr (Nat.le_trans I2.sz (by rw [hGs]; exact Nat.le_succ _))) hCc (fun p hp z => ?_), qn⟩
      have e := (I2.pin p hp).1
      exact absurd (Nat.lt_of_lt_of_le (Heap.lt_size e) (by rw [z, hGs]; exact Nat.le_succ _)) (Nat.lt_irrefl _)
    · refine thn (T.item (compCx X scope N cl G.objs.size fp s2 H2 (notedBy (model X.prog X.w) X.A (compEnvC scope cl G.objs.size X.env) fun e s' => RR (.error e) s')) rfl rfl rfl hca i [] s3 (inner nt js σ) H3 _ J3 (stat fr3) st3 go) fun r s4 zr4231 => ?_
      obtain ⟨u, hr, h4⟩ := zr4231
      subst hr
      refine thn h4 fun _ s5 zr4233 => ?_
      obtain ⟨x, H5, I5, r5, y5, st5, fr5⟩ := zr4233
      have I5' := I5.pinned (stat fr5) (T.obj _ _ st5)
      have g5 := hgo x (inner nt js σ) H5 _ inner_none (step x H5 y5)
      refine thn (hg cl G.objs.size fp s2 H2 _ _ s5 _ H5 x u _ I5' r5 g5) fun _ s6 zr4236 => ?_
      obtain ⟨σ6, H6, I6, wk6, q6⟩ := zr4236
      refine thn (hc cl G.objs.size fp s2 H2 _ _ s6 σ6 H6 _ I6 q6) fun ok s7 zr4237 => ?_
      obtain ⟨H7, I7, q7⟩ := zr4237
      have again : ∀ {s8 : Shared} {H8 : Hp} {ys' : List V}, Inv (compCx X scope N cl G.objs.size fp s2 H2 (notedBy (model X.prog X.w) X.A (compEnvC scope cl G.objs.size X.env) fun e s' => RR (.error e) s')) ([] ++ pinsAt fp s5.heap) σ6 H8 s8 → NN ys' H8 →
          ∃ m, m < n ∧ ∃ i ys H', Inv (compCx X scope N cl G.objs.size fp s2 H2 (notedBy (model X.prog X.w) X.A (compEnvC scope cl G.objs.size X.env) fun e s' => RR (.error e) s')) [] (inner nt js σ) H' s8 ∧ tn i s8.heap ∧ (∀ b ∈ fp, H' b = none) ∧ W i m ys H' := fun {s8 H8 ys'} I8 n8 => by
        obtain ⟨m', hm, w8⟩ := hN ys' H8 n8
        refine ⟨m', hm, i + 1, ys', H8, (I8.unpinned).wk wk6, T.keep _ _ _ st5 fun b hb o e => (I8.pin (b, o) (List.mem_append_right _ (List.mem_append_right _ (mem_pinsAt hb e)))).1, fun b hb => ?_, w8⟩
        obtain ⟨o, e, d⟩ := T.obj _ _ st5 b hb
        exact (I8.pin (b, o) (List.mem_append_right _ (List.mem_append_right _ (mem_pinsAt hb e)))).2.1
      cases ok with
      | false =>
        rw [if_neg Bool.false_ne_true] at q7 ⊢
        exact again I7 q7
      | true =>
        rw [if_pos rfl] at q7 ⊢
        refine thn (he cl G.objs.size fp s2 H2 _ _ s7 σ6 H7 _ I7 q7) fun y s8 zr4250 => ?_
        obtain ⟨yv, H8, I8, r8, hD8, hl8, q8⟩ := zr4250
        refine thn (mt_append (X := compCx X scope N cl G.objs.size fp s2 H2 (notedBy (model X.prog X.w) X.A (compEnvC scope cl G.objs.size X.env) fun e s' => RR (.error e) s')) _ s8 σ6 H8 (.ref s2.heap.objs.size) [yv] (.ref s2.heap.objs.size) [y] (fun _ H9 => NN (ys ++ [yv]) H9) I8 rfl (.cons r8 .nil) ⟨_, ys, yv, rfl, rfl, hD8, hl8, q8⟩) fun v9 s9 zr4251 => ?_
        obtain ⟨x9, H9, I9, r9, q9⟩ := zr4251
        exact again I9 q9
  subst hRR
  exact codeAny_compStart_list (loop _ rfl) (T.self _ 0 _ _ _ (T.keep _ _ _ st2 fun b hb o e => kold b o e) (loop _ rfl))
end
end L2
namespace L2
open PySem PySem.Spec PyProof.Rows
noncomputable def CompG (J : It) (σ0 : St) (g : TG) (tc : TT) (te : TE) (Q : VK) (H1 : Hp) (D : Addr) : Prop := ∃ W : Nat → Nat → List V → Hp → Prop, (∃ m, W 0 m [] (upd H1 D (.lst []))) ∧
  ∀ i m ys H2, W i m ys H2 → (J.stop i H2 ∧ Q (.ref D) H2) ∨ (J.go i H2 ∧ ∃ N : List V → Hp → Prop, (∀ ys' H', N ys' H' → ∃ m', m' < m ∧ W (i + 1) m' ys' H') ∧
    ∀ x H', J.yld i H2 x H' → g x σ0 H' fun σ2 H3 => tc σ2 H3 fun b H4 => if b = true then te σ2 H4 fun y H5 => H5 D = some (.lst ys) ∧ ys.length < sizeLine ∧ N (ys ++ [y]) (upd H5 D (.lst (ys ++ [y]))) else N ys H4)
theorem tComp_eq (nt : Nat) (js : List Nat) (wi : TI) (g : TG) (tc : TT) (te : TE) : tComp nt js wi g tc te = fun σ H Q => wi σ H fun J H1 => ∀ D, H1 D = none → CompG J (inner nt js σ) g tc te Q H1 D := rfl
noncomputable def ForG (J : It) (g : TG) (tb : TS) (D : Ends) (σ : St) (H1 : Hp) : Prop := ∃ W : Nat → Nat → St → Hp → Prop, (∃ m, W 0 m σ H1) ∧ ∀ i m σ H, W i m σ H →
  (J.stop i H ∧ D.nx σ H) ∨ (J.go i H ∧ ∃ N : St → Hp → Prop, (∀ σ' H', N σ' H' → ∃ m', m' < m ∧ W (i + 1) m' σ' H') ∧ ∀ x H', J.yld i H x H' → g x σ H' fun σ2 H2 => tb { D with nx := N, ct := N, bk := D.nx } σ2 H2)
theorem tFor_eq (wi : TI) (g : TG) (tb : TS) : tFor wi g tb = fun D σ H => wi σ H fun J H1 => ForG J g tb D σ H1 := rfl
theorem for_g {J : It} {xs : List V} {C : Hp → Prop} (w : Wlk J xs C) {g : TG} {tb : TS} {D : Ends} {σ : St} {H : Hp} (Pv : Nat → St → Hp → Prop) (h0 : Pv 0 σ H) (hl : ∀ i σ H, Pv i σ H → C H)
    (hs : ∀ i x σ H, i < xs.length → xs[i]? = some x → Pv i σ H → g x σ H fun σ2 H2 => tb { D with nx := Pv (i + 1), ct := Pv (i + 1), bk := D.nx } σ2 H2) (hd : ∀ σ H, Pv xs.length σ H → D.nx σ H) : ForG J g tb D σ H :=
  for_wlk w Pv h0 hl hs hd
theorem comp_g {J : It} {xs : List V} {C : Hp → Prop} (w : Wlk J xs C) {g : TG} {tc : TT} {te : TE} {σ0 : St} {Q : VK} {H1 : Hp} {D : Addr} (Pv : Nat → List V → Hp → Prop) (h0 : Pv 0 [] (upd H1 D (.lst []))) (hl : ∀ i ys H, Pv i ys H → C H)
    (hs : ∀ i x ys H, i < xs.length → xs[i]? = some x → Pv i ys H → g x σ0 H fun σ2 H3 => tc σ2 H3 fun b H4 => if b = true then te σ2 H4 fun y H5 => H5 D = some (.lst ys) ∧ ys.length < sizeLine ∧ Pv (i + 1) (ys ++ [y]) (upd H5 D (.lst (ys ++ [y]))) else Pv (i + 1) ys H4)
    (hd : ∀ ys H, Pv xs.length ys H → Q (.ref D) H) : CompG J σ0 g tc te Q H1 D := comp_wlk w Pv h0 hl hs hd
theorem inner0 (js : List Nat) (σ : St) : inner 0 js σ = js.map fun j => (σ[j]?).join := rfl
theorem inner1 (js : List Nat) (σ : St) : inner 1 js σ = none :: js.map fun j => (σ[j]?).join := rfl
theorem inner2 (js : List Nat) (σ : St) : inner 2 js σ = none :: none :: js.map fun j => (σ[j]?).join := rfl
theorem inner3 (js : List Nat) (σ : St) : inner 3 js σ = none :: none :: none :: js.map fun j => (σ[j]?).join := rfl
theorem Same.upd_new {H H1 : Hp} {p : Addr} {o : HO} (s : Same H H1) (hp : H1 p = none) : Same H (upd H1 p o) := fun b u e => by
  have e1 := s b u e
  rw [upd_ne (ne_of_none e1 hp)]; exact e1
theorem Same.upd0 {H : Hp} {p : Addr} {o : HO} (hp : H p = none) : Same H (upd H p o) := (Same.refl H).upd_new hp
end L2
set_option Elab.async false
set_option linter.all false
set_option maxRecDepth 100000
namespace L2
open PySem PySem.Spec PyProof.Rows
noncomputable def IsB (H : Hp) (x : V) (T : String) (k : Bool) : Prop := match x with
  | .non => k = false
  | .bl _ => k = (T == "bool" || T == "int")
  | .int _ => k = (T == "int")
  | .str _ => k = (T == "str")
  | .ref a => (∃ vs, H a = some (.tup vs) ∧ k = (T == "tuple")) ∨ (∃ vs, H a = some (.lst vs) ∧ k = (T == "list"))
  | _ => False
noncomputable def rIsB : List V → Hp → VK → Prop := fun xs H Q => ∃ x T, xs = [x, .ty T] ∧ (T = "int" ∨ T = "str" ∨ T = "bool" ∨ T = "tuple" ∨ T = "list") ∧ ∃ k, IsB H x T k ∧ Q (.bl k) H
theorem kit_all (K : PySem.W.Frag) {T : String} (h : T = "int" ∨ T = "str" ∨ T = "bool" ∨ T = "tuple" ∨ T = "list") :
    PySem.W.kitOne K (.type "NoneType") (.type T) = some false ∧ PySem.W.kitOne K (.type "bool") (.type T) = some (T == "bool" || T == "int") ∧ PySem.W.kitOne K (.type "int") (.type T) = some (T == "int") ∧
    PySem.W.kitOne K (.type "str") (.type T) = some (T == "str") ∧ PySem.W.kitOne K (.type "tuple") (.type T) = some (T == "tuple") ∧ PySem.W.kitOne K (.type "list") (.type T) = some (T == "list") := by
  rcases h with rfl | rfl | rfl | rfl | rfl
  all_goals exact ⟨rfl, rfl, rfl, rfl, rfl, rfl⟩
theorem call_isB {X : Cx} : CallR X (.builtin "isinstance") rIsB := call_isi.imp fun xs H Q ⟨x, T, e, hT, k, hk, q⟩ => by
  obtain ⟨k1, k2, k3, k4, k5, k6⟩ := kit_all X.K hT
  cases x with
  | non => cases hk; exact ⟨_, _, T, _, e, .non, k1, q⟩
  | bl b => cases hk; exact ⟨_, _, T, _, e, .bl b, k2, q⟩
  | int b => cases hk; exact ⟨_, _, T, _, e, .int b, k3, q⟩
  | str b => cases hk; exact ⟨_, _, T, _, e, .str b, k4, q⟩
  | ref a =>
    rcases hk with ⟨vs, h, rfl⟩ | ⟨vs, h, rfl⟩
    · exact ⟨_, _, T, _, e, .tup h, k5, q⟩
    · exact ⟨_, _, T, _, e, .lst h, k6, q⟩
  | _ => exact hk.elim
end L2
namespace L2
open PySem PySem.Spec PyProof.Rows
section
variable {X : Cx} {x : Str} {pos : Pos}
end
end L2
set_option Elab.async false
set_option linter.all false
namespace L2
open PySem
end L2
set_option Elab.async false
set_option linter.all false
namespace L2
open PySem
noncomputable def smallB (c : Nat) : Bool := decide (97 ≤ c) && decide (c ≤ 122)
end L2
namespace L2
open PySem
end L2
namespace L2
open PySem
theorem str_len_append (a b : Str) : (a ++ b).length = a.length + b.length := by
  show (a ++ b).cps.size = a.cps.size + b.cps.size
  exact Array.size_append
end L2
set_option Elab.async false
set_option linter.all false
set_option maxRecDepth 100000
namespace L2
open PySem PySem.Spec PyProof.Rows
end L2
namespace L2
open PySem
theorem hu100 {A : Around} {k : Nat} (hr : Room k A) : A.units + 100 < cLine := by have := hr.un; omega
end L2
set_option Elab.async false
set_option linter.all false
set_option maxRecDepth 100000
namespace HT
open PySem PyProof.Rows
section
variable {prog : Program} {w : World} {A : Around} {E : Value → Shared → Prop} {s : Shared}
theorem cat_tup0 {t b : Addr} {vs ws : List Value} {Q : Value → Shared → Prop} (ht : IsTup s.heap t vs.toArray) (hb : IsTup s.heap b ws.toArray) (hv : vs = [])
    (h1 : Q (.ref b) s) : wpAny (model prog w) A (binaryOp .Add (.ref t) (.ref b)) Q E s := by
  obtain ⟨⟨cls, dd, data, sl⟩, ho, hc, n, hd⟩ := id ht
  obtain ⟨⟨cls2, dd2, data2, sl2⟩, ho2, hc2, n2, hd2⟩ := id hb
  simp only at hc hd hc2 hd2
  subst hc hd hc2 hd2
  exact concat_meets ⟨_, ho, rfl⟩ ⟨_, ho2, rfl⟩ noFill_tuple_add seq_tuple_add PySem.F.slot_tuple_add PySem.F.entry_tuple_add (PySem.F.args_tuple_add_2 _ _)
      (tuple_addW0 t b vs.toArray ws.toArray n n2 dd dd2 sl sl2 (by simp [hv])) ⟨ho, ho2, h1⟩
end
end HT
namespace L2
open PySem PySem.Spec PyProof.Rows
section
variable {X : Cx} {a b o e l : Expr} {es : List Expr} {ta tb to : TE} {t : TA} {pos : Pos} {tg : Expr}
noncomputable def rCT : R2 := fun x y H Q => ∃ l, x = .ref l ∧ ∃ b, y = .ref b ∧ ∃ xs, H l = some (.tup xs) ∧ ∃ ys, H b = some (.tup ys) ∧ xs.length + ys.length ≤ sizeLine ∧
  (xs = [] → Q (.ref b) H) ∧ (xs ≠ [] → ys = [] → Q (.ref l) H) ∧ (xs ≠ [] → ys ≠ [] → ∀ p, H p = none → Q (.ref p) (upd H p (.tup (xs ++ ys))))
theorem op_catTA : OpR X (binaryOp .Add) rCT := by
  intro pins s σ H x y v u Q I rx ry h
  obtain ⟨a, rfl, b, rfl, xs, ha, ys, hb, hz, q0, q1, q2⟩ := h
  by_cases hx : xs = []
  · cases rx
    cases ry
    obtain ⟨its, r1, p1, _⟩ := I.tuple (SqT.of ha)
    obtain ⟨its2, r2, p2, _⟩ := I.tuple (SqT.of hb)
    exact HT.cat_tup0 p1 p2 (r1.nil_iff.mpr hx) ⟨.ref b, H, I, rfl, q0 hx⟩
  · exact op_catT pins s σ H _ _ v u Q I rx ry ⟨a, b, xs, ys, rfl, rfl, .of ha, .of hb, hx, hz, q1 hx, q2 hx⟩
noncomputable def CDivW (i j : Int) : Prop := 0 < j ∧ j < 18446744073709551616
theorem op_fdivW : OpR X (binaryOp .FloorDiv) (rI CDivW fun i j => .int (i / j)) := opI fun i j _ _ _ _ _ hc q => by
  have h1 : (0 : Int) < j := hc.1
  have h2 : j < 18446744073709551616 := hc.2
  refine floordiv_int (by omega) (by rw [Int.fdiv_eq_ediv_of_nonneg i (by omega)]; exact q) (.inl (PyProof.noPylong_of_log2 ?_))
  have h3 : j.natAbs < 2 ^ 64 := by omega
  exact Nat.lt_trans ((Nat.log2_lt (by omega)).mpr h3) (by decide)
noncomputable abbrev RMS := Str → List V → Hp → VK → Prop
noncomputable def MtS (X : Cx) (id : String) (r : RMS) : Prop := MtR X id fun x vs H Q => ∃ p, x = .str p ∧ r p vs H Q
noncomputable def tMS (r : RMS) (to : TE) (t : TA) : TE := fun σ H Q => to σ H fun x H1 => ∃ p, x = .str p ∧ t σ H1 fun vs H2 => r p vs H2 Q
variable {name : Str} {id : String} {r : RMS} {apos cpos : Pos}
theorem pe_mS (slot : Slot "str" name id) (hty : typeOf (.builtin id) = pure (.type "method_descriptor")) (hm : MtS X id r) (ho : PE X o to) (ha : PA X (e :: es) t)
    (hbase : attributeBase o name X.env (eval o X.env) = eval o X.env := by rfl)
    (hfew : ((backTo cpos (starEach (e :: es) X.env)).all (fun x => !x.1) && (backToKw cpos (keywordEach [] X.env)).all (fun x => x.1.isSome)
      && decide ((e :: es).length + ([] : List Keyword).length + (if ([] : List Keyword).isEmpty then 0 else 1) < 30)) = true := by rfl)
    (hline : (apos.endLine == cpos.line) = true := by rfl) (hs : starEach (e :: es) X.env = (false, eval e X.env) :: starEach es X.env := by rfl) (hplain : (backTo cpos (starEach es X.env)).any (·.1) = false := by rfl) :
    PE X (.Call (.Attribute o name apos) (e :: es) [] cpos) (tMS r to t) := by
  intro pins s σ H Q I h
  refine wpAny_Call_method_late hbase hfew hline rfl (thn (ho pins s σ H _ I h) fun v s1 zr4399 => ?_)
  obtain ⟨x, H1, I1, r1, p, ex, q1⟩ := zr4399
  subst ex
  obtain ⟨h1, h2⟩ := tyV_is I1 r1 (show tyV X.K "str" (.str p) H1 from rfl)
  refine ⟨"str", id, PySem.F.plainAttrs_str, slot, hty, h1, h2, ?_⟩
  have hA := ha cpos pins s1 σ H1 _ I1 q1
  rw [hs] at hA ⊢
  refine Calls.callWith_builtin (by show (false || (backTo cpos (starEach es X.env)).any (·.1)) = false; rw [hplain] <;> rfl) (Calls.evalArgs_plain ?_)
  refine thn hA fun us s2 zr4406 => ?_
  obtain ⟨vs, H2, I2, rr, q2⟩ := zr4406
  exact hm pins s2 σ H2 (.str p) vs v us Q I2 r1 rr ⟨p, rfl, q2⟩
theorem strsAre_of {ns : List Str} : ∀ {us : List Value}, Vals (ns.map V.str) us → StrsAre us ns := by
  induction ns with
  | nil => intro us h; cases h; exact .nil
  | cons n ns ih =>
    intro us h
    cases h with
    | cons r1 r2 =>
      obtain ⟨t, rfl⟩ := r1
      exact .cons _ _ (ih r2)
noncomputable def rmJoin : RMS := fun z vs H Q => ∃ p, vs = [.ref p] ∧ ∃ ys : List Str, H p = some (.lst (ys.map V.str)) ∧ (ys.map (·.length)).sum + ys.length * z.length ≤ 16777216 ∧ Q (.str (Txt.join z ys)) H
theorem ms_join : MtS X "str.join" rmJoin := by
  intro pins s σ H x vs v us Q I rx rv h
  obtain ⟨z, rfl, p, rfl, ys, hp, hok, q⟩ := h
  obtain ⟨t, rfl⟩ := rx
  obtain ⟨u, rfl, ru⟩ := vals1 rv
  cases ru
  obtain ⟨its, r, pl, hz⟩ := I.list (SqL.of hp)
  exact join_list pl.isList (ys := ys) (by simpa using strsAre_of r) hok fun t' k => ⟨.str _, H, I.tok k, ⟨t', rfl⟩, q⟩
noncomputable def rmIndex : RMS := fun z vs H Q => ∃ y, vs = [.str y] ∧ ∃ i rest, Builtin.Str.occurrences z y 0 z.length 1 = i :: rest ∧ Q (.int (i : Nat)) H
theorem ms_index : MtS X "str.index" rmIndex := by
  intro pins s σ H x vs v us Q I rx rv h
  obtain ⟨z, rfl, y, rfl, i, rest, ho, q⟩ := h
  obtain ⟨t, rfl⟩ := rx
  obtain ⟨u, rfl, ru⟩ := vals1 rv
  obtain ⟨t', rfl⟩ := ru
  exact SC.index ho ⟨.int i, H, I.tok _, ⟨_, rfl⟩, q⟩
end
end L2
set_option Elab.async false
set_option linter.all false
set_option maxRecDepth 100000
namespace L2
open PySem PySem.Spec PyProof.Rows
theorem str_ext {a b : Str} (h : a.cps.toList = b.cps.toList) : a = b := by
  cases a; cases b; congr 1; exact Array.ext' h
theorem append_cps (a b : Str) : (a ++ b).cps.toList = a.cps.toList ++ b.cps.toList := by
  show (a.cps ++ b.cps).toList = _
  simp
theorem filterMap_range' (l : List Nat) (s : Nat) : ∀ n, s + n ≤ l.length → ((List.range n).map fun k => s + k).filterMap (fun i => l[i]?) = (l.drop s).take n
  | 0, _ => by simp
  | n + 1, h => by
    rw [List.range_succ, List.map_append, List.filterMap_append, filterMap_range' l s n (by omega), List.take_add_one]
    have e : l[s + n]? = some (l[s + n]'(by omega)) := by simp
    simp [e, List.getElem?_drop]
theorem sl_idx (lo hi : Option Int) (n : Nat) : Builtin.Str.strSliceIndices lo hi 1 n = (List.range (HT.sIx n n hi - HT.sIx n 0 lo)).map fun k => HT.sIx n 0 lo + k := by
  have clip : ∀ (v : Int) (d : Nat), (if (1 : Int) > 0 then max 0 (min (if v < 0 then v + (n : Int) else v) (n : Int)) else max (-1) (min (if v < 0 then v + (n : Int) else v) ((n : Int) - 1))) = ((HT.sIx n d (some v) : Nat) : Int) := fun v d => by
    rw [if_pos (by decide)]
    show max 0 (min (if v < 0 then v + (n : Int) else v) (n : Int)) = (((if v < 0 then (v + (n : Int)).toNat else min v.toNat n) : Nat) : Int)
    split <;> rw [Int.max_def, Int.min_def] <;> split <;> split <;> omega
  have base : ∀ (a b : Nat), sliceRange (a : Int) (b : Int) 1 = (List.range (b - a)).map fun k => a + k := fun a b => by
    unfold sliceRange
    simp only [show (1 : Int) > 0 by decide, if_true, Int.one_mul]
    have e : (if (a : Int) < (b : Int) then ((b : Int) - (a : Int) + 1 - 1) / 1 else 0).toNat = b - a := by
      split
      · rw [Int.ediv_one]; omega
      · show (0 : Int).toNat = b - a
        rw [Int.toNat_zero]; omega
    rw [e]
    refine List.map_congr_left fun k _ => ?_
    omega
  unfold Builtin.Str.strSliceIndices
  cases lo with
  | none => cases hi with
    | none => exact base 0 n
    | some v => simp only []; rw [clip v n]; exact base 0 _
  | some u => cases hi with
    | none => simp only []; rw [clip u 0]; exact base _ n
    | some v => simp only []; rw [clip u 0, clip v n]; exact base _ _
theorem slice_cps (x : Str) (lo hi : Option Int) : (Txt.slice x lo hi).cps.toList = (x.cps.toList.drop (HT.sIx x.length 0 lo)).take (HT.sIx x.length x.length hi - HT.sIx x.length 0 lo) := by
  have h1 := HT.sIx_le x.length x.length (Nat.le_refl _) hi
  have h0 := HT.sIx_le x.length 0 (Nat.zero_le _) lo
  have hl : x.cps.toList.length = x.length := by show x.cps.toList.length = x.cps.size; simp
  unfold Txt.slice
  rw [sl_idx]
  split
  · rename_i h
    simp only [beq_self_eq_true, Bool.true_and, List.length_map, List.length_range, beq_iff_eq] at h
    have e0 : HT.sIx x.length 0 lo = 0 := by omega
    rw [h, e0, List.drop_zero, ← hl, List.take_length]
  · show ((List.map _ _).filterMap (fun i => x.cps[i]?)).toArray.toList = _
    rw [List.toList_toArray]
    rw [← filterMap_range' _ _ _ (by omega)]
    refine congrArg (fun f => List.filterMap f _) (funext fun i => ?_)
    simp
theorem join_cps (ys : List Str) : (Txt.join (Str.ofString "") ys).cps.toList = ys.flatMap fun y => y.cps.toList := by
  have key : ∀ (l : List Str) (acc : Array Nat), (l.foldl (fun acc p => acc ++ (Str.ofString "").cps ++ p.cps) acc).toList = acc.toList ++ l.flatMap fun y => y.cps.toList := by
    intro l
    induction l with
    | nil => intro acc; simp
    | cons a l ih =>
      intro acc
      rw [List.foldl_cons, ih]
      have e : (Str.ofString "").cps = #[] := by decide +kernel
      simp [e]
  show ((ys.drop 1).foldl _ (ys.headD Str.empty).cps).toList = _
  rw [key]
  cases ys with
  | nil => simp; decide +kernel
  | cons a l => simp
structure IsNm (w : Str) : Prop where
  pos : 1 ≤ w.length
  le : w.length ≤ 8
  small : ∀ c ∈ w.cps.toList, smallB c = true
theorem len_cps (x : Str) : x.cps.toList.length = x.length := by show x.cps.toList.length = x.cps.size; simp
theorem IsNm.cons {w : Str} (h : IsNm w) : ∃ c cs, w.cps.toList = c :: cs ∧ smallB c = true ∧ (∀ x ∈ cs, smallB x = true) ∧ cs.length ≤ 7 := by
  have hl := len_cps w
  cases e : w.cps.toList with
  | nil => rw [e] at hl; have := h.pos; simp at hl; omega
  | cons c cs =>
    rw [e] at hl
    have := h.le
    exact ⟨c, cs, rfl, h.small c (by rw [e]; simp), fun x hx => h.small x (by rw [e]; simp [hx]), by simp at hl; omega⟩
theorem IsNm.of {w : Str} {c : Nat} {cs : List Nat} (e : w.cps.toList = c :: cs) (hc : smallB c = true) (hcs : ∀ x ∈ cs, smallB x = true) (hl : cs.length ≤ 7) : IsNm w := by
  have h := len_cps w
  rw [e] at h
  simp at h
  refine ⟨by omega, by omega, fun x hx => ?_⟩
  rw [e] at hx
  rcases List.mem_cons.mp hx with rfl | q
  · exact hc
  · exact hcs x q
theorem letters_at {r : Int} (h0 : 0 ≤ r) (h1 : r < 26) : atI (Str.ofString "abcdefghijklmnopqrstuvwxyz").cps.toList r = some (97 + r.toNat) := by
  obtain ⟨n, rfl⟩ := Int.eq_ofNat_of_zero_le h0
  rw [show (Str.ofString "abcdefghijklmnopqrstuvwxyz").cps.toList = List.range' 97 26 by decide +kernel]
  refine atI_nat ?_
  rw [List.getElem?_range' (by omega)]
  simp
theorem letters_len : (Str.ofString "abcdefghijklmnopqrstuvwxyz").length ≤ sizeLine := by decide +kernel
theorem letters_index {c : Nat} (h : smallB c = true) : Builtin.Str.occurrences (Str.ofString "abcdefghijklmnopqrstuvwxyz") ⟨#[c]⟩ 0 (Str.ofString "abcdefghijklmnopqrstuvwxyz").length 1 = (c - 97) :: [] := by
  have key : ∀ i : Fin 26, Builtin.Str.occurrences (Str.ofString "abcdefghijklmnopqrstuvwxyz") ⟨#[97 + i.1]⟩ 0 (Str.ofString "abcdefghijklmnopqrstuvwxyz").length 1 = [i.1] := by decide +kernel
  simp only [smallB, Bool.and_eq_true, decide_eq_true_eq] at h
  have := key ⟨c - 97, by omega⟩
  simp only [show 97 + (c - 97) = c by omega] at this
  exact this
noncomputable def nxtC (c : Nat) : Nat := 97 + (c - 97 + 1) % 26
noncomputable def nxtL : List Nat → List Nat
  | [] => []
  | c :: cs => nxtC c :: cs
noncomputable def nxtW (w : Str) : Str := ⟨(nxtL w.cps.toList).toArray⟩
noncomputable def nxtN : Nat → Str → Str
  | 0, w => w
  | n + 1, w => nxtN n (nxtW w)
theorem small_nxtC (c : Nat) : smallB (nxtC c) = true := by
  have := Nat.mod_lt (c - 97 + 1) (show 0 < 26 by decide)
  unfold smallB nxtC
  rw [Bool.and_eq_true, decide_eq_true_eq, decide_eq_true_eq]
  exact ⟨by omega, by omega⟩
theorem nxtW_nm {w : Str} (h : IsNm w) : IsNm (nxtW w) := by
  obtain ⟨c, cs, e, hc, hcs, hl⟩ := h.cons
  exact .of (c := nxtC c) (cs := cs) (by simp [nxtW, e, nxtL]) (small_nxtC c) hcs hl
theorem nxtN_cps {c : Nat} {cs : List Nat} : ∀ (n : Nat) {w : Str}, w.cps.toList = c :: cs → smallB c = true → (nxtN n w).cps.toList = (97 + (c - 97 + n) % 26) :: cs := by
  intro n
  induction n generalizing c with
  | zero =>
    intro w e hc
    simp only [smallB, Bool.and_eq_true, decide_eq_true_eq] at hc
    rw [nxtN, e]
    congr 1
    omega
  | succ n ih =>
    intro w e hc
    rw [nxtN, ih (c := nxtC c) (by simp [nxtW, e, nxtL]) (small_nxtC c)]
    congr 1
    simp only [nxtC]
    omega
theorem nodup_le {α : Type} [BEq α] [LawfulBEq α] : ∀ {xs ys : List α}, xs.Nodup → (∀ x ∈ xs, x ∈ ys) → xs.length ≤ ys.length
  | [], _, _, _ => by simp
  | x :: xs, ys, hn, h => by
    have hn' := List.nodup_cons.mp hn
    have hx := h x (by simp)
    have := nodup_le (xs := xs) (ys := ys.erase x) hn'.2 fun z hz => by
      have hne : z ≠ x := fun e => hn'.1 (e ▸ hz)
      exact (List.mem_erase_of_ne hne).mpr (h z (by simp [hz]))
    rw [List.length_erase_of_mem hx] at this
    have := List.length_pos_of_mem hx
    simp
    omega
theorem free_word {w : Str} (h : IsNm w) {F : List Str} (hF : F.length < 26) : ∃ n, nxtN n w ∉ F := by
  obtain ⟨c, cs, e, hc, hcs, hl⟩ := h.cons
  have hinj : ∀ i j, i < 26 → j < 26 → nxtN i w = nxtN j w → i = j := fun i j hi hj q => by
    have q2 := congrArg (fun z : Str => z.cps.toList) q
    simp only [nxtN_cps _ e hc] at q2
    have q3 := (List.cons.inj q2).1
    omega
  refine Classical.byContradiction fun hno => ?_
  have hall : ∀ n, nxtN n w ∈ F := fun n => Classical.byContradiction fun q => hno ⟨n, q⟩
  have hnd : ((List.range 26).map fun n => nxtN n w).Nodup := by
    refine List.pairwise_map.mpr (List.Pairwise.imp_of_mem (fun {i j} hi hj q e => q (hinj i j (List.mem_range.mp hi) (List.mem_range.mp hj) e)) (List.nodup_range (n := 26)))
  have := nodup_le (ys := F) hnd fun x hx => by
    obtain ⟨n, _, rfl⟩ := List.mem_map.mp hx
    exact hall n
  simp at this
  omega
theorem eqV_str (a b : Str) : eqV (.str a) (.str b) = decide (a = b) := by
  show (a == b) = decide (a = b)
  rw [Bool.eq_iff_iff]
  simp
theorem inV_strs (x : Str) (ys : List Str) : inV (.str x) (ys.map V.str) = decide (x ∈ ys) := by
  rw [Bool.eq_iff_iff]
  simp only [inV, List.any_map, List.any_eq_true, Function.comp, eqV_str, decide_eq_true_eq]
  constructor
  · rintro ⟨y, hy, rfl⟩; exact hy
  · exact fun h => ⟨x, h, rfl⟩
theorem flat_strs (ys : List Str) : (ys.map V.str).all flatV = true := by
  rw [List.all_eq_true]
  intro x hx
  obtain ⟨y, _, rfl⟩ := List.mem_map.mp hx
  rfl
noncomputable def marks4 : List Str := ["in", "from", "to", "end"]
structure NamesOk (ws : List Str) : Prop where
  nm : ∀ w ∈ ws, IsNm w
  nd : ws.Nodup
  nomark : ∀ w ∈ ws, w ∉ marks4
theorem NamesOk.nil : NamesOk [] := ⟨by simp, by simp, by simp⟩
theorem NamesOk.snoc {ws : List Str} {w : Str} (h : NamesOk ws) (hw : IsNm w) (hn : w ∉ ws) (hm : w ∉ marks4) : NamesOk (ws ++ [w]) := by
  refine ⟨fun x hx => ?_, ?_, fun x hx => ?_⟩
  · rcases List.mem_append.mp hx with q | q
    · exact h.nm x q
    · rw [List.mem_singleton.mp q]; exact hw
  · rw [List.nodup_append]
    refine ⟨h.nd, by simp, fun a ha b hb => ?_⟩
    rw [List.mem_singleton.mp hb]
    rintro rfl
    exact hn ha
  · rcases List.mem_append.mp hx with q | q
    · exact h.nomark x q
    · rw [List.mem_singleton.mp q]; exact hm
theorem atI_zero {α : Type} (x : α) (xs : List α) : atI (x :: xs) 0 = some x := atI_nat (j := 0) rfl
theorem edit_nm {z : Str} {r : Int} {c : Nat} (hz : IsNm z) (hc : smallB c = true) (r0 : 0 ≤ r) (r1 : r < z.length) : IsNm (Txt.slice z none (some r) ++ (Str.mk #[c]) ++ Txt.slice z (some (r + 1)) none) := by
  obtain ⟨n, rfl⟩ := Int.eq_ofNat_of_zero_le r0
  have hn : n < z.length := by omega
  have hl := len_cps z
  have e : (Txt.slice z none (some (n : Int)) ++ (Str.mk #[c]) ++ Txt.slice z (some ((n : Int) + 1)) none).cps.toList = z.cps.toList.take n ++ [c] ++ z.cps.toList.drop (n + 1) := by
    rw [append_cps, append_cps, slice_cps, slice_cps, HT.sIx_none, HT.sIx_nat, HT.sIx_none, show ((n : Int) + 1) = ((n + 1 : Nat) : Int) by omega, HT.sIx_nat, Nat.min_eq_left (by omega), Nat.min_eq_left (by omega)]
    rw [List.drop_zero, Nat.sub_zero, List.take_of_length_le (i := z.length - (n + 1)) (by rw [List.length_drop, hl]; omega)]
  have h8 := hz.le
  have hlen : (Txt.slice z none (some (n : Int)) ++ (Str.mk #[c]) ++ Txt.slice z (some ((n : Int) + 1)) none).length = z.length := by
    rw [← len_cps, e]
    simp only [List.length_append, List.length_take, List.length_drop, List.length_cons, List.length_nil, hl]
    omega
  refine ⟨by omega, by omega, fun x hx => ?_⟩
  rw [e] at hx
  rcases List.mem_append.mp hx with q | q
  · rcases List.mem_append.mp q with q | q
    · exact hz.small x (List.mem_of_mem_take q)
    · rw [List.mem_singleton.mp q]; exact hc
  · exact hz.small x (List.mem_of_mem_drop q)
theorem join_signs (cs : List Nat) : (Txt.join (Str.ofString "") (cs.map fun c => Str.mk #[c])).cps.toList = cs := by
  rw [join_cps]
  induction cs with
  | nil => rfl
  | cons c cs ih => simp [ih]
theorem sum_ones (cs : List Nat) : ((cs.map fun c => Str.mk #[c]).map fun x => x.length).sum = cs.length := by
  induction cs with
  | nil => rfl
  | cons c cs ih =>
    rw [List.map_cons, List.map_cons, List.sum_cons, ih]
    show 1 + cs.length = cs.length + 1
    omega
end L2
set_option Elab.async false
set_option linter.all false
set_option maxRecDepth 100000
namespace L2
open PySem PySem.Spec PyProof.Rows
section
variable {X : Cx}
noncomputable def rSTs : V → Option Int → Option Int → Hp → VK → Prop := fun x lo hi H Q => ∃ a, x = .ref a ∧ ∃ xs, H a = some (.tup xs) ∧ ∀ p H', H' p = some (.tup (cutV xs lo hi)) → Same H H' → Q (.ref p) H'
theorem sl_Ts : SlR X rSTs := sl_T.imp fun _ _ _ _ _ zq27 => by obtain ⟨a, e, xs, h, q⟩ := zq27; exact (⟨a, e, xs, h, fun hw => q a _ (by rw [hw]; exact h) (Same.refl _), fun p hp => q p _ upd_same (Same.upd0 hp)⟩)
noncomputable def rCTs : R2 := fun x y H Q => ∃ l, x = .ref l ∧ ∃ b, y = .ref b ∧ ∃ xs, H l = some (.tup xs) ∧ ∃ ys, H b = some (.tup ys) ∧ xs.length + ys.length ≤ sizeLine ∧ ∀ p H', H' p = some (.tup (xs ++ ys)) → Same H H' → Q (.ref p) H'
theorem op_catTs : OpR X (binaryOp .Add) rCTs := op_catTA.imp fun _ _ _ _ ⟨l, e, b, e2, xs, h, ys, h2, hl, q⟩ => ⟨l, e, b, e2, xs, h, ys, h2, hl,
  fun hx => q b _ (by rw [hx]; exact h2) (Same.refl _), fun _ hy => q l _ (by rw [hy, List.append_nil]; exact h) (Same.refl _), fun _ _ p hp => q p _ upd_same (Same.upd0 hp)⟩
end
theorem cut_map {α : Type} (f : α → V) (xs : List α) (n : Nat) : cutV (xs.map f) none (some (n : Int)) = (xs.take n).map f := by
  unfold cutV
  rw [HT.sIx_none, HT.sIx_nat, List.drop_zero, Nat.sub_zero, List.length_map, List.map_take]
  by_cases h : n ≤ xs.length
  · rw [Nat.min_eq_left h]
  · rw [Nat.min_eq_right (by omega), List.take_of_length_le (by simp), List.take_of_length_le (by simp; omega)]
theorem cut_map_from {α : Type} (f : α → V) (xs : List α) (n : Nat) : cutV (xs.map f) (some (n : Int)) none = (xs.drop n).map f := by
  unfold cutV
  rw [HT.sIx_none, HT.sIx_nat, List.length_map, List.map_drop]
  by_cases h : n ≤ xs.length
  · rw [Nat.min_eq_left h, List.take_of_length_le (by simp)]
  · rw [Nat.min_eq_right (by omega), List.drop_of_length_le (l := List.map f xs) (i := n) (by simp; omega)]
    simp
theorem atI0 {α : Type} (x : α) (xs : List α) : atI (x :: xs) 0 = some x := atI_nat (j := 0) rfl
theorem atI1 {α : Type} (x y : α) (xs : List α) : atI (x :: y :: xs) 1 = some y := atI_nat (j := 1) rfl
theorem atI2 {α : Type} (x y z : α) (xs : List α) : atI (x :: y :: z :: xs) 2 = some z := atI_nat (j := 2) rfl
theorem atI3 {α : Type} (x y z a : α) (xs : List α) : atI (x :: y :: z :: a :: xs) 3 = some a := atI_nat (j := 3) rfl
theorem atI4 {α : Type} (x y z a b : α) (xs : List α) : atI (x :: y :: z :: a :: b :: xs) 4 = some b := atI_nat (j := 4) rfl
theorem ofS_inj {a b : String} : (Str.ofString a = Str.ofString b) = (a = b) := by
  refine propext ⟨fun h => ?_, fun h => by rw [h]⟩
  rw [Str.ofString_eq_toList, Str.ofString_eq_toList] at h
  have h1 := congrArg (fun s : Str => s.cps.toList) h
  simp only [List.toList_toArray] at h1
  have key : ∀ (l1 l2 : List Char), l1.map Char.toNat = l2.map Char.toNat → l1 = l2 := by
    intro l1
    induction l1 with
    | nil => intro l2 h; cases l2 with
      | nil => rfl
      | cons a b => cases h
    | cons a b ih => intro l2 h; cases l2 with
      | nil => cases h
      | cons c d =>
        rw [List.map_cons, List.map_cons, List.cons.injEq] at h
        rw [ih d h.2, Char.toNat_inj.mp h.1]
  exact String.toList_injective (key _ _ h1)
section
variable {X : Cx} {pos : Pos}
theorem PG.imp {tg : Expr} {g g' : TG} (h : PG X tg g) (i : ∀ v σ H Q, g' v σ H Q → g v σ H Q) : PG X tg g' := fun pins s σ H v u Q I r q => h pins s σ H v u Q I r (i _ _ _ _ q)
noncomputable def gTupT (n : Nat) (t : TGs) : TG := fun v σ H Q => ∃ a, v = .ref a ∧ ∃ xs, H a = some (.tup xs) ∧ xs.length = n ∧ t xs σ H Q
theorem pg_tupT {es : List Expr} {k : Nat} {t : TGs} {n : Nat} (hc : X.calm = true) (h : PGs X es t)
    (hn : (assignEach es X.env).length = n := by rfl) (hst : (assignEach es X.env).findIdx? (·.1) = none := by rfl) : PG X (.Tuple es k pos) (gTupT n t) :=
  (pg_tup hc h hn hst).imp fun _ _ _ _ zq28 => by obtain ⟨a, e, xs, h, hl, q⟩ := zq28; exact (⟨a, xs, e, .of h, hl, q⟩)
end
theorem IsNm.lay {w : Str} (h : IsNm w) : PyData.canLay0 (.str w) = true := by
  show (w.cps.all (· < 0x110000)) = true
  rw [Array.all_eq_true_iff_forall_mem]
  intro c hc
  have := h.small c (by simpa using hc)
  simp only [smallB, Bool.and_eq_true, decide_eq_true_eq] at this
  exact decide_eq_true (by omega)
theorem lay_strs : ∀ {ws : List Str}, (∀ w ∈ ws, IsNm w) → PyData.canLayAll0 (ws.map PyData.str) = true
  | [], _ => rfl
  | w :: ws, h => by
    rw [List.map_cons, PyData.canLayAll0, (h w (by simp)).lay, lay_strs fun x hx => h x (by simp [hx])]
    rfl
theorem depth_strs : ∀ (ws : List Str), PyData.depthAll (ws.map PyData.str) = 0
  | [] => rfl
  | w :: ws => by
    rw [List.map_cons, PyData.depthAll, PyData.depth, depth_strs ws]
    rfl
end L2
set_option Elab.async false
set_option linter.all false
set_option maxRecDepth 100000
namespace L2
open PySem PySem.Spec PyProof.Rows
section
variable {X : Cx}
noncomputable def rDictD : List V → Hp → VK → Prop := fun xs H Q => ∃ p, xs = [.ref p] ∧ ∃ kvs, H p = some (.dK kvs) ∧ ∀ q, H q = none → Q (.ref q) (upd H q (.dK kvs))
theorem call_dictD : CallR X (.type "dict") rDictD := by
  intro pins s σ H xs us Q I r h
  obtain ⟨p, rfl, kvs, hp, q⟩ := h
  obtain ⟨u, rfl, ru⟩ := vals1 r
  cases ru
  obtain ⟨z, hd, vs, rel, dd⟩ := dk_of I.hok hp
  refine PySem.kt_call_dict hd dd (by rw [← rel.length]; exact z) fun h' dd' sb => ?_
  have hold : ∀ b o, s.heap.get? b = some o → h'.get? b = some o := fun b o e => sb.extBut b o (Nat.ne_of_lt (Heap.lt_size e)) (Heap.get?_push_of_some _ e)
  exact ⟨.ref s.heap.objs.size, _, I.laid (a := s.heap.objs.size) (o := .dK kvs) (t' := s.toks) hold (Nat.le_refl _) ⟨z, beq_eq_false_iff_ne.mpr (Ne.symm (Nat.ne_of_lt I.big)), vs, rel, dd'⟩, rfl, q _ (I.hok.fresh (Nat.le_refl _))⟩
noncomputable def plainV : V → Bool
  | .non => true
  | .bl _ => true
  | .int _ => true
  | .str _ => true
  | .ref _ => true
  | _ => false
noncomputable def rmPopAt : RM := fun p vs H Q => ∃ i, vs = [.int i] ∧ ∃ xs, H p = some (.lst xs) ∧ 0 ≤ i ∧ i < xs.length ∧ xs.length ≤ 1000 ∧ ∀ y, xs[i.toNat]? = some y → Q y (upd H p (.lst (xs.eraseIdx i.toNat)))
theorem ml_popAt : MtL X "list.pop" rmPopAt := fun pins s σ H x vs v us Q I rx rv ⟨p, e, i, e2, xs, h, i0, i1, hl, q⟩ => by
  have hlt : i.toNat < xs.length := by omega
  exact mt_popAt pins s σ H x vs v us Q I rx rv ⟨p, xs, i, i.toNat, xs[i.toNat], e, e2, h, by omega, by omega, seqIndex_of i0 i1, by simp [hlt], q _ (by simp [hlt])⟩
end
end L2
namespace L2
open PySem PySem.Spec PyProof.Rows
noncomputable def MtdL (K : PySem.W.Frag) (R : Addr → Prop) (x q : Str) (st : Stmt) (ps : List Str) : Prop := ∃ f fd, Fun K x q st f fd ∧ R f ∧ Binds K fd ps []
noncomputable def FnR (P : Program) (w : World) (K : PySem.W.Frag) (mg : Str → Option Value) (base : Heap) (R : Addr → Prop) (k : Nat) (ps : List Str) (sp : Sp) : Prop := ∃ f fd, FnOk P w K mg base CX0 k f fd ps sp ∧ R f ∧ Binds K fd ps []
section
variable {P : Program} {w : World} {K : PySem.W.Frag} {mg : Str → Option Value} {base : Heap} {R : Addr → Prop}
theorem MtdL.ok {x q : Str} {st : Stmt} {N ps : List Str} {k : Nat} {sp : Sp} (F : MtdL K R x q st ps) (S : FnScope N ps (defScope st)) (len : ∀ vs H Q E, sp vs H Q E → vs.length = ps.length)
    (hbody : ∀ (f : Addr) (cdv : Value) (A : Around) (outer : List Env) (s : Shared) (H : Hp) (vs : List V) (Q : VK) (E : XK), Room k (A.deeper (envOfC q (defScope st) s.heap.objs.size f cdv)) → sp vs H Q E →
      ∃ t, PSs (cxOf CX0 P w K mg base N q (defScope st) f cdv A outer s H E).nox (defBody st) t ∧ t { nx := fun _ H' => Q .non H', rt := Q } (start N vs) H) : FnR P w K mg base R (k + 1) ps sp := by
  obtain ⟨f, fd, F, r, b⟩ := F
  exact ⟨f, fd, F.ok S len (hbody f), r, b⟩
end
section
variable {X : Cx} {o e value : Expr} {es : List Expr} {f m x : Str} {p pos pos' apos : Pos} {ta tv : TE} {t : TA} {C : Addr} {k : Nat} {ps : List Str} {sp : Sp}
end
noncomputable def relN (kd : ScopeKind) (A xs : List (Str × NameKind)) : List (Str × NameKind) := xs.map fun (n, k) => if (k == .free && kd == .function && A.lookup n == some .cell) then (n, .cell) else (n, k)
section
variable {X : Cx} {l tg : Expr} {tl : TE} {K : PySem.W.Frag}
theorem pi_LK (hK : X.K = K) (hl : PE X l tl) : PI X tg l (iL K tl) := by subst hK; exact pi_L hl
theorem pi_TK (hK : X.K = K) (hl : PE X l tl) : PI X tg l (iT K tl) := by subst hK; exact pi_T hl
noncomputable def rAllL : List V → Hp → VK → Prop := fun xs H Q => ∃ p, xs = [.ref p] ∧ ∃ bs : List Bool, H p = some (.lst (bs.map V.bl)) ∧ Q (.bl (bs.all id)) H
theorem call_allL (hc : X.calm = true) : CallR X (.builtin "all") rAllL := (call_all_l hc).imp fun _ _ _ zq29 => by obtain ⟨p, e, bs, h, q⟩ := zq29; exact (⟨p, bs, e, .of h, q⟩)
end
theorem comp_filterS {J : It} {xs : List V} {C : Hp → Prop} (w : Wlk J xs C) {tc : TT} {te : TE} {σ0 : St} {Q : VK} {H1 : Hp} {D : Addr} (p : V → Bool) (f : V → V) (hD : H1 D = none) (hC : ∀ H', Same H1 H' → C H') (hn : xs.length ≤ 1000)
    (hc : ∀ (x : V) (H2 : Hp) (Q2 : Bool → Hp → Prop), x ∈ xs → Same H1 H2 → (∀ H3, Same H2 H3 → Q2 (p x) H3) → tc (σ0.set 0 (some x)) H2 Q2)
    (he : ∀ (x : V) (H2 : Hp) (Q2 : VK), x ∈ xs → p x = true → Same H1 H2 → (∀ H3, Same H2 H3 → Q2 (f x) H3) → te (σ0.set 0 (some x)) H2 Q2)
    (hd : ∀ H2, Same H1 H2 → H2 D = some (.lst ((xs.filter p).map f)) → Q (.ref D) H2) : CompG J σ0 (gName 0) tc te Q H1 D := by
  refine comp_g w (fun i ys H => ys = ((xs.take i).filter p).map f ∧ i ≤ xs.length ∧ Same H1 H ∧ H D = some (.lst ys)) ⟨by simp, Nat.zero_le _, Same.upd0 hD, upd_same⟩ (fun i ys H h => hC _ h.2.2.1) ?_ ?_
  · rintro i x ys H hi hx ⟨rfl, hle, sm, hd⟩
    refine hc x H _ (List.mem_of_getElem? hx) sm fun H3 s3 => ?_
    have hlen : ((xs.take i).filter p).length ≤ xs.length := Nat.le_trans (List.length_filter_le _ _) (by simp; omega)
    cases hp : p x with
    | true =>
      simp only [if_true]
      refine he x H3 _ (List.mem_of_getElem? hx) hp (sm.trans s3) fun H4 s4 => ⟨s4 _ _ (s3 _ _ hd), by simp; exact small1000 (by omega), ?_, hi, ?_, upd_same⟩
      · rw [List.take_add_one, hx]; simp [hp]
      · exact fun b o e => by rw [upd_ne (ne_of_none e hD)]; exact s4 _ _ (s3 _ _ (sm b o e))
    | false =>
      simp only [Bool.false_eq_true, if_false]
      exact ⟨by rw [List.take_add_one, hx]; simp [hp], hi, sm.trans s3, s3 _ _ hd⟩
  · rintro ys H ⟨rfl, _, sm, hd'⟩
    rw [List.take_length] at hd'
    exact hd H sm hd'
theorem comp_mapS {J : It} {xs : List V} {C : Hp → Prop} (w : Wlk J xs C) {te : TE} {σ0 : St} {Q : VK} {H1 : Hp} {D : Addr} (f : V → V) (hD : H1 D = none) (hC : ∀ H', Same H1 H' → C H') (hn : xs.length ≤ 10000)
    (he : ∀ (x : V) (H2 : Hp) (Q2 : VK), x ∈ xs → Same H1 H2 → (∀ H3, Same H2 H3 → Q2 (f x) H3) → te (σ0.set 0 (some x)) H2 Q2)
    (hd : ∀ H2, Same H1 H2 → H2 D = some (.lst (xs.map f)) → Q (.ref D) H2) : CompG J σ0 (gName 0) tYes te Q H1 D := by
  refine comp_g w (fun i ys H => ys = (xs.take i).map f ∧ i ≤ xs.length ∧ Same H1 H ∧ H D = some (.lst ys)) ⟨by simp, Nat.zero_le _, Same.upd0 hD, upd_same⟩ (fun i ys H h => hC _ h.2.2.1) ?_ ?_
  · rintro i x ys H hi hx ⟨rfl, hle, sm, hd⟩
    simp only [gName, tYes, if_true]
    refine he x H _ (List.mem_of_getElem? hx) sm fun H4 s4 => ⟨s4 _ _ hd, by simp; exact Nat.lt_of_le_of_lt (Nat.le_trans (Nat.min_le_right _ _) hn) (by decide), ?_, hi, ?_, upd_same⟩
    · rw [List.take_add_one, hx]; simp
    · exact fun b o e => by rw [upd_ne (ne_of_none e hD)]; exact s4 _ _ (sm b o e)
  · rintro ys H ⟨rfl, _, sm, hd'⟩
    rw [List.take_length] at hd'
    exact hd H sm hd'
theorem eqV_int (a b : Int) : eqV (.int a) (.int b) = decide (a = b) := by
  show (a == b) = decide (a = b)
  rw [Bool.eq_iff_iff]
  simp
theorem inV_ints (x : Int) (ys : List Int) : inV (.int x) (ys.map V.int) = decide (x ∈ ys) := by
  rw [Bool.eq_iff_iff]
  simp only [inV, List.any_map, List.any_eq_true, Function.comp, eqV_int, decide_eq_true_eq]
  constructor
  · rintro ⟨y, hy, rfl⟩; exact hy
  · exact fun h => ⟨x, h, rfl⟩
theorem flat_ints (ys : List Int) : (ys.map V.int).all flatV = true := by
  rw [List.all_eq_true]
  intro x hx
  obtain ⟨y, _, rfl⟩ := List.mem_map.mp hx
  rfl
theorem perm_erase {α : Type} : ∀ {l : List α} {n : Nat} (h : n < l.length), (l[n] :: l.eraseIdx n).Perm l
  | a :: l, 0, h => by simp
  | a :: l, n + 1, h => by
    have h' : n < l.length := by simpa using h
    have := perm_erase h'
    simp only [List.getElem_cons_succ, List.eraseIdx_cons_succ]
    exact (List.Perm.swap _ _ _).trans (List.Perm.cons a this)
theorem nodup_at {α : Type} : ∀ {l : List α} {i j : Nat} {x : α}, l.Nodup → l[i]? = some x → l[j]? = some x → i = j
  | [], i, j, x, _, h, _ => by simp at h
  | a :: l, 0, 0, x, _, _, _ => rfl
  | a :: l, 0, j + 1, x, hn, h, h' => by
    simp at h h'
    subst h
    exact absurd (List.mem_of_getElem? h') (List.nodup_cons.mp hn).1
  | a :: l, i + 1, 0, x, hn, h, h' => by
    simp at h h'
    subst h'
    exact absurd (List.mem_of_getElem? h) (List.nodup_cons.mp hn).1
  | a :: l, i + 1, j + 1, x, hn, h, h' => by
    simp at h h'
    rw [nodup_at (List.nodup_cons.mp hn).2 h h']
end L2
set_option Elab.async false
set_option linter.all false
set_option maxRecDepth 100000
namespace L2
open PySem PySem.Spec PyProof.Rows
noncomputable def dedupN (ns : List Int) : Nat := (ns.foldl step_dedup []).length
theorem dedup_aux : ∀ (ns σ : List Int), σ.Nodup → (ns.foldl step_dedup σ).length ≤ σ.length + ns.length ∧ ((ns.foldl step_dedup σ).length = σ.length + ns.length ↔ (σ ++ ns).Nodup)
  | [], σ, h => by simp [h]
  | v :: ns, σ, h => by
    rw [List.foldl_cons]
    by_cases hv : σ.any (· == v) = true
    · have e : step_dedup σ v = σ := by unfold step_dedup; rw [if_pos hv]
      have hm : v ∈ σ := by
        obtain ⟨x, hx, e⟩ := List.any_eq_true.mp hv
        rw [← eq_of_beq e]; exact hx
      rw [e]
      have ih := dedup_aux ns σ h
      refine ⟨by simp; omega, ?_⟩
      constructor
      · intro z; simp at z; omega
      · intro z
        rw [List.nodup_append] at z
        exact absurd rfl (z.2.2 v hm v (by simp))
    · have e : step_dedup σ v = σ ++ [v] := by unfold step_dedup; rw [if_neg hv]
      have hm : v ∉ σ := fun z => hv (List.any_eq_true.mpr ⟨v, z, by simp⟩)
      have hn : (σ ++ [v]).Nodup := by
        rw [List.nodup_append]
        exact ⟨h, by simp, fun a ha b hb => by rw [List.mem_singleton.mp hb]; rintro rfl; exact hm ha⟩
      rw [e]
      have ih := dedup_aux ns (σ ++ [v]) hn
      have el : (σ ++ [v]).length + ns.length = σ.length + (v :: ns).length := by simp; omega
      rw [el, List.append_assoc] at ih
      exact ih
theorem dedup_iff (ns : List Int) : dedupN ns = ns.length ↔ ns.Nodup := by
  have := (dedup_aux ns [] (by simp)).2
  simpa [dedupN] using this
theorem map_getD (ns : List Int) : (List.range ns.length).map (fun i => ns.getD i 0) = ns := by
  apply List.ext_getElem?
  intro i
  by_cases h : i < ns.length
  · simp [h]
  · simp [h]
section
variable {X : Cx}
noncomputable def rSetI : List V → Hp → VK → Prop := fun xs H Q => ∃ p, xs = [.ref p] ∧ ∃ ns : List Int, H p = some (.lst (ns.map V.int)) ∧ ns.length ≤ 1000 ∧ ∀ q S, H q = none → Q (.ref q) (upd H q (.set S (dedupN ns)))
theorem call_setI (hc : X.calm = true) : CallR X (.type "set") rSetI := by
  intro pins s σ H xs us Q I r h
  obtain ⟨p, rfl, ns, hp, hl, q⟩ := h
  obtain ⟨u, rfl, ru⟩ := vals1 r
  cases ru
  obtain ⟨its, rv, pl, hz⟩ := I.list (SqL.of hp)
  have hlen := rv.length
  rw [List.length_map] at hlen
  refine call_set_list (I.ok.hd hc) pl.isList (by simpa using intsAre_of rv) (by simp only [List.size_toArray]; show its.length + 1 < 4096; omega) fun h' tk hS hold => ?_
  have e : firstMet (fun i => ns.getD i 0) its.toArray.size = ns.foldl step_dedup [] := by
    unfold firstMet
    rw [List.size_toArray, ← hlen, map_getD]
  rw [e] at hS
  exact ⟨.ref s.heap.objs.size, _, I.laid (a := s.heap.objs.size) (o := .set _ (dedupN ns)) (t' := tk) (fun b o eb => hold b o (Heap.lt_size eb) eb) (Nat.le_refl _) hS, rfl, q _ _ (I.hok.fresh (Nat.le_refl _))⟩
noncomputable def rLenSet : List V → Hp → VK → Prop := fun xs H Q => ∃ p, xs = [.ref p] ∧ ∃ S n, H p = some (.set S n) ∧ Q (.int n) H
theorem call_lenSet : CallR X (.builtin "len") rLenSet := by
  intro pins s σ H xs us Q I r h
  obtain ⟨p, rfl, S, n, hp, q⟩ := h
  obtain ⟨u, rfl, ru⟩ := vals1 r
  cases ru
  have hS : s.heap.SetOf (intKind X.prog X.w) p S n := I.hok p _ hp
  obtain ⟨o, es, ep, t, ho, hex, hd, _, _, hb, hf, hn⟩ := hS
  refine PySem.call_len_set ho hex hd hf (by have : scanBound = 4096 := rfl; omega) ?_
  rw [hn]
  exact ⟨.int n, H, I.tok _, ⟨_, rfl⟩, q⟩
variable {o i : Expr} {td ty : TE}
end
end L2
set_option Elab.async false
set_option linter.all false
set_option maxRecDepth 100000
namespace L2
open PySem PySem.Spec PyProof.Rows
end L2
set_option Elab.async false
set_option linter.all false
set_option maxRecDepth 100000
set_option maxHeartbeats 4000000
namespace PySem
open PyProof.Rows
section
variable {prog : Program} {w : World} {A : Around} {E : Value → Shared → Prop} {s : Shared}
end
end PySem
namespace L2
open PySem PySem.Spec PyProof.Rows
section
variable {X : Cx}
variable {o e : Expr} {es : List Expr} {m : Str} {pos apos : Pos} {ta : TE} {t : TA} {k : Nat} {ps : List Str} {Cs : List (Addr × Sp)}
end
end L2
set_option Elab.async false
set_option linter.all false
set_option maxRecDepth 100000
namespace PySem
open Sem (wp)
section
variable {prog : Program} {w : World} {A : Around} {E : Value → Shared → Prop} {s : Shared}
theorem nx_tup {J T : Addr} {i : Nat} {vs : Array Value} {v : Value} {Q : Value → Shared → Prop} (a : s.heap.IsTupleIter J T i) (b : s.heap.IsTuple T vs) (c : vs[i]? = some v)
    (k : ∀ g, g.IsTupleIter J T (i + 1) → Heap.SameBut J s.heap g → Q v { s with heap := g }) : wpAny (model prog w) A (Builtin.SmallTypes.nextOf (.ref J)) Q E s := by
  obtain ⟨oJ, a1, a2, a3⟩ := id a
  obtain ⟨oT, b1, _, bn, b2⟩ := b
  unfold Builtin.SmallTypes.nextOf
  refine wpAny_bind (wpAny_callSpecial?_slot (name := Str.ofString "__next__") a.typeIs F.slot_tuple_iterator_next (wpAny_call_entry F.slot_tuple_iterator_next a.typeIs F.entry_tuple_iterator_next ?_ (F.args_tuple_iterator_next_1 _)))
  change wpAny _ _ (field (.ref J) 0 >>= _) _ _ s
  refine wpAny_bind (wpAny_field a1 a3 (x := .ref T) rfl ?_)
  change wpAny _ _ (if (Value.ref T == Value.none) = true then _ else _) _ _ s
  rw [if_neg (show ¬ ((Value.ref T == Value.none) = true) from Bool.false_ne_true)]
  change wpAny _ _ (field (.ref J) 1 >>= _) _ _ s
  refine wpAny_bind (wpAny_field a1 a3 (x := .int i 0) rfl ?_)
  change wpAny _ _ (seqItems? (.ref T) >>= _) _ _ s
  refine wpAny_bind (wpAny_seqItems b1 b2 ?_)
  simp only [Int.toNat_natCast, c]
  refine wpAny_bind (wpAny_setField a1 a3 (by simp) (wpAny_pure ⟨v, rfl, wpAny_pure (k _ ⟨_, Heap.get?_update_self _ a1 (Obj.isFreed_of_fields (Obj.data_mapFields a3 _)), (Obj.cls_mapFields ..).trans a2, ?_⟩ (Heap.SameBut.update ..))⟩))
  rw [Obj.data_mapFields a3]; simp [rawInt]
theorem nx_tup_end {J T : Addr} {i : Nat} {vs : Array Value} {Q : Value → Shared → Prop} (hd : A.handled = none) (a : s.heap.IsTupleIter J T i) (b : s.heap.IsTuple T vs) (c : vs[i]? = none)
    (k : ∀ g e, Heap.ExtBut J s.heap g → (∃ o, g.get? e = some o ∧ o.cls = .type "StopIteration") → E (.ref e) { s with heap := g }) : wpAny (model prog w) A (Builtin.SmallTypes.nextOf (.ref J)) Q E s := by
  obtain ⟨oJ, a1, a2, a3⟩ := id a
  obtain ⟨oT, b1, _, bn, b2⟩ := b
  unfold Builtin.SmallTypes.nextOf
  refine wpAny_bind (wpAny_callSpecial?_slot (name := Str.ofString "__next__") a.typeIs F.slot_tuple_iterator_next (wpAny_call_entry F.slot_tuple_iterator_next a.typeIs F.entry_tuple_iterator_next ?_ (F.args_tuple_iterator_next_1 _)))
  change wpAny _ _ (field (.ref J) 0 >>= _) _ _ s
  refine wpAny_bind (wpAny_field a1 a3 (x := .ref T) rfl ?_)
  change wpAny _ _ (if (Value.ref T == Value.none) = true then _ else _) _ _ s
  rw [if_neg (show ¬ ((Value.ref T == Value.none) = true) from Bool.false_ne_true)]
  change wpAny _ _ (field (.ref J) 1 >>= _) _ _ s
  refine wpAny_bind (wpAny_field a1 a3 (x := .int i 0) rfl ?_)
  change wpAny _ _ (seqItems? (.ref T) >>= _) _ _ s
  refine wpAny_bind (wpAny_seqItems b1 b2 ?_)
  simp only [Int.toNat_natCast, c]
  refine wpAny_bind (wpAny_rule (wpAny_bind (wpAny_setField a1 a3 (by simp) ?_)))
  change wpAny _ _ (newExc (.type "StopIteration") [] >>= _) _ _ _
  refine wpAny_bind (by
    simp only [newExc, newTuple]
    refine wpAny_bind (wpAny_newObj_type ?_ (by size_fits))
    refine wpAny_bind (m := firstArgMember _ _) (wpAny_of_eq (a := Value.none) (by first | rfl | (simp only [firstArgMember]; rfl)) ?_)
    refine wpAny_newObj_type ?_ (by size_fits)
    (simp only [raiseNew]; refine wpAny_bind (wpAny_handled ?_))
    first | rw [show A.in1.handled = none from hd] | rw [hd]
    refine wpAny_bind (wpAny_pure (wpAny_throw (k _ _ (((Heap.SameBut.update ..).extBut.push _).push _) ⟨_, Heap.get?_push_size _ rfl, rfl⟩))))
structure ZTup (g : Heap) (z P O I J S T : Addr) (i : Nat) (f0 f1 : Value) : Prop where
  zz : g.get? z = some { cls := .type "zip", dict := none, data := .fields #[f0, f1, .bool false, .ref P, .ref O], slots := #[] }
  pp : IsPair g P (.ref I) (.ref J)
  oo : ∃ a b, IsPair g O a b
  ii : g.IsTupleIter I S i
  jj : g.IsTupleIter J T i
theorem ZTup.keep {g g' : Heap} {z P O I J S T : Addr} {i : Nat} {f0 f1 : Value} (h : ZTup g z P O I J S T i f0 f1) (k : ∀ b ∈ [z, P, O, I, J], ∀ o, g.get? b = some o → g'.get? b = some o) : ZTup g' z P O I J S T i f0 f1 := by
  obtain ⟨a, b, oo⟩ := h.oo
  exact ⟨k z (by simp) _ h.zz, k P (by simp) _ h.pp, ⟨a, b, k O (by simp) _ oo⟩, h.ii.at fun o e => k I (by simp) o e, h.jj.at fun o e => k J (by simp) o e⟩
noncomputable def ZOut (g : Heap) (n0 : Nat) (xs ys : Array Value) (ts : List Addr) : Prop := ts.Nodup ∧ ∀ (j : Nat) (t : Addr), ts[j]? = some t → ∃ x y, xs[j]? = some x ∧ ys[j]? = some y ∧ IsPair g t x y ∧ n0 ≤ t
theorem ZOut.keep {g g' : Heap} {n0 : Nat} {xs ys : Array Value} {ts : List Addr} (h : ZOut g n0 xs ys ts) (k : ∀ b o, n0 ≤ b → g.get? b = some o → g'.get? b = some o) : ZOut g' n0 xs ys ts := ⟨h.1, fun j t e => by
  obtain ⟨x, y, h1, h2, h3, h4⟩ := h.2 j t e
  exact ⟨x, y, h1, h2, k _ _ h4 h3, h4⟩⟩
end
end PySem
set_option Elab.async false
set_option linter.all false
set_option maxRecDepth 100000
namespace L2
open PySem PySem.Spec PyProof.Rows
section
variable {X : Cx} {pins : List (Addr × Obj)} {σ : St} {H : Hp} {s : Shared}
end
section
variable {X : Cx} {K : PySem.W.Frag} {e1 e2 : Expr} {ta : TA} {p p2 pos pos2 pos' : Pos} {es : List Expr} {x1 : Nat}
theorem tgOk_tupT2 {i j nt n : Nat} (hi : i < nt) (hj : j < nt) (hij : i ≠ j) : TgOk (gTupT n (gCons (gName i) (gCons (gName j) gNil))) nt := by
  intro x σ0 H Q h q
  obtain ⟨a, e, xs, sq, l, v, r, e2, v', r', e3, e4, q⟩ := q
  refine ⟨a, e, xs, sq, l, v, r, e2, v', r', e3, e4, (Wk.set (h i hi)).trans (Wk.set ?_), q⟩
  rw [List.getElem?_set_ne hij]
  exact h j hj
end
end L2
set_option Elab.async false
set_option linter.all false
set_option maxRecDepth 100000
namespace PyProof.Rows
open PySem PySem.Spec
section
variable {prog : Program} {w : World} {A : Around} {E : Value → Shared → Prop} {s : Shared}
theorem collect_tup {t : Addr} {us : List Value} {Q : List Value → Shared → Prop} (ht : s.heap.IsTuple t us.toArray) (hn : us.length ≤ 1000)
    (k : Q us { s with heap := (s.heap.push (seqObj "list" #[] 0)).update s.heap.objs.size (Obj.mapSeq (· ++ us.toArray)) }) : wpAny (model prog w) A (collect (.ref t)) Q E s := by
  obtain ⟨ot, h1, h2, n, h3⟩ := id ht
  unfold collect
  refine wpAny_bind (wpAny_runValue (codeAny_builtin entry_proto_collect' ?_))
  change wpAny _ _ (do again (.builtin "list.__iadd__" ⟨[← newList [], .ref t], []⟩)) _ _ s
  refine wpAny_bind (wpAny_newList (wpAny_pure ⟨Code.quiet_builtin _ (by decide +kernel), codeAny_builtin entry_list_iadd' ?_⟩))
  change wpAny _ _ (Builtin.List.listExtendWith (.ref s.heap.objs.size) (.ref t) (.ref s.heap.objs.size)) _ _ { s with heap := s.heap.push (seqObj "list" #[] 0) }
  unfold Builtin.List.listExtendWith
  have h1' : (s.heap.push (seqObj "list" #[] 0)).get? t = some ot := Heap.get?_push_of_some _ h1
  refine wpAny_bind (wpAny_typeOf (T := "tuple") ⟨ot, h1', h2⟩ ?_)
  have q1 : (Value.type "tuple" == Value.type "tuple") = true := by rfl
  rw [if_pos (by rw [q1]; simp)]
  refine wpAny_bind (listItems_at h1' h3 (wpAny_bind (listItems_at (xs := #[]) (n := 0) (Heap.get?_push_size _ rfl) rfl ?_)))
  rw [if_neg (by simp)]
  have hz : us.length ≤ sizeLine := Nat.le_trans hn (by decide)
  refine wpAny_bind (listUpdate_at (xs := #[]) (n := 0) (Heap.get?_push_size _ rfl) rfl (wpAny_pure ?_) (Nat.zero_le _) (by show (#[] ++ us.toArray).size ≤ sizeLine + 1; simp only [Array.size_append, List.size_toArray, List.length_nil]; omega))
  refine wpAny_bind (m := load s.heap.objs.size) (wpAny_load (get?_update_seq (Heap.get?_push_size _ rfl) _) ?_)
  change wpAny _ _ (pure ((#[] : Array Value) ++ us.toArray).toList) Q E _
  rw [show ((#[] : Array Value) ++ us.toArray).toList = us by simp]
  exact wpAny_pure k
end
end PyProof.Rows
namespace L2
open PySem PySem.Spec PyProof.Rows
section
variable {X : Cx}
noncomputable def rMinL : List V → Hp → VK → Prop := fun xs H Q => ∃ p, xs = [.ref p] ∧ ∃ ns : List Int, H p = some (.lst (ns.map V.int)) ∧ ns ≠ [] ∧ ∀ m, m ∈ ns → (∀ x ∈ ns, m ≤ x) → Q (.int m) H
noncomputable def rMaxL : List V → Hp → VK → Prop := fun xs H Q => ∃ p, xs = [.ref p] ∧ ∃ ns : List Int, H p = some (.lst (ns.map V.int)) ∧ ns ≠ [] ∧ ∀ m, m ∈ ns → (∀ x ∈ ns, x ≤ m) → Q (.int m) H
theorem best_lo {xs : Array (Int × Tok)} {ns : List Int} (hns : ns = xs.toList.map (·.1)) (h0 : 0 < xs.size) : numAt xs (argBest (fun i j => decide (numAt xs i < numAt xs j)) (xs.size - 1)) ∈ ns ∧ ∀ a ∈ ns, numAt xs (argBest (fun i j => decide (numAt xs i < numAt xs j)) (xs.size - 1)) ≤ a := by
  obtain ⟨h1, h2⟩ := argBest_lt (numAt xs) (xs.size - 1)
  refine ⟨?_, fun a ha => ?_⟩
  · rw [hns, numAt_eq]; exact PySem.getD_mem (by rw [List.length_map, Array.length_toList]; omega)
  · rw [hns] at ha
    obtain ⟨j, hj, rfl⟩ := mem_getD ha
    rw [List.length_map, Array.length_toList] at hj
    rw [← numAt_eq]; exact h2 j (by omega)
theorem best_hi {xs : Array (Int × Tok)} {ns : List Int} (hns : ns = xs.toList.map (·.1)) (h0 : 0 < xs.size) : numAt xs (argBest (fun i j => decide (numAt xs i > numAt xs j)) (xs.size - 1)) ∈ ns ∧ ∀ a ∈ ns, a ≤ numAt xs (argBest (fun i j => decide (numAt xs i > numAt xs j)) (xs.size - 1)) := by
  obtain ⟨h1, h2⟩ := argBest_gt (numAt xs) (xs.size - 1)
  refine ⟨?_, fun a ha => ?_⟩
  · rw [hns, numAt_eq]; exact PySem.getD_mem (by rw [List.length_map, Array.length_toList]; omega)
  · rw [hns] at ha
    obtain ⟨j, hj, rfl⟩ := mem_getD ha
    rw [List.length_map, Array.length_toList] at hj
    rw [← numAt_eq]; exact h2 j (by omega)
theorem ints_items {its : List Value} {ns : List Int} (hi : IntsAre its ns) (hne : ns ≠ []) : ∃ xs : Array (Int × Tok), its.toArray = intItems xs ∧ ns = xs.toList.map (·.1) ∧ 0 < xs.size := by
  obtain ⟨xs, e⟩ := hi.allInts.items
  have hns : ns = xs.toList.map (·.1) := by rw [← hi.numsOf, ← nums_intItems, ← e]
  refine ⟨xs, e, hns, ?_⟩
  have h3 := List.length_pos_iff.mpr hne
  rw [hns, List.length_map, Array.length_toList] at h3
  exact h3
theorem call_minL (hc : X.calm = true) : CallR X (.builtin "min") rMinL := by
  intro pins s σ H xs us Q I r h
  obtain ⟨p, rfl, ns, hp, hne, q⟩ := h
  obtain ⟨u, rfl, ru⟩ := vals1 r
  cases ru
  obtain ⟨its, rv, pl, hz⟩ := I.list (SqL.of hp)
  obtain ⟨xs, e, hns, h0⟩ := ints_items (intsAre_of rv) hne
  have pl' := pl.isList
  rw [e] at pl'
  refine min_intList (I.ok.hd hc) pl' h0 fun v g tk hv hk => ?_
  obtain ⟨t, rfl⟩ := intItems_at hv
  obtain ⟨b1, b2⟩ := best_lo hns h0
  exact ⟨V.int _, H, I.kept (t' := tk) hk, ⟨t, rfl⟩, q _ b1 b2⟩
theorem call_maxL (hc : X.calm = true) : CallR X (.builtin "max") rMaxL := by
  intro pins s σ H xs us Q I r h
  obtain ⟨p, rfl, ns, hp, hne, q⟩ := h
  obtain ⟨u, rfl, ru⟩ := vals1 r
  cases ru
  obtain ⟨its, rv, pl, hz⟩ := I.list (SqL.of hp)
  obtain ⟨xs, e, hns, h0⟩ := ints_items (intsAre_of rv) hne
  have pl' := pl.isList
  rw [e] at pl'
  refine max_intList (I.ok.hd hc) pl' h0 fun v g tk hv hk => ?_
  obtain ⟨t, rfl⟩ := intItems_at hv
  obtain ⟨b1, b2⟩ := best_hi hns h0
  exact ⟨V.int _, H, I.kept (t' := tk) hk, ⟨t, rfl⟩, q _ b1 b2⟩
noncomputable def sqOf (H : Hp) (p : Addr) (ys : List V) : Prop := H p = some (.lst ys) ∨ H p = some (.tup ys)
noncomputable def rListS : List V → Hp → VK → Prop := fun xs H Q => ∃ p, xs = [.ref p] ∧ ∃ ys, sqOf H p ys ∧ ∀ l, H l = none → Q (.ref l) (upd H l (.lst ys))
theorem call_listS : CallR X (.type "list") rListS := call_list_of.imp fun _ _ _ zq30 => by obtain ⟨p, e, ys, h, q⟩ := zq30; exact (⟨p, ys, e, h.imp .of .of, q⟩)
noncomputable def iS (K : PySem.W.Frag) (tl : TE) : TI := fun σ H R => tl σ H fun x H1 => ∃ a, x = .ref a ∧ ∃ xs, (H1 a = some (.lst xs) ∧ R (Itl K a) H1) ∨ (H1 a = some (.tup xs) ∧ R (Itt K a) H1)
theorem pi_S {K : PySem.W.Frag} {l tg : Expr} {tl : TE} (hK : X.K = K) (hl : PE X l tl) : PI X tg l (iS K tl) := by
  subst hK
  intro pins s σ H R I h
  refine thn (hl pins s σ H _ I h) fun v s1 zr5134 => ?_
  obtain ⟨x, H1, I1, r1, a, e, xs, hq⟩ := zr5134
  subst e
  cases r1
  rcases hq with ⟨hq, q⟩ | ⟨hq, q⟩
  · obtain ⟨its, rv, p, hz⟩ := I1.list (SqL.of hq)
    refine wpAny_pyIter_list p.isList ⟨s1.heap.objs.size, [s1.heap.objs.size], _, _, H1, rfl, I1.kept (t' := s1.toks) fun b o e => Heap.get?_push_of_some _ e, turn_list a _, ⟨_, Heap.get?_push_size _ rfl, rfl, rfl⟩, fun b hb => ?_, q⟩
    rw [List.mem_singleton.mp hb]
    exact I1.fpOk (Nat.le_refl _) (I1.hok.fresh (Nat.le_refl _))
  · obtain ⟨its, rv, p, hz⟩ := I1.tuple (SqT.of hq)
    refine wpAny_pyIter_tuple (show s1.heap.IsTuple a its.toArray from p) ⟨s1.heap.objs.size, [s1.heap.objs.size], _, _, H1, rfl, I1.kept (t' := s1.toks) fun b o e => Heap.get?_push_of_some _ e, turn_tuple a _, ⟨_, Heap.get?_push_size _ rfl, rfl, rfl⟩, fun b hb => ?_, q⟩
    rw [List.mem_singleton.mp hb]
    exact I1.fpOk (Nat.le_refl _) (I1.hok.fresh (Nat.le_refl _))
end
end L2
set_option Elab.async false
set_option linter.all false
set_option maxRecDepth 100000
namespace L2
open PySem PySem.Spec PyProof.Rows
section
variable {X : Cx}
noncomputable def inD (d : PyData) (ds : List PyData) : Bool := ds.any fun e => PyData.eqv e d
noncomputable def rInTD (K : PySem.W.Frag) (neg : Bool) : R2 := fun x y H Q => ∃ dx ds, Rep K H x dx ∧ Rep K H y (.tuple ds) ∧ dx.canLay0 = true ∧ PyData.canLayAll0 ds = true ∧ dx.depth ≤ 100 ∧ Q (.bl (if neg then !inD dx ds else inD dx ds)) H
noncomputable def rInLD (K : PySem.W.Frag) (neg : Bool) : R2 := fun x y H Q => ∃ dx ds, Rep K H x dx ∧ Rep K H y (.list ds) ∧ dx.canLay0 = true ∧ PyData.canLayAll0 ds = true ∧ dx.depth ≤ 100 ∧ Q (.bl (if neg then !inD dx ds else inD dx ds)) H
theorem op_inTD (hu : X.A.units + 102 < cLine) : OpR X (compareOp .In) (rInTD X.K false) := by
  intro pins s σ H x y v u Q I rx ry h
  obtain ⟨dx, ds, h1, h2, h3, h4, h5, q⟩ := h
  obtain ⟨as, r1⟩ := I.reads h1 rx
  obtain ⟨bs, r2⟩ := I.reads h2 ry
  exact PySem.SeqAt.in_tuple_reads r2 r1 h4 h3 (by omega) ⟨.bl _, H, I, rfl, q⟩
theorem op_notInLD (hu : X.A.units + 102 < cLine) : OpR X (compareOp .NotIn) (rInLD X.K true) := by
  intro pins s σ H x y v u Q I rx ry h
  obtain ⟨dx, ds, h1, h2, h3, h4, h5, q⟩ := h
  obtain ⟨as, r1⟩ := I.reads h1 rx
  obtain ⟨bs, r2⟩ := I.reads h2 ry
  exact PySem.SeqAt.notIn_list_reads r2 r1 h4 h3 (by omega) ⟨.bl _, H, I, rfl, q⟩
theorem hu102 {A : Around} {k : Nat} (hr : Room k A) : A.units + 102 < cLine := by have := hr.un; omega
theorem lay_ints : ∀ ns : List Int, PyData.canLayAll0 (ns.map PyData.int) = true
  | [] => rfl
  | n :: ns => by
    rw [List.map_cons]
    unfold PyData.canLayAll0
    rw [lay_ints ns]
    rfl
theorem depth_ints : ∀ ns : List Int, PyData.depthAll (ns.map PyData.int) = 0
  | [] => rfl
  | n :: ns => by
    rw [List.map_cons]
    unfold PyData.depthAll
    rw [depth_ints ns]
    rfl
noncomputable def dRow (r : List Int) : PyData := .tuple (r.map PyData.int)
theorem lay_row (r : List Int) : (dRow r).canLay0 = true := by unfold dRow PyData.canLay0; exact lay_ints r
theorem depth_row (r : List Int) : (dRow r).depth ≤ 1 := by unfold dRow PyData.depth; rw [depth_ints]; decide
theorem eqvAll_ints : ∀ (a b : List Int), PyData.eqvAll (a.map PyData.int) (b.map PyData.int) = decide (a = b)
  | [], [] => rfl
  | [], _ :: _ => by simp [PyData.eqvAll]
  | _ :: _, [] => by simp [PyData.eqvAll]
  | x :: a, y :: b => by
    rw [List.map_cons, List.map_cons]
    unfold PyData.eqvAll
    rw [eqvAll_ints a b]
    have : PyData.eqv (.int x) (.int y) = decide (x = y) := by
      simp only [PyData.eqv]
      rw [Bool.eq_iff_iff]; simp
    rw [this]
    by_cases h : x = y <;> by_cases h2 : a = b <;> simp [h, h2]
theorem eqv_row (a b : List Int) : PyData.eqv (dRow a) (dRow b) = decide (a = b) := by
  unfold dRow
  unfold PyData.eqv
  exact eqvAll_ints a b
theorem lay_rows : ∀ rs : List (List Int), PyData.canLayAll0 (rs.map dRow) = true
  | [] => rfl
  | r :: rs => by
    rw [List.map_cons]
    unfold PyData.canLayAll0
    rw [lay_rows rs, lay_row]
    rfl
theorem inD_rows (r : List Int) (rs : List (List Int)) : inD (dRow r) (rs.map dRow) = decide (r ∈ rs) := by
  unfold inD
  induction rs with
  | nil => rfl
  | cons q rs ih =>
    rw [List.map_cons, List.any_cons, ih, eqv_row]
    by_cases h : q = r
    · simp [h]
    · simp [h]
      exact fun e => absurd e.symm h
noncomputable def RowsV (H : Hp) (vs : List V) (rows : List (List Int)) : Prop := ∃ as : List (Addr × List Int), vs = as.map (fun x => V.ref x.1) ∧ rows = as.map (·.2) ∧ ∀ x ∈ as, H x.1 = some (.tup (x.2.map V.int))
theorem RowsV.nil {H : Hp} : RowsV H [] [] := ⟨[], rfl, rfl, fun x hx => by simp at hx⟩
theorem RowsV.keep {H H' : Hp} {vs : List V} {rows : List (List Int)} (h : RowsV H vs rows) (k : ∀ a xs, H a = some (.tup xs) → H' a = some (.tup xs)) : RowsV H' vs rows := by
  obtain ⟨as, h1, h2, h3⟩ := h
  exact ⟨as, h1, h2, fun x hx => k _ _ (h3 x hx)⟩
theorem RowsV.snoc {H : Hp} {vs : List V} {rows : List (List Int)} {t : Addr} {r : List Int} (h : RowsV H vs rows) (ht : H t = some (.tup (r.map V.int))) : RowsV H (vs ++ [.ref t]) (rows ++ [r]) := by
  obtain ⟨as, h1, h2, h3⟩ := h
  refine ⟨as ++ [(t, r)], by simp [h1], by simp [h2], fun x hx => ?_⟩
  rcases List.mem_append.mp hx with z | z
  · exact h3 x z
  · rw [List.mem_singleton.mp z]; exact ht
theorem RowsV.length {H : Hp} {vs : List V} {rows : List (List Int)} (h : RowsV H vs rows) : vs.length = rows.length := by
  obtain ⟨as, h1, h2, h3⟩ := h
  rw [h1, h2, List.length_map, List.length_map]
theorem RowsV.reps {K : PySem.W.Frag} {H : Hp} {vs : List V} {rows : List (List Int)} (h : RowsV H vs rows) : Reps K H vs (rows.map dRow) := by
  obtain ⟨as, rfl, rfl, h3⟩ := h
  induction as with
  | nil => exact .nil
  | cons x as ih => exact .cons (.tup (.of (h3 x (by simp))) (Reps.ints _)) (ih fun y hy => h3 y (by simp [hy]))
theorem rowT_in {K : PySem.W.Frag} {H : Hp} {t w : Addr} {r : List Int} {vs : List V} {rows : List (List Int)} {Q : VK} (ht : H t = some (.tup (r.map V.int))) (hw : H w = some (.tup vs)) (hr : RowsV H vs rows) (q : Q (.bl (decide (r ∈ rows))) H) : rInTD K false (.ref t) (.ref w) H Q :=
  ⟨dRow r, rows.map dRow, .tup (.of ht) (Reps.ints r), .tup (.of hw) hr.reps, lay_row r, lay_rows rows, Nat.le_trans (depth_row r) (by decide), by rw [inD_rows]; exact q⟩
theorem rowL_notIn {K : PySem.W.Frag} {H : Hp} {t w : Addr} {r : List Int} {vs : List V} {rows : List (List Int)} {Q : VK} (ht : H t = some (.tup (r.map V.int))) (hw : H w = some (.lst vs)) (hr : RowsV H vs rows) (q : Q (.bl (!decide (r ∈ rows))) H) : rInLD K true (.ref t) (.ref w) H Q :=
  ⟨dRow r, rows.map dRow, .tup (.of ht) (Reps.ints r), .lst (.of hw) hr.reps, lay_row r, lay_rows rows, Nat.le_trans (depth_row r) (by decide), by rw [inD_rows]; exact q⟩
end
end L2
set_option Elab.async false
set_option linter.all false
set_option maxRecDepth 100000
namespace PySem
open Sem (wp)
open AutoSeq1 (wpAny_loadPart')
theorem Draws.tup {prog : Program} {w : World} {A : Around} (hd : A.handled = none) (J T : Addr) (hne : T ≠ J) (vs : Array Value) :
    Draws prog w A J [J, T] vs.size (fun i v => vs[i]? = some v) (fun i h => h.IsTupleIter J T i ∧ h.IsTuple T vs) where
  live := fun _ _ st => let ⟨o, ho, _⟩ := st.1; ⟨o, ho⟩
  frame := fun _ _ _ st hk => ⟨st.1.at fun o e => hk J (by simp) o e, st.2.at fun o e => hk T (by simp) o e⟩
  item := fun i s Q E hi st hQ => nx_tup st.1 st.2 (Array.getElem?_eq_getElem hi) fun g a b => hQ _ g s.toks (Array.getElem?_eq_getElem hi) ⟨a, st.2.at fun o e => (b.2 T hne).trans e⟩ b
  done := fun s Q E st hQ => nx_tup_end hd st.1 st.2 (Array.getElem?_eq_none (Nat.le_refl _)) hQ
section
variable {prog : Program} {w : World} {A : Around} {E : Value → Shared → Prop} {s : Shared}
end
end PySem
namespace L2
open PySem PySem.Spec PyProof.Rows
section
variable {X : Cx} {K : PySem.W.Frag}
end
end L2
set_option Elab.async false
set_option linter.all false
set_option maxRecDepth 100000
namespace PySem
open Sem (wp)
section
variable {M : Model} {A : Around} {E : Value → Shared → Prop} {s : Shared}
theorem cellsFrom_app : ∀ (names : List (Str × NameKind)) (n : Nat) (acc : List (Str × Addr)), cellsFrom n names acc = cellsFrom n names [] ++ acc
  | [], n, acc => rfl
  | (x, k) :: r, n, acc => by
    unfold cellsFrom
    split
    · rw [cellsFrom_app r (n + 1) ((x, n) :: acc), cellsFrom_app r (n + 1) [(x, n)]]
      simp
    · exact cellsFrom_app r n acc
theorem cellsFrom_mem : ∀ (names : List (Str × NameKind)) (n : Nat) (x : Str) (c : Addr), (x, c) ∈ cellsFrom n names [] → (x, NameKind.cell) ∈ names
  | [], n, x, c, h => absurd h (by simp [cellsFrom])
  | (y, k) :: r, n, x, c, h => by
    unfold cellsFrom at h
    split at h
    · rename_i hk
      rw [cellsFrom_app] at h
      rcases List.mem_append.mp h with q | q
      · exact List.mem_cons_of_mem _ (cellsFrom_mem r (n + 1) x c q)
      · have e : (x, c) = (y, n) := by simpa using q
        cases e
        have : k = .cell := by simpa using hk
        subst this
        exact List.mem_cons_self
    · exact List.mem_cons_of_mem _ (cellsFrom_mem r n x c h)
theorem lookup_isSome_mem {l : List (Str × Addr)} {x : Str} {c : Addr} : (x, c) ∈ l → (l.lookup x).isSome = true := by
  induction l with
  | nil => intro h; exact absurd h (by simp)
  | cons p r ih =>
    intro h
    rw [List.lookup_cons]
    cases hb : x == p.1 with
    | true => rfl
    | false =>
      rcases List.mem_cons.mp h with q | q
      · subst q; simp at hb
      · exact ih q
theorem cellsFrom_has : ∀ (names : List (Str × NameKind)) (n : Nat) (x : Str), (x, NameKind.cell) ∈ names → ∃ c, (x, c) ∈ cellsFrom n names []
  | [], n, x, h => absurd h (by simp)
  | (y, k) :: r, n, x, h => by
    unfold cellsFrom
    rcases List.mem_cons.mp h with q | q
    · cases q
      simp only [beq_self_eq_true, if_true]
      rw [cellsFrom_app]
      exact ⟨n, List.mem_append_right _ (by simp)⟩
    · split
      · rw [cellsFrom_app]
        obtain ⟨c, hc⟩ := cellsFrom_has r (n + 1) x q
        exact ⟨c, List.mem_append_left _ hc⟩
      · exact cellsFrom_has r n x q
theorem lookup_app {l r : List (Str × Addr)} {x : Str} {c : Addr} (h : (l ++ r).lookup x = some c) : l.lookup x = some c ∨ (l.lookup x = none ∧ r.lookup x = some c) := by
  induction l with
  | nil => exact .inr ⟨rfl, h⟩
  | cons p t ih =>
    rw [List.cons_append, List.lookup_cons] at h
    rw [List.lookup_cons]
    cases hb : x == p.1 with
    | true => rw [hb] at h; exact .inl h
    | false => rw [hb] at h; exact ih h
theorem lookup_app_r {l r : List (Str × Addr)} {x : Str} {c : Addr} (h0 : l.lookup x = none) (h : r.lookup x = some c) : (l ++ r).lookup x = some c := by
  induction l with
  | nil => exact h
  | cons p t ih =>
    rw [List.lookup_cons] at h0
    rw [List.cons_append, List.lookup_cons]
    cases hb : x == p.1 with
    | true => rw [hb] at h0; cases h0
    | false => rw [hb] at h0; exact ih h0
theorem lookup_app_l {l r : List (Str × Addr)} {x : Str} {c : Addr} (h : l.lookup x = some c) : (l ++ r).lookup x = some c := by
  induction l with
  | nil => cases h
  | cons p t ih =>
    rw [List.lookup_cons] at h
    rw [List.cons_append, List.lookup_cons]
    cases hb : x == p.1 with
    | true => rw [hb] at h; exact h
    | false => rw [hb] at h; exact ih h
theorem wpAny_newFunctionEnv_around {scope : Scope} {globals : Addr} {closure : List (Str × Addr)} {qual : Str} {func : Option Addr} {code : Value} {around : Env} {builtins : Addr} {Q : Env → Shared → Prop}
    (hQ : (pushCells (s.heap.push { cls := .type "dict", data := .dict #[] }) scope.names).Ns s.heap.objs.size (fun _ => none) →
      Q (newEnv scope s.heap.objs.size globals (cellsFrom (s.heap.objs.size + 1) scope.names closure) qual func code (some around) builtins) { s with heap := pushCells (s.heap.push { cls := .type "dict", data := .dict #[] }) scope.names }) :
    wpAny M A (newFunctionEnv scope globals closure [] qual func code (some around) builtins) Q E s := by
  simp only [newFunctionEnv, Option.isSome_some, if_true]
  simp only [newEnv] at hQ
  refine wpAny_bind (wpAny_alloc ?_)
  refine wpAny_bind (wpAny_layCells _ (fun name kind cells => by cases hkc : kind == NameKind.cell <;> simp [hkc]) _ _ _ _ ?_)
  rw [show ({ s with heap := s.heap.push { cls := .type "dict", data := .dict #[] } } : Shared).heap.objs.size = s.heap.objs.size + 1 from Heap.size_push ..]
  exact wpAny_bind (wpAny_pure (wpAny_pure (hQ ((Heap.Ns.new s.heap (.type "dict")).keeps (pushCells_keeps _ _)))))
end
end PySem
namespace L2
open PySem PySem.Spec PyProof.Rows
noncomputable def compCxO (X : Cx) (scope : Scope) (N : List Str) (cl : List (Str × Addr)) (C : Addr) (fp : List Addr) (s : Shared) (H : Hp) (xe : Value → Shared → Prop) : Cx where
  prog := X.prog
  w := X.w
  K := X.K
  mg := X.mg
  base := X.base
  A := X.A
  N := N
  s₀ := s
  H₀ := H
  env := compEnvC scope cl C X.env
  outer := X.stack
  stack := X.stack
  ex := fp
  fn := fun x => scope.names.lookup x == some .cell
  calm := X.calm
  pn := []
  xe := xe
section
variable {X : Cx}
structure CompOkO (X : Cx) (scope : Scope) (N : List Str) (nt : Nat) (js : List Nat) : Prop where
  kind : scope.kind = .function
  nd : N.Nodup
  len : N.length = nt + js.length
  at_ : ∀ (k : Nat) (j : Nat) (x : Str), js[k]? = some j → N[nt + k]? = some x → X.N[j]? = some x ∧ (X.env.scope.names.lookup x = some .cell ∨ X.env.scope.names.lookup x = some .free)
  frl : ∀ (k : Nat) (x : Str), N[nt + k]? = some x → scope.names.lookup x = some .free
  own : ∀ y ∈ scope.names, y.2 = .cell → scope.names.lookup y.1 = some .cell
  loc : ∀ y ∈ scope.names, y.2 = .local → scope.names.lookup y.1 = some .local
  free : ∀ y ∈ scope.names, y.2 = .free → X.env.scope.names.lookup y.1 = some .cell ∨ X.env.scope.names.lookup y.1 = some .free
theorem lookup_mem_kind : ∀ {names : List (Str × NameKind)} {x : Str} {k : NameKind}, names.lookup x = some k → (x, k) ∈ names
  | [], _, _, h => by simp at h
  | (n, k') :: r, x, k, h => by
    rw [List.lookup_cons] at h
    cases hb : x == n with
    | true => rw [hb] at h; cases h; rw [beq_iff_eq.mp hb]; exact List.mem_cons_self
    | false => rw [hb] at h; exact List.mem_cons_of_mem _ (lookup_mem_kind h)
theorem relabel_freeO {env : Env} : ∀ {names : List (Str × NameKind)} {x : Str}, ((names.map fun (n, k) => if (k == NameKind.free && env.scope.kind == .function && env.kindOf n == some .cell) then (n, NameKind.cell) else (n, k)).lookup x = some .cell ∨ (names.map fun (n, k) => if (k == NameKind.free && env.scope.kind == .function && env.kindOf n == some .cell) then (n, NameKind.cell) else (n, k)).lookup x = some .free) →
    (x, NameKind.free) ∈ names ∨ (x, NameKind.cell) ∈ names := by
  intro names x h
  have key : ∀ k', (names.map fun (n, k) => if (k == NameKind.free && env.scope.kind == .function && env.kindOf n == some .cell) then (n, NameKind.cell) else (n, k)).lookup x = some k' → (k' = .cell ∨ k' = .free) → (x, NameKind.free) ∈ names ∨ (x, NameKind.cell) ∈ names := by
    intro k' e hk
    obtain ⟨⟨n, k⟩, hm, hp⟩ := List.mem_map.mp (lookup_mem_kind e)
    dsimp only at hp
    by_cases q : (k == NameKind.free && env.scope.kind == .function && env.kindOf n == some .cell) = true
    · rw [if_pos q] at hp
      cases hp
      simp only [Bool.and_eq_true, beq_iff_eq] at q
      rw [q.1.1] at hm
      exact .inl hm
    · rw [if_neg q] at hp
      cases hp
      rcases hk with z | z
      · subst z; exact .inr hm
      · subst z; exact .inl hm
  rcases h with h | h
  · exact key _ h (.inl rfl)
  · exact key _ h (.inr rfl)
theorem comp_startO {scope : Scope} {N : List Str} {nt : Nat} {js : List Nat} {cl : List (Str × Addr)} {fp : List Addr} {pins : List (Addr × Obj)} {σ : St} {H H1 : Hp} {s : Shared} {h' : Heap} {C : Addr} {tk : Nat} {xe : Value → Shared → Prop} {m : Str → Option Value}
    (S : CompOkO X scope N nt js) (I : Inv X pins σ H s) (hf : ∀ b ∈ fp, FpOk X pins H b) (hcl : ∀ x c, cl.lookup x = some c → X.env.cells.lookup x = some c) (hcl2 : ∀ x, (x, NameKind.free) ∈ scope.names → (cl.lookup x).isSome = true)
    (hnew : ∀ x c, (x, c) ∈ cellsFrom (C + 1) scope.names [] → h'.IsCell c none ∧ C + 1 ≤ c) (hap : (cellsFrom (C + 1) scope.names []).Pairwise fun x y => x.2 ≠ y.2) (hfr : ∀ c, C ≤ c → H1 c = none)
    (hfp : ∀ b ∈ fp, b < s.heap.objs.size) (hC : s.heap.objs.size ≤ C) (k : ∀ b o, s.heap.get? b = some o → h'.get? b = some o) (hs : ∀ b o, H b = some o → H1 b = some o) (hs2 : ∀ b, H b = none → b < s.heap.objs.size → H1 b = none) (hok : HOk X.prog X.w H1 h') (hn : h'.Ns C m)
    (hm : ∀ x, m x = none) :
    Inv (compCxO X scope N (cellsFrom (C + 1) scope.names cl) C fp s H xe) [] (inner nt js σ) H1 { s with heap := h', toks := tk } := by
  have hfs : ∀ b ∈ fp, b ∉ frs X.stack := fun b hb z => by
    obtain ⟨f0, f1, f2, _⟩ := hf b hb
    rcases List.mem_cons.mp (I.stkSub b z) with q | q
    · exact f1 q
    · exact f2 q
  have old : ∀ x c, cl.lookup x = some c → c < s.heap.objs.size := fun x c e => by
    obtain ⟨v, oc, hoc, hd⟩ := I.cell x c (hcl x c e)
    exact Heap.lt_size hoc
  have cs : ∀ x c, (cellsFrom (C + 1) scope.names cl).lookup x = some c → (x, c) ∈ cellsFrom (C + 1) scope.names [] ∨ cl.lookup x = some c := fun x c e => by
    rw [cellsFrom_app] at e
    rcases lookup_app e with q | q
    · exact .inl (mem_of_lookup q)
    · exact .inr q.2
  have own1 : ∀ x, (x, NameKind.cell) ∈ scope.names → ∃ c, (cellsFrom (C + 1) scope.names cl).lookup x = some c ∧ (x, c) ∈ cellsFrom (C + 1) scope.names [] := fun x hx => by
    obtain ⟨c, hc⟩ := cellsFrom_has scope.names (C + 1) x hx
    obtain ⟨c', hc'⟩ := Option.isSome_iff_exists.mp (lookup_isSome_mem hc)
    refine ⟨c', ?_, mem_of_lookup hc'⟩
    rw [cellsFrom_app]
    exact lookup_app_l hc'
  have free1 : ∀ x c, (∀ c, (x, c) ∉ cellsFrom (C + 1) scope.names []) → cl.lookup x = some c → (cellsFrom (C + 1) scope.names cl).lookup x = some c := fun x c hx e => by
    rw [cellsFrom_app]
    refine lookup_app_r ?_ e
    cases q : (cellsFrom (C + 1) scope.names []).lookup x with
    | none => rfl
    | some c' => exact absurd (mem_of_lookup q) (hx c')
  refine ⟨⟨I.ok.mod, S.kind, I.ok.glob, I.ok.blt, hC, fun x y c h1 h2 => ?_, fun x hx => ?_, fun x c z e => ?_, I.ok.hd, I.ok.frames, .inl rfl, fun b hb => ?_, I.bs, Nat.le_trans I.ok.bsz I.sz, fun b o e hb => ?_, hfs, I.stack, I.stkFree⟩,
    rfl, I.bare, ?_, ⟨m, hn, fun i x v h1 h2 h3 => ?_⟩, fun x c e => ?_, hfr C (Nat.le_refl _), fun x c e => ?_, fun p hp => absurd (show p ∈ ([] : List (Addr × Obj)) from hp) (by simp), hok, ?_⟩
  · rcases cs x c h1 with a | a <;> rcases cs y c h2 with b | b
    · exact name_of_addr hap a b
    · exact absurd (Nat.lt_of_lt_of_le (old y c b) (Nat.le_trans hC (Nat.le_of_succ_le (hnew x c a).2))) (Nat.lt_irrefl _)
    · exact absurd (Nat.lt_of_lt_of_le (old x c a) (Nat.le_trans hC (Nat.le_of_succ_le (hnew y c b).2))) (Nat.lt_irrefl _)
    · exact I.ok.inj x y c (hcl x c a) (hcl y c b)
  · by_cases hxc : (x, NameKind.cell) ∈ scope.names
    · obtain ⟨c, hc, _⟩ := own1 x hxc
      exact ⟨c, hc⟩
    · rcases relabel_freeO (env := X.env) hx with q | q
      · obtain ⟨c, hc⟩ := Option.isSome_iff_exists.mp (hcl2 x q)
        exact ⟨c, free1 x c (fun c' z => hxc (cellsFrom_mem _ _ _ _ z)) hc⟩
      · exact absurd q hxc
  · have hxc : (x, NameKind.cell) ∈ scope.names := by
      have : scope.names.lookup x = some .cell := by simpa [compCxO] using z
      exact lookup_mem_kind this
    obtain ⟨c', hc', hm'⟩ := own1 x hxc
    have e' : (cellsFrom (C + 1) scope.names cl).lookup x = some c := e
    rw [hc'] at e'; cases e'
    exact Nat.le_trans hC (Nat.le_of_succ_le (hnew x _ hm').2)
  · obtain ⟨f0, f1, f2, f3, f4, f5⟩ := hf b hb
    refine ⟨Nat.ne_of_lt (Nat.lt_of_lt_of_le (hfp b hb) hC), fun x c e => ?_⟩
    rcases cs x c e with a | a
    · exact Nat.ne_of_gt (Nat.lt_of_lt_of_le (hfp b hb) (Nat.le_trans hC (Nat.le_of_succ_le (hnew x c a).2)))
    · exact f4 x c (hcl x c a)
  · have := hf b hb
    obtain ⟨f0, f1, f2, f3, f4, f5⟩ := this
    rcases f3 with f3 | f3
    · exact I.ok.noex b o e f3
    · exact absurd (Nat.lt_of_lt_of_le (Heap.lt_size e) (Nat.le_trans I.ok.bsz f3)) (Nat.lt_irrefl _)
  · refine ⟨fun b o e n _ _ => k b o e, fun b o e n _ _ => ⟨o.slots, k b o e⟩, fun b o e n _ => hs2 b n (Heap.lt_size e), fun b o e _ => ⟨o, k b o e⟩, fun b xs e => hs b _ e, fun b o u e => hs b _ e, fun b ps e => ⟨#[], by rw [hs b _ e]; simp⟩⟩
  · by_cases hi : i < nt
    · rw [inner_none i hi] at h2; cases h2
    · obtain ⟨k', rfl⟩ : ∃ k', i = nt + k' := ⟨i - nt, by omega⟩
      unfold inner at h2
      rw [List.getElem?_append_right (by simp)] at h2
      simp only [List.length_replicate, Nat.add_sub_cancel_left, List.getElem?_map] at h2
      cases ej : js[k']? with
      | none => rw [ej] at h2; cases h2
      | some j =>
        rw [ej] at h2
        simp only [Option.map_some, Option.some.injEq] at h2
        obtain ⟨hN, hk⟩ := S.at_ k' j x ej h1
        have hσ : σ[j]? = some (some v) := by
          cases q : σ[j]? with
          | none => rw [q] at h2; cases h2
          | some z => rw [q] at h2; simp only [Option.join] at h2; rw [← h2]; rfl
        have vis : Vis X.env.scope x := by rcases hk with q | q; exact .inr (.inl q); exact .inr (.inr q)
        obtain ⟨m0, hn0, hl0⟩ := I.loc
        obtain ⟨u, r, l⟩ := hl0 j x v hN hσ vis
        refine ⟨u, r, ?_⟩
        rcases l with ⟨q, _⟩ | ⟨q, c, e, z⟩
        · have q' : X.env.scope.names.lookup x = some .local := q
          rw [q'] at hk
          rcases hk with hk | hk <;> cases hk
        · have fr := S.frl k' x h1
          have hv : (relabel scope X.env).names.lookup x = some .cell ∨ (relabel scope X.env).names.lookup x = some .free := lookup_relabel_free (env := X.env) fr
          have q : (x, NameKind.free) ∈ scope.names := lookup_mem_kind fr
          obtain ⟨c', e'⟩ := Option.isSome_iff_exists.mp (hcl2 x q)
          have e2 := hcl x c' e'
          rw [e] at e2; cases e2
          obtain ⟨oc, hoc, hd⟩ := z
          exact .inr ⟨hv, c, free1 x c (fun c' z => by
            have := S.own _ (cellsFrom_mem _ _ _ _ z) rfl
            rw [fr] at this
            cases this) e', oc, k _ _ hoc, hd⟩
  · rcases cs x c e with a | a
    · exact ⟨none, (hnew x c a).1⟩
    · obtain ⟨v, oc, hoc, hd⟩ := I.cell x c (hcl x c a)
      exact ⟨v, oc, k _ _ hoc, hd⟩
  · rcases cs x c e with a | a
    · exact hfr c (Nat.le_of_succ_le (hnew x c a).2)
    · have e2 := hcl x c a
      obtain ⟨v, oc, hoc, hd⟩ := I.cell x c e2
      exact hs2 c (I.freeC x c e2) (Heap.lt_size hoc)
  · unfold inner
    show _ = N.length
    rw [S.len]
    simp
theorem ps_setCO {i : Nat} {y : Str} {py spos : Pos} {elt tg iter : Expr} {ifs : List Expr} {scope : Scope} {pos : Pos} {N : List Str} {nt : Nat} {js : List Nat} {wi : TI} {g : TG} {tc : TT} {te : TE}
    (hN : X.N.Nodup) (hi0 : X.N[i]? = some y) (hy : Loc X.env.scope y) (hca : X.calm = true) (S : CompOkO X scope N nt js) (hi : PI X tg iter wi)
    (hg : ∀ cl C fp s H xe, PG (compCxO X scope N cl C fp s H xe) tg g) (hgo : TgOk g nt)
    (hc : ∀ cl C fp s H xe, PTs (compCxO X scope N cl C fp s H xe) ifs tc)
    (he : ∀ cl C fp s H xe, PE (compCxO X scope N cl C fp s H xe) elt te)
    (hs : ∀ x, foldedSetIterable iter X.env x = pure x := by intro _; rfl)
    (hsw : swapsWith (.ListComp elt [⟨tg, iter, ifs, 0⟩] scope pos) (some (.Name y py)) spos.line X.env = pure true := by rfl)
    (hf : X.fn y = true ∨ X.env.scope.names.lookup y = some .local := by first | exact .inl rfl | exact .inr rfl | assumption) :
    PS X (.Assign [.Name y py] (.ListComp elt [⟨tg, iter, ifs, 0⟩] scope pos) spos) (tAsg (tComp nt js wi g tc te) (gName i)) := by
  intro pins s σ H D I h
  obtain ⟨cl, hclos, hcl1, _, hcl2⟩ := closure_of (env := X.env) scope.names [] (fun x hx hk => I.ok.has x.1 (S.free x hx hk))
  have hcl : ∀ x c, cl.lookup x = some c → X.env.cells.lookup x = some c := fun x c e => (hcl1 x c e).elim (fun z => by simp at z) fun z => z
  have hclos' : closureFor scope X.env = pure cl := by
    unfold closureFor
    simp only []
    rw [hclos]
    rfl
  rw [exec_Assign_Name_used _ _ _ _ hsw]
  refine wpAny_bind (wpAny_standAt (wpAny_bind ?_))
  show wpAny _ X.A (do let _ ← comprehension (.ListComp elt [⟨tg, iter, ifs, 0⟩] scope pos) scope X.env _ (newList []) false (eval iter X.env) (some (assign (.Name y py) X.env))) _ _ s
  refine wpAny_bind (wpAny_mono (wpAny_comprehension_free (use := some (assign (.Name y py) X.env)) (Q := fun _ s' => SP X pins D .next s') rfl hs hclos' S.kind S.loc (thn (hi pins s σ H _ I h) fun v s1 h1 => thn h1 fun itv s2 h2 => ?_)) (fun _ s' hq => wpAny_pure (wpAny_pure hq)) fun _ _ e => e)
  obtain ⟨it, fp, tn, J, H2, e, I2, T, st2, f2, q2⟩ := h2
  subst e
  have hfresh : H2 s2.heap.objs.size = none := I2.hok.fresh (Nat.le_refl _)
  obtain ⟨W, ⟨m0, w0⟩, turn⟩ := q2 s2.heap.objs.size hfresh
  refine wpAny_newObj_type (wpAny_newFunctionEnv_around (fun hns₁ => ?_))
  dsimp only at hns₁ ⊢
  generalize hG : s2.heap.push { cls := .type "list", dict := none, data := .seq ([] : List Value).toArray } = G at hns₁ ⊢
  have hGs : G.objs.size = s2.heap.objs.size + 1 := by rw [← hG, Heap.size_push]
  have ckk := cellsFrom_ok scope.names (G.push { cls := .type "dict", data := .dict #[] }) (G.objs.size + 1) [] ⟨fun _ _ hm => (nomatch hm), List.Pairwise.nil⟩ (by rw [Heap.size_push]; exact Nat.le_refl _)
  rw [Heap.size_push] at ckk
  have kold : ∀ b o, s2.heap.get? b = some o → (pushCells (G.push { cls := .type "dict", data := .dict #[] }) scope.names).get? b = some o := fun b o e =>
    pushCells_keeps _ _ _ _ (Heap.get?_push_of_some _ (hG ▸ Heap.get?_push_of_some _ e))
  have kD : (pushCells (G.push { cls := .type "dict", data := .dict #[] }) scope.names).get? s2.heap.objs.size = some { cls := .type "list", dict := none, data := .seq ([] : List Value).toArray } :=
    pushCells_keeps _ _ _ _ (Heap.get?_push_of_some _ (hG ▸ Heap.get?_push_size _ rfl))
  generalize hh₁ : pushCells (G.push { cls := .type "dict", data := .dict #[] }) scope.names = h₁ at hns₁ ckk kold kD ⊢
  have hok1 : HOk X.prog X.w (upd H2 s2.heap.objs.size (.lst [])) h₁ := I2.hok.laid kold (Nat.le_refl _) ⟨Nat.zero_le _, [], 0, .nil, kD⟩
  have hfpl : ∀ b ∈ fp, b < s2.heap.objs.size := fun b hb => by
    obtain ⟨o, e, _⟩ := T.obj _ _ st2 b hb
    exact Heap.lt_size e
  have hC0 : ∀ c, G.objs.size ≤ c → (upd H2 s2.heap.objs.size (.lst [])) c = none := fun c hc => by
    rw [upd_ne (by rw [hGs] at hc; exact Nat.ne_of_gt hc)]
    exact I2.hok.fresh (by rw [hGs] at hc; exact Nat.le_of_succ_le hc)
  generalize hRR : (compPost (model X.prog X.w) X.A X.xe (some (assign (.Name y py) X.env)) (fun _ s' => SP X pins D .next s') (.ref s2.heap.objs.size) G.objs.size) = RR
  have cdis : ∀ x c b, (cellsFrom (G.objs.size + 1) scope.names cl).lookup x = some c → b ∈ fp → c ≠ b := fun x c b e hb => by
    rw [cellsFrom_app] at e
    rcases lookup_app e with q | q
    · have := (ckk.empty x c (mem_of_lookup q)).2
      have h1 := hfpl b hb
      rw [hGs] at this
      exact Nat.ne_of_gt (Nat.lt_of_lt_of_le h1 (by omega))
    · obtain ⟨f0, f1, f2', f3, f4, f5⟩ := f2 b hb
      exact f4 x c (hcl x c q.2)
  have stat : ∀ {H' : Hp}, (∀ b ∈ fp, H' b = none) → ∀ b ∈ fp, FpOk (compCxO X scope N (cellsFrom (G.objs.size + 1) scope.names cl) G.objs.size fp s2 H2 (notedBy (model X.prog X.w) X.A (compEnvC scope (cellsFrom (G.objs.size + 1) scope.names cl) G.objs.size X.env) fun e s' => RR (.error e) s')) [] H' b := fun {H'} hn b hb => by
    obtain ⟨f0, f1, f2', f3, f4, f5⟩ := f2 b hb
    refine ⟨hn b hb, Nat.ne_of_lt (Nat.lt_of_lt_of_le (hfpl b hb) (by show _ ≤ G.objs.size; rw [hGs]; exact Nat.le_succ _)), fun z => ?_, .inl hb, fun x c e => cdis x c b e hb, fun p hp => absurd (show p ∈ ([] : List (Addr × Obj)) from hp) (by simp)⟩
    rcases List.mem_cons.mp (I2.stkSub b z) with q | q
    · exact f1 q
    · exact f2' q
  have I3 : ∀ tk, Inv (compCxO X scope N (cellsFrom (G.objs.size + 1) scope.names cl) G.objs.size fp s2 H2 (notedBy (model X.prog X.w) X.A (compEnvC scope (cellsFrom (G.objs.size + 1) scope.names cl) G.objs.size X.env) fun e s' => RR (.error e) s')) [] (inner nt js σ) (upd H2 s2.heap.objs.size (.lst [])) { s2 with heap := h₁, toks := tk } := fun tk =>
    comp_startO S I2 f2 hcl hcl2 (fun x c hm => ckk.empty x c hm) ckk.apart hC0 hfpl (by rw [hGs]; exact Nat.le_succ _) kold (fun b o e => by rw [upd_ne (ne_of_none e hfresh)]; exact e) (fun b n hb => by rw [upd_ne (Nat.ne_of_lt hb)]; exact n) hok1 hns₁ (fun _ => rfl)
  have loop : ∀ s₃ : Shared, s₃ = { s2 with heap := h₁, toks := s2.toks } →
      codeAny (model X.prog X.w) X.A (.compLoop (.ListComp elt [⟨tg, iter, ifs, 0⟩] scope pos) 0 (.ref it) (.ref s2.heap.objs.size) (compEnvC scope (cellsFrom (G.objs.size + 1) scope.names cl) G.objs.size X.env)) RR s₃ := by
    rintro s₃ rfl
    refine compLoop_any (fun n s' => ∃ i ys H', Inv (compCxO X scope N (cellsFrom (G.objs.size + 1) scope.names cl) G.objs.size fp s2 H2 (notedBy (model X.prog X.w) X.A (compEnvC scope (cellsFrom (G.objs.size + 1) scope.names cl) G.objs.size X.env) fun e s' => RR (.error e) s')) [] (inner nt js σ) H' s' ∧ tn i s'.heap ∧ (∀ b ∈ fp, H' b = none) ∧ W i n ys H') ?_ m0
      ⟨0, [], _, I3 _, T.keep _ _ _ st2 fun b hb o e => kold b o e, fun b hb => by rw [upd_ne (Nat.ne_of_lt (hfpl b hb))]; exact (f2 b hb).1, w0⟩
    rintro n s3 ⟨i, ys, H3, J3, st3, fr3, w3⟩
    rcases turn i n ys H3 w3 with ⟨stop, qn⟩ | ⟨go, NN, hN, step⟩
    · refine thn (T.done (compCxO X scope N (cellsFrom (G.objs.size + 1) scope.names cl) G.objs.size fp s2 H2 (notedBy (model X.prog X.w) X.A (compEnvC scope (cellsFrom (G.objs.size + 1) scope.names cl) G.objs.size X.env) fun e s' => RR (.error e) s')) rfl rfl rfl hca i [] s3 (inner nt js σ) H3 _ J3 (stat fr3) st3 stop) fun r s4 zr5602 => ?_
      obtain ⟨hr, I4⟩ := zr5602
      subst hr
      show RR (.ok .next) s4
      rw [← hRR]
      obtain ⟨mC, hnC, _⟩ := id I4.loc
      have I5 : Inv X pins σ H3 s4 := I2.call' (s' := s4) I4.os I4.base I4.hok I4.bare (fun b hb => by
        obtain ⟨f0, f1, f2', f3, f4, f5⟩ := f2 b hb
        exact ⟨f3, f1, f4, f5⟩)
      show wpAny _ X.A (assign (.Name y py) X.env (.ref s2.heap.objs.size)) _ _ s4
      have hCL : G.objs.size ≠ X.env.locals := Nat.ne_of_gt (Nat.lt_of_lt_of_le I2.lt (by rw [hGs]; exact Nat.le_succ _))
      have hCc : ∀ x c, X.env.cells.lookup x = some c → c ≠ G.objs.size := fun x c e z => by
        obtain ⟨v, q⟩ := I2.cell x c e
        exact absurd (Nat.lt_of_lt_of_le q.lt (by rw [z, hGs]; exact Nat.le_succ _)) (Nat.lt_irrefl _)
      refine wpAny_assign_Name (store_ok2 I5 hN hi0 hy (v := .ref s2.heap.objs.size) rfl (fun s6 I6 zr5615 => ?_) hf)
      obtain ⟨ad, sb, had⟩ := zr5615
      have hadC : G.objs.size ≠ ad := by
        rcases had with z | z
        · rw [z]; exact hCL
        · exact fun e => hCc _ _ z e.symm
      refine ⟨mC, hnC.sameBut sb hadC, fun h'' hs'' => ?_⟩
      refine ⟨_, H3, Inv.turned (t' := s6.toks) (it := G.objs.size) I6 (fun b o hb e => hs''.extBut b o hb e) I4.free hCL (.inr (Nat.le_trans I2.sz (by rw [hGs]; exact Nat.le_succ _))) hCc (fun p hp z => ?_), qn⟩
      have e := (I2.pin p hp).1
      exact absurd (Nat.lt_of_lt_of_le (Heap.lt_size e) (by rw [z, hGs]; exact Nat.le_succ _)) (Nat.lt_irrefl _)
    · refine thn (T.item (compCxO X scope N (cellsFrom (G.objs.size + 1) scope.names cl) G.objs.size fp s2 H2 (notedBy (model X.prog X.w) X.A (compEnvC scope (cellsFrom (G.objs.size + 1) scope.names cl) G.objs.size X.env) fun e s' => RR (.error e) s')) rfl rfl rfl hca i [] s3 (inner nt js σ) H3 _ J3 (stat fr3) st3 go) fun r s4 zr5624 => ?_
      obtain ⟨u, hr, h4⟩ := zr5624
      subst hr
      refine thn h4 fun _ s5 zr5626 => ?_
      obtain ⟨x, H5, I5, r5, y5, st5, fr5⟩ := zr5626
      have I5' := I5.pinned (stat fr5) (T.obj _ _ st5)
      have g5 := hgo x (inner nt js σ) H5 _ inner_none (step x H5 y5)
      refine thn (hg (cellsFrom (G.objs.size + 1) scope.names cl) G.objs.size fp s2 H2 _ _ s5 _ H5 x u _ I5' r5 g5) fun _ s6 zr5629 => ?_
      obtain ⟨σ6, H6, I6, wk6, q6⟩ := zr5629
      refine thn (hc (cellsFrom (G.objs.size + 1) scope.names cl) G.objs.size fp s2 H2 _ _ s6 σ6 H6 _ I6 q6) fun ok s7 zr5630 => ?_
      obtain ⟨H7, I7, q7⟩ := zr5630
      have again : ∀ {s8 : Shared} {H8 : Hp} {ys' : List V}, Inv (compCxO X scope N (cellsFrom (G.objs.size + 1) scope.names cl) G.objs.size fp s2 H2 (notedBy (model X.prog X.w) X.A (compEnvC scope (cellsFrom (G.objs.size + 1) scope.names cl) G.objs.size X.env) fun e s' => RR (.error e) s')) ([] ++ pinsAt fp s5.heap) σ6 H8 s8 → NN ys' H8 →
          ∃ m, m < n ∧ ∃ i ys H', Inv (compCxO X scope N (cellsFrom (G.objs.size + 1) scope.names cl) G.objs.size fp s2 H2 (notedBy (model X.prog X.w) X.A (compEnvC scope (cellsFrom (G.objs.size + 1) scope.names cl) G.objs.size X.env) fun e s' => RR (.error e) s')) [] (inner nt js σ) H' s8 ∧ tn i s8.heap ∧ (∀ b ∈ fp, H' b = none) ∧ W i m ys H' := fun {s8 H8 ys'} I8 n8 => by
        obtain ⟨m', hm, w8⟩ := hN ys' H8 n8
        refine ⟨m', hm, i + 1, ys', H8, (I8.unpinned).wk wk6, T.keep _ _ _ st5 fun b hb o e => (I8.pin (b, o) (List.mem_append_right _ (List.mem_append_right _ (mem_pinsAt hb e)))).1, fun b hb => ?_, w8⟩
        obtain ⟨o, e, d⟩ := T.obj _ _ st5 b hb
        exact (I8.pin (b, o) (List.mem_append_right _ (List.mem_append_right _ (mem_pinsAt hb e)))).2.1
      cases ok with
      | false =>
        rw [if_neg Bool.false_ne_true] at q7 ⊢
        exact again I7 q7
      | true =>
        rw [if_pos rfl] at q7 ⊢
        refine thn (he (cellsFrom (G.objs.size + 1) scope.names cl) G.objs.size fp s2 H2 _ _ s7 σ6 H7 _ I7 q7) fun y s8 zr5643 => ?_
        obtain ⟨yv, H8, I8, r8, hD8, hl8, q8⟩ := zr5643
        refine thn (mt_append (X := compCxO X scope N (cellsFrom (G.objs.size + 1) scope.names cl) G.objs.size fp s2 H2 (notedBy (model X.prog X.w) X.A (compEnvC scope (cellsFrom (G.objs.size + 1) scope.names cl) G.objs.size X.env) fun e s' => RR (.error e) s')) _ s8 σ6 H8 (.ref s2.heap.objs.size) [yv] (.ref s2.heap.objs.size) [y] (fun _ H9 => NN (ys ++ [yv]) H9) I8 rfl (.cons r8 .nil) ⟨_, ys, yv, rfl, rfl, hD8, hl8, q8⟩) fun v9 s9 zr5644 => ?_
        obtain ⟨x9, H9, I9, r9, q9⟩ := zr5644
        exact again I9 q9
  subst hRR
  exact codeAny_compStart_list (loop _ rfl) (T.self _ 0 _ _ _ (T.keep _ _ _ st2 fun b hb o e => kold b o e) (loop _ rfl))
noncomputable def compChkO (XN : List Str) (xs sn : List (Str × NameKind)) (N : List Str) (nt : Nat) (js : List Nat) : Bool :=
  decide N.Nodup && N.length == nt + js.length && (js.zip (N.drop nt)).all (fun p => XN[p.1]? == some p.2 && cellOrFree xs p.2) && (N.drop nt).all (fun x => sn.lookup x == some .free)
    && sn.all (fun y => y.2 != .cell || sn.lookup y.1 == some .cell) && sn.all (fun y => y.2 != .local || sn.lookup y.1 == some .local) && sn.all (fun y => y.2 != .free || cellOrFree xs y.1)
theorem compOkO_of {X : Cx} {scope : Scope} {N : List Str} {nt : Nat} {js : List Nat} (XN : List Str) (xs : List (Str × NameKind)) (hk : scope.kind = .function) (hN : X.N = XN) (hx : X.env.scope.names = xs)
    (h : compChkO XN xs scope.names N nt js = true) : CompOkO X scope N nt js := by
  subst hN hx
  unfold compChkO at h
  simp only [Bool.and_eq_true] at h
  obtain ⟨⟨⟨⟨⟨⟨h1, h2⟩, h3⟩, h4⟩, h5⟩, h6⟩, h7⟩ := h
  refine ⟨hk, of_decide_eq_true h1, by simpa using h2, fun k j x e1 e2 => ?_, fun k x e => ?_, fun y hy e => ?_, fun y hy e => ?_, fun y hy e => ?_⟩
  · have hm : (j, x) ∈ js.zip (N.drop nt) := by
      have e2' : (N.drop nt)[k]? = some x := by rw [List.getElem?_drop]; exact e2
      have : (js.zip (N.drop nt))[k]? = some (j, x) := by rw [List.getElem?_zip_eq_some]; exact ⟨e1, e2'⟩
      exact List.mem_of_getElem? this
    have q := List.all_eq_true.mp h3 _ hm
    rw [Bool.and_eq_true] at q
    exact ⟨by simpa using q.1, cellOrFree_iff q.2⟩
  · have hm : x ∈ N.drop nt := by
      have e2' : (N.drop nt)[k]? = some x := by rw [List.getElem?_drop]; exact e
      exact List.mem_of_getElem? e2'
    simpa using List.all_eq_true.mp h4 _ hm
  · have q := List.all_eq_true.mp h5 _ hy
    rw [e] at q
    simpa using q
  · have q := List.all_eq_true.mp h6 _ hy
    rw [e] at q
    simpa using q
  · have q := List.all_eq_true.mp h7 _ hy
    rw [e] at q
    exact cellOrFree_iff (by simpa using q)
end
end L2
set_option Elab.async false
set_option linter.all false
set_option maxRecDepth 100000
namespace PySem.W
open PySem PySem.Calls PyProof.Rows
noncomputable def PermR (n : Nat) (p : Array Nat) : Prop := p.toList.Perm (List.range n)
theorem PermR.lt {n : Nat} {p : Array Nat} (h : PermR n p) (hn : 0 < n) (i : Nat) : p.getD i 0 < n := by
  by_cases hi : i < p.size
  · have e : p.getD i 0 = p[i] := by simp [Array.getD, hi]
    rw [e]
    have : p[i] ∈ p.toList := by simp
    exact List.mem_range.mp (h.mem_iff.mp this)
  · have e : p.getD i 0 = 0 := by simp [Array.getD, hi]
    rw [e]; exact hn
theorem PermR.rev {n : Nat} {p : Array Nat} (h : PermR n p) (i j : Nat) : PermR n (kas_rev p i j) := (Array.perm_iff_toList_perm.mp (mirror_perm p i j _)).trans h
theorem PermR.bub {n : Nat} {p : Array Nat} (h : PermR n p) (i j : Nat) : PermR n (bubble p i j) := (Array.perm_iff_toList_perm.mp (bubble_perm p i j)).trans h
section
variable {n : Nat} (hn : 0 < n)
include hn
end
section
variable {prog : Program} {w : World} {A : Around} {E : Value → Shared → Prop} {s : Shared}
end
end PySem.W
namespace L2
open PySem PySem.Spec PyProof.Rows
noncomputable def Row3 (h : Heap) (a : Addr) : Prop := ∃ o x y z t1 t2 t3 n, h.get? a = some o ∧ o.cls = .type "tuple" ∧ o.data = .seq #[.str x t1, .str y t2, .int z t3] n
theorem Row3.keep {h h' : Heap} {a : Addr} (r : Row3 h a) (k : ∀ b o, h.get? b = some o → h'.get? b = some o) : Row3 h' a := by
  obtain ⟨o, x, y, z, t1, t2, t3, n, e, c, d⟩ := r
  exact ⟨o, x, y, z, t1, t2, t3, n, k _ _ e, c, d⟩
section
variable {X : Cx}
end
end L2
set_option Elab.async false
set_option linter.all false
set_option maxRecDepth 100000
namespace L2
open PySem PySem.Spec PyProof.Rows
section
variable {X : Cx}
noncomputable abbrev L3 := Str × Str × Int
noncomputable def l3V (x : L3) : List V := [.str x.1, .str x.2.1, .int x.2.2]
noncomputable def Rows3 (H : Hp) (vs : List V) (ls : List L3) : Prop := ∃ as : List (Addr × L3), vs = as.map (fun x => V.ref x.1) ∧ ls = as.map (·.2) ∧ ∀ x ∈ as, H x.1 = some (.tup (l3V x.2))
theorem Rows3.nil {H : Hp} : Rows3 H [] [] := ⟨[], rfl, rfl, fun x hx => by simp at hx⟩
theorem Rows3.keep {H H' : Hp} {vs : List V} {ls : List L3} (h : Rows3 H vs ls) (k : ∀ a xs, H a = some (.tup xs) → H' a = some (.tup xs)) : Rows3 H' vs ls := by
  obtain ⟨as, h1, h2, h3⟩ := h
  exact ⟨as, h1, h2, fun x hx => k _ _ (h3 x hx)⟩
end
end L2
set_option Elab.async false
set_option linter.all false
set_option maxRecDepth 100000
namespace L2
open PySem PySem.Spec PyProof.Rows
noncomputable def RisingT (t : SetTable) : Prop := t.place.toList.Pairwise (· < ·)
noncomputable def kOf (e : Int × Value) : Int := match e.2 with | .int i _ => i | _ => 0
noncomputable def SetW (w : World) (a : Addr) (L : List Int) (h : Heap) : Prop := ∃ o es ep t, h.get? a = some o ∧ o.ExactSet ∧ o.data = .set es ep t ∧ (∀ e ∈ es.toList, ∃ i tk, e = (hashInt i, Value.int i tk)) ∧ (es.toList.map kOf).Perm L ∧
  es.size < scanBound ∧ t.fits es.size = true ∧ RisingT t ∧ t.led = !w.params.followText "set-order"
section
variable {prog : Program} {w : World} {A : Around} {E : Value → Shared → Prop} {s : Shared}
end
theorem SetW.keep {w : World} {a : Addr} {L : List Int} {h h' : Heap} (x : SetW w a L h) (k : ∀ o, h.get? a = some o → h'.get? a = some o) : SetW w a L h' := by
  obtain ⟨o, es, ep, t, ho, r⟩ := x
  exact ⟨o, es, ep, t, k o ho, r⟩
section
variable {prog : Program} {w : World} {A : Around} {R : Result → Shared → Prop} {I : Addr} {fp wr : List Addr} {G : Array GenState → Array GenState → Prop} {n : Nat} {P : Nat → Value → Prop} {St : Nat → Shared → Prop}
end
end L2
namespace PySem
open L2 PyProof.Rows
section
variable {prog : Program} {w : World} {A : Around} {E : Value → Shared → Prop} {s : Shared}
end
end PySem
set_option Elab.async false
set_option linter.all false
set_option maxRecDepth 100000
namespace PySem
open L2 PyProof.Rows PySem.Calls
section
variable {prog : Program} {w : World} {A : Around} {E : Value → Shared → Prop} {s : Shared} {a : Addr} {o : Obj} {es : Array (Int × Value)} {ep : Nat} {t : SetTable}
noncomputable def SetIt (h : Heap) (I : Addr) (f : Value) (i : Nat) (a : Addr) (n ep : Nat) : Prop := ∃ o, h.get? I = some o ∧ o.cls = .type "set_iterator" ∧ o.data = .fields #[f, .int i 0, .ref a, .int n 0, .int ep 0]
end
end PySem
set_option Elab.async false
set_option linter.all false
set_option maxRecDepth 100000
namespace PySem
open L2 PyProof.Rows PySem.Calls
section
variable {prog : Program} {w : World} {A : Around} {E : Value → Shared → Prop} {s : Shared} {a : Addr} {o : Obj} {es : Array (Int × Value)} {ep : Nat} {t : SetTable}
theorem SetIt.keep {h h' : Heap} {I : Addr} {f : Value} {i n : Nat} (x : SetIt h I f i a n ep) (k : ∀ o, h.get? I = some o → h'.get? I = some o) : SetIt h' I f i a n ep := let ⟨o, ho, r⟩ := x; ⟨o, k o ho, r⟩
end
end PySem
set_option Elab.async false
set_option linter.all false
set_option maxRecDepth 100000
namespace PySem
open L2 PyProof.Rows PySem.Calls
section
variable {prog : Program} {w : World} {A : Around} {E : Value → Shared → Prop} {s : Shared} {a : Addr} {o : Obj} {es : Array (Int × Value)} {ep : Nat} {t : SetTable} {L : List Int}
end
end PySem
namespace L2
open PySem PySem.Spec PyProof.Rows
section
variable {X : Cx}
variable {e : Expr} {te : TE} {tk : TO} {stp : Expr} {p2 pos : Pos}
end
end L2
set_option Elab.async false
set_option linter.all false
set_option maxRecDepth 100000
namespace PySem
open L2 PyProof.Rows PySem.Calls
section
variable {prog : Program} {w : World} {A : Around} {E : Value → Shared → Prop} {s : Shared}
noncomputable def hashNone : Int := 0xFCA86420
theorem pyHash_none {Q : Int → Shared → Prop} (h : Q hashNone { s with toks := s.toks + 1 }) : wpAny (model prog w) A (pyHash .none) Q E s := by
  have hT : s.TypeIs Value.none "NoneType" := rfl
  show wpAny _ _ (pyHashByItsType .none) Q E s
  unfold pyHashByItsType
  refine wpAny_bind ?_
  rw [cRoomFor, if_neg (by rw [show [Value.none].any Value.onHeap = false from rfl]; exact Bool.false_ne_true)]
  refine wpAny_pure (wpAny_bind (wpAny_specialOf hT PySem.F.slot_NoneType_hash.lookup ?_))
  refine wpAny_ite_split (fun z => by cases z) fun _ => ?_
  refine wpAny_bind (wpAny_specialOf hT PySem.F.slot_NoneType_hash.lookup ?_)
  refine wpAny_ite_split (fun z => by cases z) fun _ => ?_
  refine wpAny_bind (wpAny_callSpecialIfBoundUnlessNone?_slot hT PySem.F.slot_NoneType_hash (wpAny_call_entry PySem.F.slot_NoneType_hash hT PySem.F.entry_NoneType_hash (show wpAny _ _ (do ret (← mkInt hashNone)) _ _ s from wpAny_ret_mkInt ?_) (PySem.F.args_NoneType_hash_1 _)))
  show wpAny _ _ (if (decide (-(2 : Int) ^ 63 ≤ hashNone) && decide (hashNone < 2 ^ 63)) = true then _ else _) Q E _
  rw [if_pos (by decide)]
  exact wpAny_pure h
theorem eqBool_none {Q : Bool → Shared → Prop} (h : Q true s) : wpAny (model prog w) A (eqBool .none .none) Q E s := by
  unfold eqBool
  refine wpAny_holding ?_
  rw [if_pos (by decide)]
  exact wpAny_bind (wpAny_rule (wpAny_pure h))
noncomputable def optIs : Option Int → Value → Bool
  | none, .none => true
  | some i, v => v.isInt i
  | _, _ => false
theorem optIs_shape {k : Option Int} {v : Value} (h : optIs k v = true) : (k = none ∧ v = .none) ∨ ∃ i t, k = some i ∧ v = .int i t := by
  cases k with
  | none => cases v <;> first | exact .inl ⟨rfl, rfl⟩ | cases h
  | some i =>
    obtain ⟨t, e⟩ := Value.isInt_shape (show Value.isInt i v = true by cases v <;> first | exact h | cases h)
    exact .inr ⟨i, t, rfl, e⟩
theorem optEq {a b : Option Int} {u v : Value} {Q : Bool → Shared → Prop} (hu : optIs a u = true) (hv : optIs b v = true) (h : Q (decide (a = b)) s) : wpAny (model prog w) A (eqBool u v) Q E s := by
  rcases optIs_shape hu with ⟨rfl, rfl⟩ | ⟨i, t, rfl, rfl⟩
  · rcases optIs_shape hv with ⟨rfl, rfl⟩ | ⟨j, u, rfl, rfl⟩
    · exact eqBool_none (by simpa using h)
    · exact SeqAt.EqAt.none_int j u _ _ _ _ (by simpa using h)
  · rcases optIs_shape hv with ⟨rfl, rfl⟩ | ⟨j, u, rfl, rfl⟩
    · exact SeqAt.EqAt.int_none i t _ _ _ _ (by simpa using h)
    · refine wpAny_eqBool_int ?_
      have e : (i == j) = decide (some i = some j) := by rw [Bool.eq_iff_iff]; simp
      rw [e]
      exact h
noncomputable def optH : Option Int → Int | none => hashNone | some i => hashInt i
noncomputable def optKind (prog : Program) (w : World) : KeyKind prog w (Option Int) where
  is := optIs
  hash := optH
  inj := fun v a b ha hb => by
    rcases optIs_shape ha with ⟨rfl, rfl⟩ | ⟨i, t, rfl, rfl⟩
    · rcases optIs_shape hb with ⟨rfl, _⟩ | ⟨j, u, rfl, e⟩
      · rfl
      · cases e
    · rcases optIs_shape hb with ⟨rfl, e⟩ | ⟨j, u, rfl, e⟩
      · cases e
      · cases e; rfl
  byValue := fun k v h => by
    rcases optIs_shape h with ⟨rfl, rfl⟩ | ⟨i, t, rfl, rfl⟩ <;> rfl
  pyHash := fun hv h => by
    rcases optIs_shape hv with ⟨rfl, rfl⟩ | ⟨i, t, rfl, rfl⟩
    · exact pyHash_none h
    · exact wpAny_pyHash_int h
  eqBool := fun hu hv h => optEq hu hv h
  «strs» := fun k x t v h => absurd (optIs_shape h) (fun z => z.elim (fun z => nomatch z.2) fun zq31 => by obtain ⟨_, _, _, e⟩ := zq31; exact (nomatch e))
end
end PySem
set_option Elab.async false
set_option linter.all false
set_option maxRecDepth 100000
namespace L2
open PySem PySem.Spec PyProof.Rows
noncomputable def trues (ks : List (Option Int)) : List (Option Int × Value) := ks.map fun k => (k, Value.bool true)
noncomputable def NDict (P : Program) (w : World) (a : Addr) (o : Obj) (ks : List (Option Int)) (h : Heap) : Prop := h.get? a = some o ∧ (a == sysModules) = false ∧ ks.length ≤ 1000 ∧ h.DictOf (optKind P w) a (trues ks)
noncomputable def DictN (P : Program) (w : World) (a : Addr) (o : Obj) (ks : List (Option Int)) : HO := .ext (NDict P w a o ks)
section
variable {P : Program} {w : World} {H : Hp} {h : Heap} {a : Addr} {o : Obj} {ks : List (Option Int)}
theorem NDict.ok (x : NDict P w a o ks h) : ObjOk P w H h a (DictN P w a o ks) :=
  ⟨x, ⟨o, x.1⟩, fun h1 h2 z k => ⟨k _ z.1, z.2.1, z.2.2.1, z.2.2.2.at k⟩⟩
end
section
variable {X : Cx} {oe ie : Expr} {value : Expr} {pos pos' : Pos} {td ty tv : TE}
end
end L2
set_option Elab.async false
set_option linter.all false
set_option maxRecDepth 100000
namespace L2
open PySem PySem.Spec PyProof.Rows
section
variable {X : Cx} {pins : List (Addr × Obj)} {σ : St} {H : Hp} {s : Shared} {a b : Addr} {A : Around} {E : Value → Shared → Prop}
end
noncomputable def getO (ps : List (Int × Int × Int)) : Option Int → Int → Option Int
  | none, _ => none
  | some s, v => (ps.find? fun x => decide (x.1 = s ∧ x.2.1 = v)).map fun x => x.2.2
end L2
namespace L2
open PySem PySem.Spec PyProof.Rows
section
variable {X : Cx} {P : Program} {w : World} {oe ie value e l tg : Expr} {pos pos' : Pos} {td ty tv te tl : TE}
end
end L2
namespace L2
open PySem PySem.Spec PyProof.Rows
theorem op_eqDK {X : Cx} {K : PySem.W.Frag} (hK : X.K = K) (hu : X.A.units + 100 < cLine) : OpR X (compareOp .Eq) (rEqD K) := by
  subst hK
  exact op_eqD hu
end L2
set_option Elab.async false
set_option linter.all false
set_option maxRecDepth 100000
namespace L2
open PySem PySem.Spec PyProof.Rows
section
variable {X : Cx} {K : PySem.W.Frag}
end
end L2
set_option Elab.async false
set_option linter.all false
set_option maxRecDepth 100000
namespace PySem
section
variable {prog : Program} {w : World} {K : Type} [DecidableEq K] {knd : HeapKind prog w K} {A : Around} {E : Value → Shared → Prop} {s : Shared} {d a : Addr} {k : K} {xs : List (K × Addr × Value)}
end
section
variable {prog : Program} {w : World} {K : Type} [DecidableEq K] (knd : HeapKind prog w K) (d a : Addr)
end
end PySem
namespace L2
open PySem PySem.Spec PyProof.Rows
section
variable {X : Cx} {pins : List (Addr × Obj)} {σ : St} {H : Hp} {s : Shared} {a b : Addr} {kvs : List (List Key × V)} {k : List Key} {z : V} {r : Value} {A : Around} {E : Value → Shared → Prop}
end
section
variable {X : Cx} {o e f : Expr} {apos cpos : Pos} {td ty tx : TE}
end
end L2
set_option Elab.async false
set_option linter.all false
set_option maxRecDepth 100000
namespace L2
open PySem PySem.Spec PyProof.Rows
end L2
namespace PySem.SeqAt
open AutoSeq1 (wpAny_loadPart')
open MeetsSeq MeetsSeq2 MeetsSeq3 SeqRoads2
end PySem.SeqAt
namespace L2
open PySem PySem.Spec PyProof.Rows
end L2
namespace L2
open PySem PySem.Spec PyProof.Rows
end L2
set_option Elab.async false
set_option linter.all false
set_option maxRecDepth 100000
namespace PySem
open L2 PyProof.Rows PySem.Calls
section
variable {prog : Program} {w : World} {A : Around} {E : Value → Shared → Prop} {s : Shared} {K : Type} [DecidableEq K] {knd : KeyKind prog w K} {d : Addr} {kvs : List (K × Value)} {ep : Nat}
end
end PySem
namespace L2
open PySem PySem.Spec PyProof.Rows
section
variable {X : Cx}
end
end L2
set_option Elab.async false
set_option linter.all false
set_option maxRecDepth 100000
namespace L2
open PySem PySem.Spec PyProof.Rows
section
variable {X : Cx}
end
end L2
set_option Elab.async false
set_option linter.all false
set_option maxRecDepth 100000
namespace PySem.W
open PySem PySem.Spec PyProof.Rows
section
variable {prog : Program} {w : World} {A : Around} {E : Value → Shared → Prop} {s : Shared}
end
end PySem.W
namespace L2
open PySem PySem.Spec PyProof.Rows
section
variable {X : Cx}
end
end L2
set_option Elab.async false
set_option linter.all false
set_option maxRecDepth 100000
namespace PyProof.Rows
open PySem PySem.Spec
section
variable {prog : Program} {w : World} {A : Around} {E : Value → Shared → Prop} {s : Shared}
end
end PyProof.Rows
namespace L2
open PySem PySem.Spec PyProof.Rows
section
variable {X : Cx} {pos : Pos}
end
end L2
set_option Elab.async false
set_option linter.all false
set_option maxRecDepth 100000
namespace L2
open PySem PySem.Spec PyProof.Rows
noncomputable def tVarM (i : Nat) : TE := fun σ H Q => match σ[i]? with | some (some v) => Q v H | _ => False
theorem tVarM_of {i : Nat} {σ : St} {H : Hp} {Q : VK} (h : tVarM i σ H Q) : tVar i σ H Q := by
  unfold tVarM at h
  split at h
  · exact ⟨_, by assumption, h⟩
  · exact h.elim
theorem pvM {X : Cx} (i : Nat) {x : Str} {pos : Pos} (hN : X.N[i]? = some x := by rfl) (hv : Vis X.env.scope x := by first | exact Or.inl rfl | exact Or.inr (Or.inl rfl) | exact Or.inr (Or.inr rfl)) (hd : (x == ("__debug__" : Str)) = false := by decide)
    (hcd : (x == ("__classdict__" : Str)) = false := by decide) : PE X (.Name x pos) (tVarM i) := fun pins s σ H Q I h => pe_var hN hv hd hcd pins s σ H Q I (tVarM_of h)
end L2
set_option Elab.async false
set_option linter.all false
set_option maxRecDepth 100000
set_option maxHeartbeats 4000000
namespace PySem
open Sem (wp)
section
variable {prog : Program} {w : World} {A : Around} {E : Value → Shared → Prop} {s : Shared} {a : Addr} {o : Obj} {xs : Array Value} {k : Nat} {name : Str} {Q : Option Value → Shared → Prop}
end
namespace F
end F
section
variable {prog : Program} {w : World} {K : Type} [DecidableEq K] {knd : KeyKind prog w K} {A : Around} {R : Result → Shared → Prop} {I : Addr} {fp wr : List Addr} {G : Array GenState → Array GenState → Prop} {n : Nat} {P : Nat → Value → Prop} {St : Nat → Shared → Prop}
end
end PySem
namespace L2
open PySem PySem.Spec PyProof.Rows
section
variable {X : Cx} {k : Nat} {ps : List Str} {x : Str} {p p1 pos : Pos} {e b : Expr} {es : List Expr} {tb : TE} {t : TA} {a : Addr}
end
section
variable {X : Cx}
noncomputable def ZTup (H : Hp) (p : Addr) (ys : List V) : Prop := ∃ o : Obj, o.dict = none ∧ H p = some (.frz o (.tup ys))
theorem ZTup.keep {H H' : Hp} {p : Addr} {ys : List V} (h : ZTup H p ys) (k : ∀ o u, H p = some (.frz o u) → H' p = some (.frz o u)) : ZTup H' p ys := by
  obtain ⟨o, d, h⟩ := h
  exact ⟨o, d, k _ _ h⟩
noncomputable def PrsAt (H : Hp) (ys : List V) (prs : List (Key × V)) : Prop := ∃ as : List (Addr × Key × V), ys = as.map (fun x => V.ref x.1) ∧ as.map (·.2) = prs ∧ ∀ x ∈ as, H x.1 = some (.tup [kV x.2.1, x.2.2])
theorem PrsAt.keep {H H' : Hp} {ys : List V} {prs : List (Key × V)} (h : PrsAt H ys prs) (k : ∀ a xs, H a = some (.tup xs) → H' a = some (.tup xs)) : PrsAt H' ys prs := by
  obtain ⟨as, h1, h2, h3⟩ := h
  exact ⟨as, h1, h2, fun x hx => k _ _ (h3 x hx)⟩
end
end L2
set_option Elab.async false
set_option linter.all false
set_option maxRecDepth 100000
namespace L2
open PySem PySem.Spec PyProof.Rows
section
variable {X : Cx}
end
end L2
set_option Elab.async false
set_option linter.all false
set_option maxRecDepth 100000
set_option maxHeartbeats 4000000
namespace PySem
end PySem
namespace L2
open PySem PySem.Spec PyProof.Rows
section
variable {X : Cx}
end
end L2
set_option Elab.async false
set_option linter.all false
set_option maxRecDepth 100000
namespace PySem
open Sem (wp)
open AutoSeq1 (wpAny_loadPart')
section
variable {prog : Program} {w : World} {A : Around} {E : Value → Shared → Prop} {s : Shared}
theorem collect_range {Q : List Value → Shared → Prop} {r : Addr} {a b c : Int} {t u v : Tok} {n : Nat} (hh : A.handled = none) (hr : IsRange s.heap r a b c t u v) (hsmall : Builtin.Range.small a b c = true)
    (hn : Builtin.Range.rangeSize a b c = n) (hlen : n ≤ 2 ^ 24)
    (hQ : ∀ h' tk (acc : Array Value), (∀ b o, s.heap.get? b = some o → h'.get? b = some o) → s.heap.objs.size < h'.objs.size → ItemsOf (fun i v => ∃ t, v = .int (a + i * c) t) acc n → Q acc.toList { s with heap := h', toks := tk }) :
    wpAny (model prog w) A (collect (.ref r)) Q E s := by
  unfold collect
  refine wpAny_bind (wpAny_runValue (codeAny_builtin F.entry_proto_collect ?_))
  rw [Around.under_plainId F.plain_proto_collect _]
  show wpAny _ A.in1 (newList [] >>= fun l => again (.builtin "list.__iadd__" ⟨[l, .ref r], []⟩)) _ _ s
  refine wpAny_bind (wpAny_newObj_type ?_)
  refine wpAny_pure ⟨plainId_quiet F.plain_list_iadd _, codeAny_builtin F.entry_list_iadd ?_⟩
  rw [Around.under_plainId F.plain_list_iadd _]
  show wpAny _ A.in1 (Builtin.List.listExtendWith (.ref s.heap.objs.size) (.ref r) (.ref s.heap.objs.size)) _ _ _
  have hS : (s.heap.push { cls := .type "list", data := .seq ([] : List Value).toArray }).get? s.heap.objs.size = some { cls := .type "list", data := .seq #[] 0 } := Heap.get?_push_size _ rfl
  have fin' : ∀ (s' : Shared), (∃ h' tk acc' c', s' = { s with heap := h', toks := tk } ∧ (∀ b o, s.heap.get? b = some o → h'.get? b = some o) ∧ h'.get? s.heap.objs.size = some { cls := .type "list", dict := none, data := .seq acc' c', slots := #[] } ∧ ItemsOf (fun i v => ∃ t, v = .int (a + i * c) t) acc' n) →
      wpAny (model prog w) A (match Value.ref s.heap.objs.size with
      | Value.ref a => do
        match (← load a).data with
          | Data.seq xs _ => pure xs.toList
          | _ => unsupported "internal:collect"
      | _ => unsupported "internal:collect") Q E s' := by
    rintro s' ⟨h', tk, acc', c', rfl, hk, hS', hacc⟩
    show wpAny _ A (load s.heap.objs.size >>= _) _ _ _
    refine wpAny_bind (wpAny_load hS' ?_)
    exact wpAny_pure (hQ h' tk acc' hk (Heap.lt_size hS') hacc)
  refine wpAny_mono (wpAny_extend_range (A := A) (R := fun x s' => x = .ok (.ret (.ref s.heap.objs.size)) ∧ ∃ h' tk acc' c', s' = { s with heap := h', toks := tk } ∧ (∀ b o, s.heap.get? b = some o → h'.get? b = some o) ∧ h'.get? s.heap.objs.size = some { cls := .type "list", dict := none, data := .seq acc' c', slots := #[] } ∧ ItemsOf (fun i v => ∃ t, v = .int (a + i * c) t) acc' n)
    (s := { s with heap := s.heap.push { cls := .type "list", data := .seq ([] : List Value).toArray } }) hh (Heap.get?_push_of_some _ hr) hsmall hn hlen _ _ 0 hS fun h' tk acc' c' hk hS' hacc => ⟨rfl, h', tk, acc', c', rfl, fun b o e => hk b o (Nat.ne_of_lt (Heap.lt_size e)) (Heap.get?_push_of_some _ e), hS', hacc⟩) (fun fin s' h => ?_) (fun e s' h => ?_)
  · cases fin with
    | done f =>
      obtain ⟨e, q⟩ := h
      cases e
      exact fin' _ q
    | again c' => exact ⟨h.1, codeAny_mono h.2 fun r s'' hr => by obtain ⟨rfl, q⟩ := hr; exact fin' _ q⟩
  · exact absurd h.1 (by simp)
end
section
variable {prog : Program} {w : World} {A : Around} {E : Value → Shared → Prop} {s : Shared}
end
end PySem
namespace L2
open PySem PySem.Spec PyProof.Rows
theorem vals_rng {n : Nat} {acc : Array Value} (h : ItemsOf (fun i v => ∃ t, v = Value.int (0 + i * 1) t) acc n) : Vals (rngV 0 n) acc.toList := by
  have key : ∀ (k : Nat) (us : List Value), (∀ (j : Nat) v, us[j]? = some v → ∃ t, v = Value.int ((k : Int) + j) t) → Vals ((List.range' k us.length).map fun i : Nat => V.int (0 + (i : Int))) us := by
    intro k us
    induction us generalizing k with
    | nil => intro _; exact .nil
    | cons u us ih =>
      intro hu
      rw [List.length_cons, List.range'_succ, List.map_cons]
      refine .cons ?_ (ih (k + 1) fun j v e => ?_)
      · obtain ⟨t, rfl⟩ := hu 0 u rfl
        exact ⟨t, by simp⟩
      · obtain ⟨t, rfl⟩ := hu (j + 1) v (by simpa using e)
        exact ⟨t, by congr 1; push_cast; omega⟩
  have := key 0 acc.toList fun j v e => by
    obtain ⟨t, rfl⟩ := h.2 j v (by simpa using e)
    exact ⟨t, by simp⟩
  rw [Array.length_toList, h.1, ← List.range_eq_range'] at this
  exact this
section
variable {X : Cx} {e1 : Expr} {ta : TA} {p p2 pos pos2 : Pos}
end
end L2
set_option Elab.async false
set_option linter.all false
set_option maxRecDepth 100000
namespace PySem
open AutoSeq1
end PySem
namespace L2
open PySem PySem.Spec PyProof.Rows
section
variable {X : Cx}
end
end L2
set_option Elab.async false
set_option linter.all false
set_option maxRecDepth 100000
namespace PySem
open AutoSeq1 (wpAny_loadPart')
end PySem
namespace L2
open PySem PySem.Spec PyProof.Rows
section
variable {X : Cx}
end
end L2
namespace HT
open PySem PySem.Spec PyProof.Rows L2
section
variable {prog : Program} {w : World} {A : Around} {E : Value → Shared → Prop} {s : Shared}
end
end HT
namespace L2
open PySem PySem.Spec PyProof.Rows
section
variable {X : Cx} {e : Expr} {te : TE} {tk : TO} {stp : Expr} {p2 pos : Pos}
end
end L2
set_option Elab.async false
set_option linter.all false
set_option maxRecDepth 100000
namespace PySem.SeqAt
open AutoSeq1 (wpAny_loadPart')
open MeetsSeq MeetsSeq2 MeetsSeq3 SeqRoads2
end PySem.SeqAt
namespace L2
open PySem PySem.Spec PyProof.Rows
section
variable {X : Cx}
end
end L2
set_option Elab.async false
set_option linter.all false
set_option maxRecDepth 100000
namespace PySem.W
open PySem PySem.Calls PyProof.Rows
noncomputable def KasT.Tru {α : Type} (n : Nat) (lt : Nat → Nat → Bool) (P : α → Prop) : KasT α → Prop
  | .ret a => P a
  | .ask i j k => i < n ∧ j < n ∧ (k (lt i j)).Tru n lt P
theorem KasT.Tru.bind {α β : Type} {n : Nat} {lt : Nat → Nat → Bool} {P : α → Prop} {R : β → Prop} {f : α → KasT β} : ∀ {t : KasT α}, t.Tru n lt P → (∀ a, P a → (f a).Tru n lt R) → (t.bind f).Tru n lt R
  | .ret a, h, hf => hf a h
  | .ask i j k, h, hf => ⟨h.1, h.2.1, KasT.Tru.bind h.2.2 hf⟩
theorem KasT.Tru.wp {α : Type} {n : Nat} {lt : Nat → Nat → Bool} {P : α → Prop} {Q : α → Shared → Prop} {s : Shared} {cmp : Nat → Nat → (Bool → Shared → Prop) → Shared → Prop}
    (hc : ∀ i j C, i < n → j < n → C (lt i j) s → cmp i j C s) (hq : ∀ a, P a → Q a s) : ∀ {t : KasT α}, t.Tru n lt P → t.kasWp cmp Q s
  | .ret a, h => hq a h
  | .ask i j k, h => hc i j _ h.1 h.2.1 (KasT.Tru.wp hc hq h.2.2)
structure Ord (lt : Nat → Nat → Bool) : Prop where
  asym : ∀ {a b}, lt a b = true → lt b a = false
  neg : ∀ {a b c}, lt b a = false → lt c b = false → lt c a = false
theorem Ord.irr {lt : Nat → Nat → Bool} (O : Ord lt) (a : Nat) : lt a a = false := by
  cases h : lt a a with
  | false => rfl
  | true => exact absurd (h.symm.trans (O.asym h)) (by decide)
noncomputable def Srt (lt : Nat → Nat → Bool) (p : Array Nat) (m : Nat) : Prop := ∀ i j, i < j → j < m → lt (p.getD j 0) (p.getD i 0) = false
noncomputable def Dsc (lt : Nat → Nat → Bool) (p : Array Nat) (m : Nat) : Prop := ∀ i j, i < j → j < m → lt (p.getD i 0) (p.getD j 0) = false
noncomputable def Evn (lt : Nat → Nat → Bool) (p : Array Nat) (l m : Nat) : Prop := ∀ i j, l ≤ i → i < m → l ≤ j → j < m → lt (p.getD i 0) (p.getD j 0) = false
theorem rev_at {p : Array Nat} {i j : Nat} (hj : j ≤ p.size) (k : Nat) : (kas_rev p i j).getD k 0 = if i ≤ k ∧ k < j then p.getD (i + j - 1 - k) 0 else p.getD k 0 := by
  have e := getElem?_mirror_all (xs := p) (i := i) hj k
  unfold kas_rev
  rw [Array.getD_eq_getD_getElem?, e, Array.getD_eq_getD_getElem?, Array.getD_eq_getD_getElem?]
  split <;> rfl
theorem bub_at {p : Array Nat} {src d : Nat} (hs : src < p.size) (hd : d ≤ src) (k : Nat) : (bubble p src d).getD k 0 = if k = src - d then p.getD src 0 else if src - d < k ∧ k ≤ src then p.getD (k - 1) 0 else p.getD k 0 := by
  have e := getElem?_bubble hs d hd k
  rw [Array.getD_eq_getD_getElem?, e, Array.getD_eq_getD_getElem?, Array.getD_eq_getD_getElem?, Array.getD_eq_getD_getElem?]
  split
  · rfl
  · split <;> rfl
theorem PermR.size {n : Nat} {p : Array Nat} (h : PermR n p) : p.size = n := by
  have := h.length_eq
  simpa using this
section
variable {n : Nat} {lt : Nat → Nat → Bool} (hn : 0 < n) (O : Ord lt)
include hn O
theorem kas_asc_tru {p : Array Nat} (h : PermR n p) : ∀ (f m : Nat), 1 ≤ m → Srt lt p m → (kas_asc p f m).Tru n lt fun r => Srt lt p r ∧ m ≤ r ∧ r ≤ m + f ∧ (r = m + f ∨ lt (p.getD r 0) (p.getD (r - 1) 0) = true)
  | 0, m, h1, hs => ⟨hs, Nat.le_refl _, Nat.le_refl _, .inl rfl⟩
  | f + 1, m, h1, hs => by
    refine ⟨h.lt hn _, h.lt hn _, ?_⟩
    cases c : lt (p.getD m 0) (p.getD (m - 1) 0) with
    | true =>
      simp only [if_true]
      exact ⟨hs, Nat.le_refl _, by omega, .inr c⟩
    | false =>
      simp only [Bool.false_eq_true, if_false]
      have hs' : Srt lt p (m + 1) := fun i j hij hj => by
        by_cases hjm : j < m
        · exact hs i j hij hjm
        · have ej : j = m := by omega
          subst ej
          by_cases hi : i = j - 1
          · rw [hi]; exact c
          · exact O.neg (hs i (j - 1) (by omega) (by omega)) c
      have ih := kas_asc_tru h f (m + 1) (by omega) hs'
      have mono : ∀ {t : KasT Nat} {P R : Nat → Prop}, t.Tru n lt P → (∀ a, P a → R a) → t.Tru n lt R := by
        intro t
        induction t with
        | ret a => intro P R x y; exact y a x
        | ask i j k ih => intro P R x y; exact ⟨x.1, x.2.1, ih _ x.2.2 y⟩
      exact mono ih fun r zq32 => by obtain ⟨a, b, c, d⟩ := zq32; exact (⟨a, by omega, by omega, by rcases d with d | d; exact .inl (by omega); exact .inr d⟩)
theorem dsc_rev {p : Array Nat} {l m : Nat} (h : PermR n p) (hm : m ≤ n) (hd : Dsc lt p m) (he : Evn lt p l m) : Dsc lt (kas_rev p l m) m ∧ ∀ k, m ≤ k → (kas_rev p l m).getD k 0 = p.getD k 0 := by
  have hz := h.size
  refine ⟨fun i j hij hj => ?_, fun k hk => by rw [rev_at (by omega), if_neg (by omega)]⟩
  rw [rev_at (by omega), rev_at (by omega)]
  by_cases a : l ≤ i ∧ i < m
  · rw [if_pos a]
    have b : l ≤ j ∧ j < m := ⟨by omega, hj⟩
    rw [if_pos b]
    exact he _ _ (by omega) (by omega) (by omega) (by omega)
  · rw [if_neg a]
    by_cases b : l ≤ j ∧ j < m
    · rw [if_pos b]
      exact hd _ _ (by omega) (by omega)
    · rw [if_neg b]
      exact hd _ _ hij hj
theorem dsc_step {p : Array Nat} {m : Nat} (hd : Dsc lt p m) (hl : ∀ i, i < m → lt (p.getD i 0) (p.getD m 0) = false) : Dsc lt p (m + 1) := fun i j hij hj => by
  by_cases hjm : j < m
  · exact hd i j hij hjm
  · have : j = m := by omega
    subst this
    exact hl i hij
theorem dsc_last {p : Array Nat} {m : Nat} (h1 : 1 ≤ m) (hd : Dsc lt p m) (c : lt (p.getD (m - 1) 0) (p.getD m 0) = false) : Dsc lt p (m + 1) := dsc_step hn O hd fun i hi => by
  by_cases e : i = m - 1
  · rw [e]; exact c
  · exact O.neg c (hd i (m - 1) (by omega) (by omega))
theorem kas_desc_tru : ∀ (f : Nat) (p : Array Nat) (m q : Nat), PermR n p → q + 1 ≤ m → m + f ≤ n → Dsc lt p m → Evn lt p (m - (q + 1)) m →
    (kas_desc f p m q).Tru n lt fun r => PermR n r.1 ∧ r.2.2 + 1 ≤ r.2.1 ∧ r.2.1 ≤ n ∧ Dsc lt r.1 r.2.1 ∧ Evn lt r.1 (r.2.1 - (r.2.2 + 1)) r.2.1
  | 0, p, m, q, h, h1, h2, hd, he => ⟨h, h1, by simpa using h2, hd, he⟩
  | f + 1, p, m, q, h, h1, h2, hd, he => by
    refine ⟨h.lt hn _, h.lt hn _, ?_⟩
    have one : ∀ p' : Array Nat, Evn lt p' (m + 1 - (0 + 1)) (m + 1) := fun p' i j a b c d => by
      have e1 : i = m := by omega
      have e2 : j = m := by omega
      rw [e1, e2]; exact O.irr _
    cases c : lt (p.getD m 0) (p.getD (m - 1) 0) with
    | true =>
      simp only [if_true]
      split
      · obtain ⟨d1, k1⟩ := dsc_rev hn O h (by omega) hd he
        refine kas_desc_tru f _ _ _ (h.rev _ _) (by omega) (by omega) (dsc_last hn O (by omega) d1 ?_) (one _)
        rw [k1 m (Nat.le_refl _)]
        rw [rev_at (by rw [h.size]; omega), if_pos (by omega)]
        have e1 := he (m - 1) (m - (q + 1) + m - 1 - (m - 1)) (by omega) (by omega) (by omega) (by omega)
        exact O.neg (O.asym c) (he _ (m - 1) (by omega) (by omega) (by omega) (by omega))
      · exact kas_desc_tru f _ _ _ h (by omega) (by omega) (dsc_last hn O (by omega) hd (O.asym c)) (one _)
    | false =>
      simp only [Bool.false_eq_true, if_false]
      refine ⟨h.lt hn _, h.lt hn _, ?_⟩
      cases d : lt (p.getD (m - 1) 0) (p.getD m 0) with
      | true => simp only [if_true]; exact ⟨h, h1, by show m ≤ n; omega, hd, he⟩
      | false =>
        simp only [Bool.false_eq_true, if_false]
        refine kas_desc_tru f _ _ _ h (by omega) (by omega) (dsc_last hn O (by omega) hd d) fun i j a b a' b' => ?_
        by_cases hi : i < m
        · by_cases hj : j < m
          · exact he i j (by omega) hi (by omega) hj
          · have ej : j = m := by omega
            subst ej
            exact O.neg d (he i (j - 1) (by omega) hi (by omega) (by omega))
        · have ei : i = m := by omega
          subst ei
          by_cases hj : j < i
          · exact O.neg (he (i - 1) j (by omega) (by omega) (by omega) hj) c
          · have ej : j = i := by omega
            rw [ej]; exact O.irr _
theorem kas_tail3_tru {p : Array Nat} {m : Nat} (h : PermR n p) (h1 : 1 ≤ m) (h2 : m ≤ n) (hd : Dsc lt p m) : (kas_tail3 m n p).Tru n lt fun r => PermR n r.2 ∧ Srt lt r.2 r.1 ∧ r.1 ≤ n ∧ 1 ≤ r.1 := by
  refine (kas_asc_tru hn O (h.rev 0 m) _ _ h1 fun i j hij hj => ?_).bind fun r zq33 => by obtain ⟨a, b, c, _⟩ := zq33; exact (⟨h.rev 0 m, a, by omega, by show 1 ≤ r; omega⟩)
  rw [rev_at (by rw [h.size]; omega), rev_at (by rw [h.size]; omega), if_pos (by omega), if_pos (by omega)]
  exact hd _ _ (by omega) (by omega)
theorem kas_descPart_tru {p : Array Nat} {m : Nat} (h : PermR n p) (h1 : 1 ≤ m) (h2 : m < n) (hd : Dsc lt p (m + 1)) : (kas_descPart m n p).Tru n lt fun r => PermR n r.2 ∧ Srt lt r.2 r.1 ∧ r.1 ≤ n ∧ 1 ≤ r.1 := by
  refine (kas_desc_tru hn O _ p _ _ h (by omega) (by omega) hd fun i j a b c d => ?_).bind fun r ⟨a, b, c, d, e⟩ => ?_
  · have e1 : i = m := by omega
    have e2 : j = m := by omega
    rw [e1, e2]; exact O.irr _
  · split
    · exact kas_tail3_tru hn O (PermR.rev a _ _) (by omega) c (dsc_rev hn O a c d e).1
    · exact kas_tail3_tru hn O a (by omega) c d
theorem kas_count_tru {p : Array Nat} (h : PermR n p) : (kas_count n p).Tru n lt fun r => PermR n r.2 ∧ Srt lt r.2 r.1 ∧ r.1 ≤ n ∧ 1 ≤ r.1 := by
  refine (kas_asc_tru hn O h _ _ (Nat.le_refl _) fun i j a b => by omega).bind fun m zr6332 => ?_
  obtain ⟨a, b, c, d⟩ := zr6332
  split
  · exact ⟨h, a, by show m ≤ n; omega, b⟩
  · rename_i hne
    have hne : m ≠ n := fun e => hne (by simp [e])
    have hlt : lt (p.getD m 0) (p.getD (m - 1) 0) = true := by
      rcases d with d | d
      · omega
      · exact d
    split
    · refine ⟨h.lt hn _, h.lt hn _, ?_⟩
      cases e : lt (p.getD 0 0) (p.getD (m - 1) 0) with
      | true => simp only [if_true]; exact ⟨h, a, by show m ≤ n; omega, b⟩
      | false =>
        simp only [Bool.false_eq_true, if_false]
        have ev : ∀ i j, i < m → j < m → lt (p.getD i 0) (p.getD j 0) = false := fun i j hi hj => by
          -- j <= m-1 <= 0 <= i
          have u1 : lt (p.getD (m - 1) 0) (p.getD j 0) = false := by
            by_cases q : j = m - 1
            · rw [q]; exact O.irr _
            · exact a j (m - 1) (by omega) (by omega)
          have u2 : lt (p.getD i 0) (p.getD 0 0) = false := by
            by_cases q : i = 0
            · rw [q]; exact O.irr _
            · exact a 0 i (by omega) hi
          exact O.neg (O.neg u1 e) u2
        refine kas_descPart_tru hn O (h.rev _ _) b (by omega) (dsc_step hn O (fun i j hij hj => ?_) fun i hi => ?_)
        · rw [rev_at (by rw [h.size]; omega), rev_at (by rw [h.size]; omega), if_pos (by omega), if_pos (by omega)]
          exact ev _ _ (by omega) (by omega)
        · rw [rev_at (by rw [h.size]; omega), rev_at (by rw [h.size]; omega), if_pos (by omega), if_neg (by omega)]
          exact O.neg (O.asym hlt) (ev _ (m - 1) (by omega) (by omega))
    · have e1 : m = 1 := by omega
      subst e1
      refine kas_descPart_tru hn O h b (by omega) (dsc_step hn O (fun i j a b => by omega) fun i hi => ?_)
      have : i = 1 - 1 := by omega
      rw [this]
      exact O.asym hlt
theorem kas_place_tru {p : Array Nat} {k : Nat} (h : PermR n p) (hs : Srt lt p k) : ∀ (f l r : Nat), r - l ≤ f → l ≤ r → r ≤ k → (∀ i, i < l → lt (p.getD k 0) (p.getD i 0) = false) → (∀ i, r ≤ i → i < k → lt (p.getD k 0) (p.getD i 0) = true) →
    (kas_place p k f l r).Tru n lt fun a => a ≤ k ∧ (∀ i, i < a → lt (p.getD k 0) (p.getD i 0) = false) ∧ ∀ i, a ≤ i → i < k → lt (p.getD k 0) (p.getD i 0) = true
  | 0, l, r, hf, hlr, hrk, h1, h2 => ⟨by show l ≤ k; omega, h1, fun i hi hk => h2 i (by omega) hk⟩
  | f + 1, l, r, hf, hlr, hrk, h1, h2 => by
    unfold kas_place
    split
    · exact ⟨by show l ≤ k; omega, h1, fun i hi hk => h2 i (by omega) hk⟩
    · refine ⟨h.lt hn _, h.lt hn _, ?_⟩
      cases c : lt (p.getD k 0) (p.getD ((l + r) / 2) 0) with
      | true =>
        simp only [if_true]
        refine kas_place_tru h hs f _ _ (by omega) (by omega) (by omega) h1 fun i hi hk => ?_
        by_cases e : i = (l + r) / 2
        · rw [e]; exact c
        · cases z : lt (p.getD k 0) (p.getD i 0) with
          | true => rfl
          | false => exact absurd ((O.neg (hs _ i (show (l + r) / 2 < i by omega) hk) z).symm.trans c) (by decide)
      | false =>
        simp only [Bool.false_eq_true, if_false]
        refine kas_place_tru h hs f _ _ (by omega) (by omega) (by omega) (fun i hi => ?_) h2
        by_cases e : i = (l + r) / 2
        · rw [e]; exact c
        · exact O.neg (hs i _ (show i < (l + r) / 2 by omega) (by omega)) c
theorem kas_bin_tru : ∀ (f : Nat) (p : Array Nat) (k : Nat), PermR n p → k + f = n → Srt lt p k → (kas_bin f p k).Tru n lt fun r => PermR n r ∧ Srt lt r n
  | 0, p, k, h, e, hs => ⟨h, (show k = n by omega) ▸ hs⟩
  | f + 1, p, k, h, e, hs => (kas_place_tru hn O h hs k 0 k (by omega) (by omega) (Nat.le_refl _) (fun i hi => by omega) (fun i a b => by omega)).bind fun l ⟨a, b, c⟩ => by
    refine kas_bin_tru f _ _ (h.bub _ _) (by omega) fun i j hij hj => ?_
    have hz := h.size
    rw [bub_at (by omega) (by omega), bub_at (by omega) (by omega)]
    have ekl : k - (k - l) = l := by omega
    rw [ekl]
    by_cases hjl : j = l
    · rw [if_pos hjl, if_neg (by omega), if_neg (by omega)]
      exact b i (by omega)
    · rw [if_neg hjl]
      by_cases hj2 : l < j ∧ j ≤ k
      · rw [if_pos hj2]
        by_cases hil : i = l
        · rw [if_pos hil]
          exact O.asym (c (j - 1) (by omega) (by omega))
        · rw [if_neg hil]
          by_cases hi2 : l < i ∧ i ≤ k
          · rw [if_pos hi2]
            exact hs _ _ (by omega) (by omega)
          · rw [if_neg hi2]
            by_cases q : i = j - 1
            · omega
            · exact hs _ _ (by omega) (by omega)
      · rw [if_neg hj2, if_neg (by omega), if_neg (by omega)]
        exact hs _ _ hij (by omega)
theorem kas_sort_tru : (kas_sort n).Tru n lt fun r => PermR n r ∧ Srt lt r n := by
  refine (kas_count_tru hn O (p := List.toArray (List.range n)) (by show (List.range n).toArray.toList.Perm _; simp)).bind fun r ⟨a, b, c, d⟩ => ?_
  have e : max r.1 1 = r.1 := by omega
  rw [e]
  split
  · exact kas_bin_tru hn O _ _ _ a (by omega) b
  · have : r.1 = n := by omega
    rw [this] at b
    exact ⟨a, b⟩
end
end PySem.W
set_option Elab.async false
set_option linter.all false
set_option maxRecDepth 100000
namespace PySem.W
open PySem PySem.Calls PyProof.Rows
inductive Ky where
  | s (x : Str) | i (n : Int) | r (l : List Int)
noncomputable def Ky.tag : Ky → Nat | .s _ => 0 | .i _ => 1 | .r _ => 2
noncomputable def Ky.lt : Ky → Ky → Bool
  | .s x, .s y => decide (x.cps.toList < y.cps.toList)
  | .i a, .i b => decide (a < b)
  | .r l, .r m => decide (l < m)
  | .s _, .i _ => true
  | .s _, .r _ => true
  | .i _, .r _ => true
  | _, _ => false
noncomputable def Ky.le (a b : Ky) : Prop := b.lt a = false
theorem Ky.asym : ∀ {a b : Ky}, a.lt b = true → b.lt a = false
  | .s x, .s y, h => by simp only [Ky.lt, decide_eq_true_eq, decide_eq_false_iff_not] at h ⊢; exact fun z => List.lt_irrefl _ (List.lt_trans h z)
  | .i x, .i y, h => by simp only [Ky.lt, decide_eq_true_eq, decide_eq_false_iff_not] at h ⊢; omega
  | .r x, .r y, h => by simp only [Ky.lt, decide_eq_true_eq, decide_eq_false_iff_not] at h ⊢; exact fun z => List.lt_irrefl _ (List.lt_trans h z)
  | .s _, .i _, _ => rfl
  | .s _, .r _, _ => rfl
  | .i _, .r _, _ => rfl
  | .i _, .s _, h => by cases h
  | .r _, .s _, h => by cases h
  | .r _, .i _, h => by cases h
theorem Ky.le_trans : ∀ {a b c : Ky}, a.le b → b.le c → a.le c
  | .s x, .s y, .s z, h, g => by simp only [Ky.le, Ky.lt, decide_eq_false_iff_not] at h g ⊢; exact List.le_trans (show x.cps.toList ≤ y.cps.toList from h) (show y.cps.toList ≤ z.cps.toList from g)
  | .i x, .i y, .i z, h, g => by simp only [Ky.le, Ky.lt, decide_eq_false_iff_not] at h g ⊢; omega
  | .r x, .r y, .r z, h, g => by simp only [Ky.le, Ky.lt, decide_eq_false_iff_not] at h g ⊢; exact List.le_trans (show x ≤ y from h) (show y ≤ z from g)
  | .s _, _, .i _, _, _ => rfl
  | .s _, _, .r _, _, _ => rfl
  | .i _, _, .r _, _, _ => rfl
  | .i _, .s _, _, h, _ => by cases h
  | .r _, .s _, _, h, _ => by cases h
  | .r _, .i _, _, h, _ => by cases h
  | _, .i _, .s _, _, g => by cases g
  | _, .r _, .s _, _, g => by cases g
  | _, .r _, .i _, _, g => by cases g
theorem Ky.le_antisymm : ∀ {a b : Ky}, a.le b → b.le a → a = b
  | .s x, .s y, h, g => by
    simp only [Ky.le, Ky.lt, decide_eq_false_iff_not] at h g
    have := List.le_antisymm (show x.cps.toList ≤ y.cps.toList from h) (show y.cps.toList ≤ x.cps.toList from g)
    cases x
    cases y
    congr 1
    congr 1
    exact Array.toList_inj.mp this
  | .i x, .i y, h, g => by simp only [Ky.le, Ky.lt, decide_eq_false_iff_not] at h g; congr 1; omega
  | .r x, .r y, h, g => by simp only [Ky.le, Ky.lt, decide_eq_false_iff_not] at h g; congr 1; exact List.le_antisymm (show x ≤ y from h) (show y ≤ x from g)
  | .s _, .i _, _, g => by cases g
  | .s _, .r _, _, g => by cases g
  | .i _, .r _, _, g => by cases g
  | .i _, .s _, h, _ => by cases h
  | .r _, .s _, h, _ => by cases h
  | .r _, .i _, h, _ => by cases h
theorem Ky.le_of_not {a b : Ky} (h : ¬ a.le b) : b.le a := by
  unfold Ky.le at *
  cases e : b.lt a with
  | false => exact absurd e h
  | true => exact Ky.asym e
noncomputable def ltK (ks : List Ky) (i j : Nat) : Bool := (ks.getD i (.i 0)).lt (ks.getD j (.i 0))
theorem ltK_ord (ks : List Ky) : Ord (ltK ks) := ⟨fun h => Ky.asym h, fun h g => Ky.le_trans h g⟩
noncomputable def VKy (h : Heap) (v : Value) : Ky → Prop
  | .s x => ∃ t, v = .str x t
  | .i n => ∃ t, v = .int n t
  | .r l => ∃ a its, v = .ref a ∧ IsTup h a its.toArray ∧ IntsAre its l
theorem VKy.keep {h h' : Heap} {v : Value} : ∀ {k : Ky}, VKy h v k → (∀ b o, h.get? b = some o → h'.get? b = some o) → VKy h' v k
  | .s _, x, _ => x
  | .i _, x, _ => x
  | .r _, ⟨a, its, e, ⟨o, q, c⟩, z⟩, k => ⟨a, its, e, ⟨o, k _ _ q, c⟩, z⟩
noncomputable def lexB : List Int → List Int → Bool → Bool
  | a :: l, b :: m, f => if a == b then lexB l m f else decide (a < b)
  | _, _, f => f
theorem lexB_lt : ∀ (l m : List Int), lexB l m (decide (l.length < m.length)) = decide (l < m)
  | [], [] => by simp [lexB]
  | [], b :: m => by simp [lexB]
  | a :: l, [] => by simp [lexB]
  | a :: l, b :: m => by
    have ih := lexB_lt l m
    unfold lexB
    have e : decide ((a :: l).length < (b :: m).length) = decide (l.length < m.length) := by simp
    rw [e]
    by_cases h : a = b
    · subst h
      rw [if_pos (by simp), ih]
      exact decide_eq_decide.mpr (by rw [List.cons_lt_cons_iff]; simp)
    · rw [if_neg (by simpa using h)]
      exact decide_eq_decide.mpr (by rw [List.cons_lt_cons_iff]; simp [h])
section
variable {prog : Program} {w : World} {A : Around} {E : Value → Shared → Prop} {s : Shared}
theorem kat_ints {fin : Bool} {Q : Bool → Shared → Prop} : ∀ {us vs : List Value} {l m : List Int} (i : Nat), IntsAre us l → IntsAre vs m → Q (lexB l m fin) s → KatLex prog w A true fin Q (us.zip vs) i s
  | _, _, _, _, i, .nil, _, h => kat_nil (by simpa [lexB] using h)
  | _, _, _, _, i, .cons _ _ _, .nil, h => kat_nil (by simpa [lexB] using h)
  | _, _, _, _, i, .cons a t (vs := us) (ns := l) hu, .cons b t' (vs := vs) (ns := m) hv, h => by
    unfold lexB at h
    refine kat_cons (wpAny_eqBool_int ?_)
    cases e : a == b with
    | true =>
      rw [e] at h
      exact kat_yes (kat_ints (i + 1) hu hv (by simpa using h))
    | false =>
      rw [e] at h
      have h' : Q (decide (a < b)) s := by simpa using h
      refine kat_no ?_
      cases i with
      | zero => exact oneLt_int h'
      | succ i => exact kat_one _ _ (lt_int h')
noncomputable def kindFor (t : Nat) : SortKind := if t = 2 then tuples' true else oneType'
theorem ky_lt {x y : Value} {a b : Ky} {Q : Bool → Shared → Prop} (hx : VKy s.heap x a) (hy : VKy s.heap y b) (ht : a.tag = b.tag) (h : Q (a.lt b) s) : wpAny (model prog w) A (keyLt' (kindFor a.tag) x y) Q E s := by
  cases a with
  | s p =>
    cases b <;> first | cases ht | skip
    obtain ⟨t, rfl⟩ := hx
    obtain ⟨t', rfl⟩ := hy
    show wpAny _ _ (keyLt' oneType' _ _) _ _ _
    rw [keyLt'_oneType]
    exact oneLt_str h
  | i p =>
    cases b <;> first | cases ht | skip
    obtain ⟨t, rfl⟩ := hx
    obtain ⟨t', rfl⟩ := hy
    show wpAny _ _ (keyLt' oneType' _ _) _ _ _
    rw [keyLt'_oneType]
    exact oneLt_int h
  | r p =>
    cases b <;> first | cases ht | skip
    obtain ⟨c, us, rfl, ⟨o, e, ec, n, ed⟩, hu⟩ := hx
    obtain ⟨c', us', rfl, ⟨o', e', ec', n', ed'⟩, hu'⟩ := hy
    show wpAny _ _ (keyLt' (tuples' true) _ _) _ _ _
    refine kat_lt e ed e' ed' (kat_ints 0 hu hu' ?_)
    have e1 : us.toArray.size = p.length := by rw [List.size_toArray, hu.length]
    have e2 : us'.toArray.size = _ := (by rw [List.size_toArray, hu'.length])
    rw [e1, e2, lexB_lt]
    exact h
theorem ky_strs {h : Heap} : ∀ {vs : List Value} {ks : List Ky}, PySem.Paired (VKy h) vs ks → (∀ k ∈ ks, k.tag = 0 ∧ k ≠ .r []) → ∃ ss, StrsAre vs ss
  | _, _, .nil, _ => ⟨[], .nil⟩
  | _, _, .cons (a := v) (b := k) r t, hk => by
    obtain ⟨ss, e⟩ := ky_strs t fun k h => hk k (List.mem_cons_of_mem _ h)
    have := (hk k List.mem_cons_self).1
    cases k with
    | s x => obtain ⟨t, rfl⟩ := r; exact ⟨x :: ss, .cons x t e⟩
    | i x => cases this
    | r x => cases this
theorem ky_ints {h : Heap} : ∀ {vs : List Value} {ks : List Ky}, PySem.Paired (VKy h) vs ks → (∀ k ∈ ks, k.tag = 1 ∧ k ≠ .r []) → ∃ ss, IntsAre vs ss
  | _, _, .nil, _ => ⟨[], .nil⟩
  | _, _, .cons (a := v) (b := k) r t, hk => by
    obtain ⟨ss, e⟩ := ky_ints t fun k h => hk k (List.mem_cons_of_mem _ h)
    have := (hk k List.mem_cons_self).1
    cases k with
    | i x => obtain ⟨t, rfl⟩ := r; exact ⟨x :: ss, .cons x t e⟩
    | s x => cases this
    | r x => cases this
theorem ky_tups {h : Heap} : ∀ {vs : List Value} {ks : List Ky}, PySem.Paired (VKy h) vs ks → (∀ k ∈ ks, k.tag = 2 ∧ k ≠ .r []) → ∃ fs, fs.length = vs.length ∧ KatTups h vs fs ∧ ∀ f ∈ fs, ∃ n t, f = Value.int n t
  | _, _, .nil, _ => ⟨[], rfl, .nil, fun _ h => by simp at h⟩
  | _, _, .cons (a := v) (b := k) r t, hk => by
    obtain ⟨fs, e0, e, hf⟩ := ky_tups t fun k h => hk k (List.mem_cons_of_mem _ h)
    have := hk k List.mem_cons_self
    cases k with
    | i x => cases this.1
    | s x => cases this.1
    | r x =>
      obtain ⟨a, its, rfl, ⟨o, e1, ec, n, ed⟩, hu⟩ := r
      cases hu with
      | nil => exact absurd rfl this.2
      | cons m t hu =>
        refine ⟨.int m t :: fs, by simp [e0], .cons e1 ec ed (by simp) e, fun f h => ?_⟩
        rcases List.mem_cons.mp h with q | q
        · exact ⟨m, t, q⟩
        · exact hf f q
theorem ky_kind {vs : List Value} {ks : List Ky} {t : Nat} {Q : SortKind → Shared → Prop} (hp : PySem.Paired (VKy s.heap) vs ks) (ht : ∀ k ∈ ks, k.tag = t ∧ k ≠ .r []) (h2 : 2 ≤ vs.length) (h : Q (kindFor t) s) : wpAny (model prog w) A (keyKind' vs.toArray) Q E s := by
  have hl : vs.length = ks.length := PySem.Paired.length hp
  obtain ⟨v1, v2, rest, rfl⟩ : ∃ v1 v2 rest, vs = v1 :: v2 :: rest := by
    match vs, h2 with
    | v1 :: v2 :: rest, _ => exact ⟨v1, v2, rest, rfl⟩
  match t with
  | 0 =>
    obtain ⟨ss, e⟩ := ky_strs hp ht
    rw [keyKind_strs e]
    exact wpAny_pure h
  | 1 =>
    obtain ⟨ss, e⟩ := ky_ints hp ht
    rw [keyKind_ints e]
    exact wpAny_pure h
  | 2 =>
    obtain ⟨fs, e0, e, hf⟩ := ky_tups hp ht
    refine kat_kind (T := .type "int") e (by rw [e0]; simp) (fun v hv => ?_) (by decide) h
    obtain ⟨x, t, rfl⟩ := hf v hv
    exact Looks.of_pure rfl
  | t + 3 =>
    cases hp with
    | cons r _ =>
      rename_i k _ _
      have := (ht k List.mem_cons_self).1
      cases k <;> simp [Ky.tag] at this
theorem paired_at {α β : Type} {R : α → β → Prop} {d : α} {e : β} : ∀ {l : List α} {m : List β} (i : Nat), PySem.Paired R l m → i < l.length → R (l.getD i d) (m.getD i e)
  | _, _, i, .nil, h => by simp at h
  | _, _, 0, .cons r _, _ => by simpa using r
  | _, _, i + 1, .cons _ t, h => by simpa using paired_at (d := d) (e := e) i t (by simpa using h)
theorem sort_run {kvs vs : List Value} {ks : List Ky} {t : Nat} {Q : SortSt → Shared → Prop} (hp : PySem.Paired (VKy s.heap) kvs ks) (hl : kvs.length = vs.length) (ht : ∀ k ∈ ks, k.tag = t ∧ k ≠ .r []) (h2 : 2 ≤ vs.length) (h64 : vs.length < 64)
    (h : ∀ (p : Array Nat) (st : SortSt), p.size = vs.length → arrOf st = p.map (kas_item (kvs.toArray.zip vs.toArray)) → failedOf st = none → PermR vs.length p → Srt (ltK ks) p vs.length → Q st s) :
    wpAny (model prog w) A ((sortRuns').run (SortSt.mk' (kindFor t) (kvs.toArray.zip vs.toArray) #[] 7 none)) (fun r s' => Q r.2 s') E s := by
  refine kat_run (G := fun p s' => PermR vs.length p ∧ Srt (ltK ks) p vs.length ∧ s' = s) hl h2 h64 (fun p st s' a b c zq34 => by obtain ⟨d, e, f⟩ := zq34; exact (by rw [f]; exact h p st a b c d e)) ?_
  refine KasT.Tru.wp (n := vs.length) (P := fun p => PermR vs.length p ∧ Srt (ltK ks) p vs.length) (fun i j C hi hj hC => ?_) (fun p hp => ⟨hp.1, hp.2, rfl⟩) (kas_sort_tru (by omega) (ltK_ord ks))
  unfold kas_ask
  have hkl : kvs.length = ks.length := PySem.Paired.length hp
  have ti : (ks.getD i (.i 0)).tag = t := (ht _ (by rw [List.getD_eq_getElem?_getD, List.getElem?_eq_getElem (by omega)]; simp)).1
  have tj : (ks.getD j (.i 0)).tag = t := (ht _ (by rw [List.getD_eq_getElem?_getD, List.getElem?_eq_getElem (by omega)]; simp)).1
  have := ky_lt (prog := prog) (w := w) (A := A) (E := fun _ _ => False) (Q := C) (s := s) (paired_at (d := Value.none) (e := Ky.i 0) i hp (by omega)) (paired_at (d := Value.none) (e := Ky.i 0) j hp (by omega)) (ti.trans tj.symm) hC
  rw [ti] at this
  exact this
end
end PySem.W
set_option Elab.async false
set_option linter.all false
set_option maxRecDepth 100000
namespace PySem.W
open PySem PySem.Calls PyProof.Rows
theorem _root_.PySem.Paired.mapP' {α β : Type} {F G : α → β → Prop} : ∀ {l₁ : List α} {l₂ : List β}, Paired F l₁ l₂ → (∀ a b, F a b → G a b) → Paired G l₁ l₂
  | _, _, .nil, _ => .nil
  | _, _, .cons r t, f => .cons (f _ _ r) (PySem.Paired.mapP' t f)
section
variable {prog : Program} {w : World} {A : Around} {E : Value → Shared → Prop} {s : Shared}
theorem list_sort_ky {a : Addr} {vs : List Value} {ks : List Ky} {t n : Nat} {P : PySem.Fin → Shared → Prop} (ho : s.heap.get? a = some (seqObj "list" vs.toArray n)) (h64 : vs.length < 64)
    (hp : ∀ h' : Heap, (∀ b o, b ≠ a → s.heap.get? b = some o → h'.get? b = some o) → Paired (VKy h') vs ks) (ht : ∀ k ∈ ks, k.tag = t ∧ k ≠ .r [])
    (h : ∀ p : Array Nat, PermR vs.length p → Srt (ltK ks) p vs.length → P (.done (.ret .none)) { s with heap := sortedHeap s.heap a vs (List.toArray (p.toList.map fun i => vs.getD i Value.none)) }) :
    wpAny (model prog w) A (Builtin.«list.sort» ⟨[.ref a], []⟩) P E s := by
  rw [list_sort_plain]
  have ha : a < s.heap.objs.size := Heap.lt_size ho
  refine wpAny_bind (listItems_at ho rfl ?_)
  refine wpAny_bind (listUpdate_at ho rfl ?_ (by rw [List.size_toArray, sizeLine_eq]; omega) (Nat.zero_le _))
  obtain ⟨e1, ho1⟩ : ∃ e1, (s.heap.update a (Obj.mapSeq fun _ => (#[] : Array Value))).get? a = some (seqObj "list" #[] e1) := ⟨_, get?_update_seq ho (fun _ => #[])⟩
  refine wpAny_bind (seqEpoch_at ho1 rfl ?_)
  refine wpAny_bind (wpAny_newTuple ?_ (by show vs.length ≤ _; rw [sizeLine_eq]; omega))
  refine wpAny_bind (wpAny_newList ?_ (Nat.zero_le _))
  refine wpAny_holding ?_
  have ho6 : (((s.heap.update a (Obj.mapSeq fun _ => (#[] : Array Value))).push (seqObj "tuple" vs.toArray 0)).push (seqObj "list" #[] 0)).get? a = some (seqObj "list" #[] e1) := by
    rw [Heap.get?_push_ne _ _ _ (by rw [size_push', Heap.size_update]; exact Nat.ne_of_lt (Nat.lt_succ_of_lt ha)), Heap.get?_push_ne _ _ _ (by rw [Heap.size_update]; exact Nat.ne_of_lt ha)]
    exact ho1
  have hold : ∀ b o, b ≠ a → s.heap.get? b = some o → (((s.heap.update a (Obj.mapSeq fun _ => (#[] : Array Value))).push (seqObj "tuple" vs.toArray 0)).push (seqObj "list" #[] 0)).get? b = some o := fun b o hb e =>
    Heap.get?_push_of_some _ (Heap.get?_push_of_some _ (by rw [Heap.get?_update_ne _ _ _ _ hb]; exact e))
  show wpAny (model prog w) A _ P E { s with heap := ((s.heap.update a (Obj.mapSeq fun _ => (#[] : Array Value))).push (seqObj "tuple" vs.toArray 0)).push (seqObj "list" #[] 0) }
  dsimp only
  by_cases h2 : vs.toArray.size < 2
  · rw [if_pos h2, if_pos h2]
    refine wpAny_bind (wpAny_pure ?_)
    rw [StateT.run_pure]
    refine wpAny_bind (wpAny_pure ?_)
    dsimp only
    refine wpAny_bind (seqEpoch_at ho6 rfl ?_)
    refine wpAny_bind (listUpdate_at ho6 rfl ?_ (hsz2 := by rw [Array.size_map]; show (pairsOf vs).size ≤ _; rw [pairsOf_size, sizeLine_eq]; omega))
    simp only [bne_self_eq_false, Bool.false_eq_true, if_false]
    have e : Array.map (fun (x : Value × Value) => x.2) (vs.toArray.zip vs.toArray) = List.toArray ((List.toArray (List.range vs.length)).toList.map fun i => vs.getD i Value.none) := by
      apply Array.toList_inj.mp
      rw [Array.toList_map, Array.toList_zip]
      show List.map _ (List.zip vs vs) = _
      rw [List.map_snd_zip (Nat.le_refl _)]
      apply List.ext_getElem?
      intro i
      by_cases hi : i < vs.length
      · simp [hi]
      · simp [hi]
    have := h (List.toArray (List.range vs.length)) (by show (List.range _).toArray.toList.Perm _; simp) fun i j a b => by rw [List.size_toArray] at h2; omega
    rw [← e] at this
    exact wpAny_pure this
  · rw [if_neg h2, if_neg h2]
    have h2' : 2 ≤ vs.length := by rw [List.size_toArray] at h2; omega
    have hp' := hp _ hold
    refine wpAny_bind (ky_kind (t := t) (s := { s with heap := ((s.heap.update a (Obj.mapSeq fun _ => (#[] : Array Value))).push (seqObj "tuple" vs.toArray 0)).push (seqObj "list" #[] 0) }) hp' ht h2' ?_)
    refine wpAny_bind (wpAny_mono (sort_run (kvs := vs) (vs := vs) (s := { s with heap := ((s.heap.update a (Obj.mapSeq fun _ => (#[] : Array Value))).push (seqObj "tuple" vs.toArray 0)).push (seqObj "list" #[] 0) })
      (Q := fun st s' => ∃ p : Array Nat, p.size = vs.length ∧ arrOf st = p.map (kas_item (vs.toArray.zip vs.toArray)) ∧ failedOf st = none ∧ PermR vs.length p ∧ Srt (ltK ks) p vs.length ∧ s' = { s with heap := ((s.heap.update a (Obj.mapSeq fun _ => (#[] : Array Value))).push (seqObj "tuple" vs.toArray 0)).push (seqObj "list" #[] 0) })
      hp' rfl ht h2' h64 fun p st a1 a2 a3 a4 a5 => ⟨p, a1, a2, a3, a4, a5, rfl⟩) ?_ fun _ _ e => e)
    rintro ⟨⟨⟩, st'⟩ s' ⟨p, hps, har, hf, hperm, hsrt, rfl⟩
    dsimp only
    have hout := kat_snds (ks := vs) (vs := vs) rfl har
    have hsz : (List.toArray (p.toList.map fun i => vs.getD i Value.none)).size = vs.length := by rw [List.size_toArray, List.length_map, Array.length_toList, hps]
    rw [hout]
    refine wpAny_bind (seqEpoch_at ho6 rfl ?_)
    refine wpAny_bind (listUpdate_at ho6 rfl ?_ (Nat.zero_le _) (Nat.le_trans (Nat.le_of_eq hsz) (by rw [sizeLine_eq]; omega)))
    rw [hf]
    simp only [bne_self_eq_false, Bool.false_eq_true, if_false]
    exact wpAny_pure (h p hperm hsrt)
theorem list_sort_keyed {a f : Addr} {vs kvs : List Value} {ks : List Ky} {t n : Nat} {P : PySem.Fin → Shared → Prop} (ho : s.heap.get? a = some (seqObj "list" vs.toArray n)) (h64 : vs.length < 64) (hl : kvs.length = vs.length)
    (hp : ∀ h' : Heap, (∀ b o, b ≠ a → s.heap.get? b = some o → h'.get? b = some o) → Paired (VKy h') kvs ks) (ht : ∀ k ∈ ks, k.tag = t ∧ k ≠ .r [])
    (hcall : ∀ (i : Nat) x k, vs[i]? = some x → kvs[i]? = some k → ∀ (h' : Heap) (tk : Nat) (Q : Value → Shared → Prop), (∀ b o, b ≠ a → s.heap.get? b = some o → h'.get? b = some o) → s.heap.objs.size ≤ h'.objs.size →
      (∀ (h'' : Heap) (tk' : Nat), (∀ b o, h'.get? b = some o → h''.get? b = some o) → Q k { s with heap := h'', toks := tk' }) → wpAny (model prog w) A (call (.ref f) [x]) Q (fun _ _ => False) { s with heap := h', toks := tk })
    (h : ∀ (h' : Heap) (tk c : Nat) (p : Array Nat), PermR vs.length p → Srt (ltK ks) p vs.length → (∀ b o, b ≠ a → s.heap.get? b = some o → h'.get? b = some o) → h'.get? a = some (seqObj "list" (List.toArray (p.toList.map fun i => vs.getD i Value.none)) c) → P (.done (.ret .none)) { s with heap := h', toks := tk }) :
    wpAny (model prog w) A (Builtin.«list.sort» ⟨[.ref a], [(Str.ofString "key", .ref f)]⟩) P E s := by
  rw [ksk_t1]
  have ha : a < s.heap.objs.size := Heap.lt_size ho
  unfold ksk_tree
  refine wpAny_bind (listItems_at ho rfl ?_)
  refine wpAny_bind (listUpdate_at ho rfl ?_ (by rw [List.size_toArray, sizeLine_eq]; omega) (Nat.zero_le _))
  obtain ⟨e1, ho1⟩ : ∃ e1, (s.heap.update a (Obj.mapSeq fun _ => (#[] : Array Value))).get? a = some (seqObj "list" #[] e1) := ⟨_, get?_update_seq ho (fun _ => #[])⟩
  refine wpAny_bind (seqEpoch_at ho1 rfl ?_)
  refine wpAny_bind (wpAny_newTuple ?_ (by show vs.length ≤ _; rw [sizeLine_eq]; omega))
  refine wpAny_bind (wpAny_newList ?_ (Nat.zero_le _))
  refine wpAny_holding ?_
  have ekS : ((s.heap.update a (Obj.mapSeq fun _ => (#[] : Array Value))).push (seqObj "tuple" vs.toArray 0)).objs.size = s.heap.objs.size + 1 := by rw [size_push', Heap.size_update]
  obtain ⟨h1, hh1⟩ : ∃ h1, h1 = ((s.heap.update a (Obj.mapSeq fun _ => (#[] : Array Value))).push (seqObj "tuple" vs.toArray 0)).push (seqObj "list" #[] 0) := ⟨_, rfl⟩
  have ho6 : h1.get? a = some (seqObj "list" #[] e1) := by
    rw [hh1, Heap.get?_push_ne _ _ _ (by rw [size_push', Heap.size_update]; exact Nat.ne_of_lt (Nat.lt_succ_of_lt ha)), Heap.get?_push_ne _ _ _ (by rw [Heap.size_update]; exact Nat.ne_of_lt ha)]
    exact ho1
  have hold : ∀ b o, b ≠ a → s.heap.get? b = some o → h1.get? b = some o := fun b o hb e => by
    rw [hh1]; exact Heap.get?_push_of_some _ (Heap.get?_push_of_some _ (by rw [Heap.get?_update_ne _ _ _ _ hb]; exact e))
  have hkS : h1.get? (s.heap.objs.size + 1) = some (seqObj "list" #[] 0) := by rw [hh1, ← ekS]; exact Heap.get?_push_size _ rfl
  have hsz1 : s.heap.objs.size ≤ h1.objs.size := Nat.le_trans (Nat.le_succ _) (Nat.le_of_lt (Heap.lt_size hkS))
  have nka : s.heap.objs.size + 1 ≠ a := Nat.ne_of_gt (Nat.lt_succ_of_lt ha)
  rw [ekS]
  show wpAny (model prog w) A _ P E { s with heap := ((s.heap.update a (Obj.mapSeq fun _ => (#[] : Array Value))).push (seqObj "tuple" vs.toArray 0)).push (seqObj "list" #[] 0) }
  rw [← hh1]
  unfold ksk_rest
  refine wpAny_bind (wpAny_rule ?_)
  rw [List.forIn_toArray]
  refine wpAny_bind (ksk_fold (fun i s' => ∃ (h' : Heap) (tk e : Nat), s' = { s with heap := h', toks := tk } ∧ (∀ b o, b ≠ a → s.heap.get? b = some o → h'.get? b = some o) ∧ s.heap.objs.size ≤ h'.objs.size ∧ h'.get? a = some (seqObj "list" #[] e1) ∧ h'.get? (s.heap.objs.size + 1) = some (seqObj "list" (kvs.take i).toArray e)) vs 0 _
    ⟨h1, s.toks, 0, rfl, hold, hsz1, ho6, by simpa using hkS⟩ (fun j x s' hx hI => ?_) fun s' hI => ?_)
  · obtain ⟨h', tk, e, rfl, k1, k2, k3, k4⟩ := hI
    simp only [Nat.zero_add] at k4 ⊢
    have hj : j < vs.length := (List.getElem?_eq_some_iff.mp hx).1
    obtain ⟨k, hkj⟩ : ∃ k, kvs[j]? = some k := ⟨_, List.getElem?_eq_getElem (by omega)⟩
    refine wpAny_bind (wpAny_attempt (wpAny_mono (hcall j x k hx hkj h' tk (fun v s'' => ∃ h'' tk', v = k ∧ s'' = { s with heap := h'', toks := tk' } ∧ ∀ b o, h'.get? b = some o → h''.get? b = some o) k1 k2 fun h'' tk' hk => ⟨h'', tk', rfl, rfl, hk⟩) (fun v s'' he => ?_) fun _ _ hF => hF.elim))
    obtain ⟨h'', tk', rfl, rfl, hk⟩ := he
    dsimp only
    have nk := hk _ _ k4
    have na := hk _ _ k3
    obtain ⟨c2, hc2⟩ : ∃ c2, (h''.update (s.heap.objs.size + 1) (Obj.mapSeq (·.push v))).get? (s.heap.objs.size + 1) = some (seqObj "list" ((kvs.take j).toArray.push v) c2) := ⟨_, get?_update_seq nk (·.push v)⟩
    have hlt : (kvs.take j).toArray.size ≤ 64 := by rw [List.size_toArray, List.length_take]; omega
    have h16 : (65 : Nat) ≤ sizeLine := by rw [sizeLine_eq]; omega
    refine wpAny_bind (listUpdate_at nk rfl ?_ (Nat.le_trans hlt (by omega)) (Nat.le_trans (Nat.le_of_eq (Array.size_push ..)) (by omega)))
    refine wpAny_pure ⟨rfl, _, tk', c2, rfl, fun b o hb e => ?_, ?_, ?_, ?_⟩
    · have hlt := Heap.lt_size e
      rw [Heap.get?_update_ne _ _ _ _ (Nat.ne_of_lt (Nat.lt_succ_of_lt hlt))]
      exact hk _ _ (k1 b o hb e)
    · rw [Heap.size_update]
      exact Nat.le_trans (Nat.le_succ _) (Nat.le_of_lt (Heap.lt_size nk))
    · rw [Heap.get?_update_ne _ _ _ _ (Ne.symm nka)]
      exact na
    · rw [hc2]
      congr 2
      have ek : kvs.take (j + 1) = kvs.take j ++ [v] := by rw [List.take_add_one, hkj]; simp
      rw [ek]
      simp
  · obtain ⟨h', tk, e, rfl, k1, k2, k3, k4⟩ := hI
    have e3 : kvs.take (0 + vs.length) = kvs := List.take_of_length_le (by omega)
    rw [e3] at k4
    try dsimp only
    refine wpAny_bind (listItems_at k4 rfl ?_)
    have hp' := hp h' k1
    have tail : ∀ (st : SortSt) (p : Array Nat), (arrOf st).map (·.2) = List.toArray (p.toList.map fun i => vs.getD i Value.none) → failedOf st = none → PermR vs.length p → Srt (ltK ks) p vs.length → wpAny (model prog w) A (ksk_tail a false e1 (.ref (s.heap.objs.size + 1)) st) P E { s with heap := h', toks := tk } := by
      intro st p har hf hperm hsrt
      unfold ksk_tail
      dsimp only
      have hsz : (List.toArray (p.toList.map fun i => vs.getD i Value.none)).size = vs.length := by rw [List.size_toArray, List.length_map, Array.length_toList, hperm.size]
      have h16 : (65 : Nat) ≤ sizeLine := by rw [sizeLine_eq]; omega
      refine wpAny_bind (listUpdate_at k4 rfl ?_ (by rw [List.size_toArray]; omega) (Nat.zero_le _))
      refine wpAny_bind (wpAny_letGo ?_)
      have na1 : (h'.update (s.heap.objs.size + 1) (Obj.mapSeq fun _ => (#[] : Array Value))).get? a = some (seqObj "list" #[] e1) := by
        rw [Heap.get?_update_ne _ _ _ _ (Ne.symm nka)]; exact k3
      refine wpAny_bind (seqEpoch_at na1 rfl ?_)
      rw [har]
      refine wpAny_bind (listUpdate_at na1 rfl ?_ (Nat.zero_le _) (Nat.le_trans (Nat.le_of_eq hsz) (by omega)))
      rw [hf]
      simp only [bne_self_eq_false, Bool.false_eq_true, if_false]
      refine wpAny_pure (h _ tk _ p hperm hsrt (fun b o hb eb => ?_) (get?_update_seq na1 fun _ => List.toArray (p.toList.map fun i => vs.getD i Value.none)))
      have hlt := Heap.lt_size eb
      rw [Heap.get?_update_ne _ _ _ _ hb, Heap.get?_update_ne _ _ _ _ (Nat.ne_of_lt (Nat.lt_succ_of_lt hlt))]
      exact k1 b o hb eb
    unfold ksk_end
    dsimp only
    simp only [Bool.false_eq_true, if_false]
    by_cases h2 : vs.toArray.size < 2
    · rw [if_pos h2, if_pos h2]
      refine wpAny_bind (wpAny_pure ?_)
      rw [StateT.run_pure]
      refine wpAny_bind (wpAny_pure ?_)
      dsimp only
      refine tail _ (List.toArray (List.range vs.length)) ?_ rfl (by show (List.range _).toArray.toList.Perm _; simp) fun i j a b => by rw [List.size_toArray] at h2; omega
      show Array.map _ (kvs.toArray.zip vs.toArray) = _
      apply Array.toList_inj.mp
      rw [Array.toList_map, Array.toList_zip]
      show List.map _ (List.zip kvs vs) = _
      rw [List.map_snd_zip (by omega)]
      apply List.ext_getElem?
      intro i
      by_cases hi : i < vs.length
      · simp [hi]
      · simp [hi]
    · rw [if_neg h2, if_neg h2]
      have h2' : 2 ≤ vs.length := by rw [List.size_toArray] at h2; omega
      refine wpAny_bind (ky_kind (t := t) (s := { s with heap := h', toks := tk }) hp' ht (by omega) ?_)
      refine wpAny_bind (wpAny_mono (sort_run (kvs := kvs) (vs := vs) (s := { s with heap := h', toks := tk })
        (Q := fun st s' => ∃ p : Array Nat, arrOf st = p.map (kas_item (kvs.toArray.zip vs.toArray)) ∧ failedOf st = none ∧ PermR vs.length p ∧ Srt (ltK ks) p vs.length ∧ s' = { s with heap := h', toks := tk })
        hp' hl ht h2' h64 fun p st a1 a2 a3 a4 a5 => ⟨p, a2, a3, a4, a5, rfl⟩) ?_ fun _ _ e => e)
      rintro ⟨⟨⟩, st'⟩ s' ⟨p, har, hf, hperm, hsrt, rfl⟩
      exact tail st' p (kat_snds hl har) hf hperm hsrt
theorem sorted_ky {u : Value} {vs : List Value} {ks : List Ky} {t : Nat} {Q : Value → Shared → Prop}
    (hcol : ∀ Q' : List Value → Shared → Prop, (∀ (h' : Heap) (tk : Nat), (∀ b o, s.heap.get? b = some o → h'.get? b = some o) → s.heap.objs.size ≤ h'.objs.size → Q' vs { s with heap := h', toks := tk }) → wpAny (model prog w) A.in1 (collect u) Q' E s)
    (h64 : vs.length < 64) (hp : Paired (VKy s.heap) vs ks) (ht : ∀ k ∈ ks, k.tag = t ∧ k ≠ .r [])
    (h : ∀ (h' : Heap) (q tk c : Nat) (p : Array Nat), PermR vs.length p → Srt (ltK ks) p vs.length → s.heap.objs.size ≤ q → (∀ b o, s.heap.get? b = some o → h'.get? b = some o) → h'.get? q = some (seqObj "list" (List.toArray (p.toList.map fun i => vs.getD i Value.none)) c) → Q (.ref q) { s with heap := h', toks := tk }) :
    wpAny (model prog w) A (call (.builtin "sorted") [u]) Q E s := by
  refine Calls.call_function_entry kind_sorted plain_sorted entry_sorted (args_sorted1 _) ?_
  unfold Builtin.«sorted»
  refine wpAny_bind (m := checkCount "sorted" 1 1 _) (wpAny_pure ?_)
  refine wpAny_bind (hcol _ fun h1 tk hk hz => ?_)
  refine wpAny_bind (wpAny_newList ?_ (by rw [sizeLine_eq]; omega))
  have hoL : (h1.push (seqObj "list" vs.toArray 0)).get? h1.objs.size = some (seqObj "list" vs.toArray 0) := Heap.get?_push_size _ rfl
  have keep : ∀ b o, s.heap.get? b = some o → (h1.push (seqObj "list" vs.toArray 0)).get? b = some o := fun b o q => Heap.get?_push_of_some _ (hk b o q)
  show wpAny _ _ _ _ _ { s with heap := h1.push (seqObj "list" vs.toArray 0), toks := tk }
  refine wpAny_bind (wpAny_holding (wpAny_call_entry slot_list_sort ⟨_, hoL, rfl⟩ entry_list_sort (list_sort_ky (t := t) (ks := ks) hoL h64 (fun h' hold => Paired.mapP' hp fun v k z => z.keep fun b o e => hold b o (Nat.ne_of_lt (Nat.lt_of_lt_of_le (Heap.lt_size e) hz)) (keep b o e)) ht fun p a1 a2 => ⟨_, rfl, ?_⟩) (args_list_sort _)))
  obtain ⟨e, he⟩ := sortedHeap_at (vs := vs) (out := List.toArray (p.toList.map fun i => vs.getD i Value.none)) hoL
  refine wpAny_pure ⟨_, rfl, h _ _ tk e p a1 a2 hz (fun b o eb => ?_) he⟩
  have hb := Heap.lt_size (hk b o eb)
  rw [sortedHeap_old (Nat.ne_of_lt hb) (by rw [size_push']; exact Nat.lt_succ_of_lt hb)]
  exact keep b o eb
theorem sorted_keyed {u : Value} {f : Addr} {G : List Value → Prop} {ks : List Ky} {t : Nat} {Q : Value → Shared → Prop}
    (hcol : ∀ Q' : List Value → Shared → Prop, (∀ (vs : List Value) (h' : Heap) (tk : Nat), G vs → (∀ b o, s.heap.get? b = some o → h'.get? b = some o) → s.heap.objs.size ≤ h'.objs.size → Q' vs { s with heap := h', toks := tk }) → wpAny (model prog w) A.in1 (collect u) Q' E s)
    (ht : ∀ k ∈ ks, k.tag = t ∧ k ≠ .r [])
    (hG : ∀ vs, G vs → vs.length < 64 ∧ ∃ kvs : List Value, kvs.length = vs.length ∧ Paired (VKy s.heap) kvs ks ∧ ∀ (i : Nat) x k, vs[i]? = some x → kvs[i]? = some k → ∀ (h' : Heap) (tk : Nat) (Q : Value → Shared → Prop), (∀ b o, s.heap.get? b = some o → h'.get? b = some o) →
      (∀ (h'' : Heap) (tk' : Nat), (∀ b o, h'.get? b = some o → h''.get? b = some o) → Q k { s with heap := h'', toks := tk' }) → wpAny (model prog w) A.in1.in1 (call (.ref f) [x]) Q (fun _ _ => False) { s with heap := h', toks := tk })
    (h : ∀ (vs : List Value) (h' : Heap) (q tk c : Nat) (p : Array Nat), G vs → PermR vs.length p → Srt (ltK ks) p vs.length → s.heap.objs.size ≤ q → (∀ b o, s.heap.get? b = some o → h'.get? b = some o) → h'.get? q = some (seqObj "list" (List.toArray (p.toList.map fun i => vs.getD i Value.none)) c) → Q (.ref q) { s with heap := h', toks := tk }) :
    wpAny (model prog w) A (call (.builtin "sorted") [u] [(Str.ofString "key", .ref f)]) Q E s := by
  refine call_function_entry_kw kind_sorted plain_sorted entry_sorted (ksk_s1 _ _) ?_
  unfold Builtin.«sorted»
  refine wpAny_bind (m := checkCount "sorted" 1 1 _) (wpAny_pure ?_)
  refine wpAny_bind (hcol _ fun vs h1 tk hg hk hz => ?_)
  obtain ⟨h64, kvs, hl, hp, hcall⟩ := hG vs hg
  refine wpAny_bind (wpAny_newList ?_ (by rw [sizeLine_eq]; omega))
  have hoL : (h1.push (seqObj "list" vs.toArray 0)).get? h1.objs.size = some (seqObj "list" vs.toArray 0) := Heap.get?_push_size _ rfl
  have keep : ∀ b o, s.heap.get? b = some o → (h1.push (seqObj "list" vs.toArray 0)).get? b = some o := fun b o q => Heap.get?_push_of_some _ (hk b o q)
  have ne : ∀ b o, s.heap.get? b = some o → b ≠ h1.objs.size := fun b o e => Nat.ne_of_lt (Nat.lt_of_lt_of_le (Heap.lt_size e) hz)
  show wpAny _ _ _ _ _ { s with heap := h1.push (seqObj "list" vs.toArray 0), toks := tk }
  refine wpAny_bind (wpAny_holding (wpAny_call_entry_kw slot_list_sort ⟨_, hoL, rfl⟩ entry_list_sort (list_sort_keyed (t := t) (ks := ks) (kvs := kvs) hoL h64 hl (fun h' hold => Paired.mapP' hp fun v k z => z.keep fun b o e => hold b o (ne b o e) (keep b o e)) ht
    (fun i x k hx hk' h' tk' Q' hold _ hq => hcall i x k hx hk' h' tk' Q' (fun b o e => hold b o (ne b o e) (keep b o e)) hq) fun h' tk' c p a1 a2 hold he => ⟨_, rfl, ?_⟩) (ksk_l1 _ _)))
  exact wpAny_pure ⟨_, rfl, h vs h' _ tk' c p hg a1 a2 hz (fun b o e => hold b o (ne b o e) (keep b o e)) he⟩
end
end PySem.W
set_option Elab.async false
set_option linter.all false
set_option maxRecDepth 100000
namespace PySem.W
open PySem PySem.Calls PyProof.Rows
theorem among_app {pos : Pos} {r : List Value} (l : List Value) (h : TriplesOk l) : codeAmong pos (l ++ r) = (codeAmong pos l).or (codeAmong pos r) := by
  fun_induction TriplesOk l with
  | case1 => simp [codeAmong]
  | case2 a t b u x rest ih =>
    simp only [List.cons_append, codeAmong]
    split
    · rfl
    · exact ih h
  | case3 l h1 h2 => exact h.elim
theorem triples_app {r : List Value} (l : List Value) (h : TriplesOk l) (g : TriplesOk r) : TriplesOk (l ++ r) := by
  fun_induction TriplesOk l with
  | case1 => simpa using g
  | case2 a t b u x rest ih => exact ih h
  | case3 l h1 h2 => exact h.elim
noncomputable def LamEv (prog : Program) (w : World) (qual : Str) (scope : Scope) (clos : List (Str × Addr)) (body : Expr) (x : Str) (h : Heap) (u k : Value) : Prop :=
  ∀ (A : Around) (L f : Addr) (cdv : Value) (s : Shared) (m : Str → Option Value) (Q : Value → Shared → Prop) (E : Value → Shared → Prop), (∀ b o, h.get? b = some o → s.heap.get? b = some o) → s.heap.Ns L m → m x = some u →
    (∀ tk, Q k { s with toks := tk }) → wpAny (model prog w) A (eval body (envX qual scope L f cdv clos)) Q E s
section
variable {prog : Program} {w : World} {A : Around} {E : Value → Shared → Prop} {s : Shared} {name qual : Str} {params : Arguments} {body : Expr} {scope : Scope} {clos : List (Str × Addr)} {x : Str}
theorem lam_call {f c' : Addr} {pm ctv u k : Value} {h : Heap} {Q : Value → Shared → Prop} (ho : s.heap.get? f = some (kla_obj name qual params body scope clos pm c' ctv)) (hcd : s.heap.CodeRec (.ref c') qual) (hroom : A.depth < recursionLimit) (hlim : s.heap.NoLimit)
    (hbind : bindArgs (kla_fn name qual params body scope clos pm (.ref c') ctv) ⟨[u], []⟩ = pure [(x, u)]) (hx : scope.names.lookup x = some .local) (hk : scope.kind = .function) (hco : scope.isCoroutine = false) (hgen : scope.isGenerator = false) (hcell : ∀ y ∈ scope.names, y.2 ≠ .cell)
    (hev : LamEv prog w qual scope clos body x h u k) (hh : ∀ b o, h.get? b = some o → s.heap.get? b = some o) (hq : ∀ (h'' : Heap) (tk' : Nat), (∀ b o, s.heap.get? b = some o → h''.get? b = some o) → Q k { s with heap := h'', toks := tk' }) :
    wpAny (model prog w) A (call (.ref f) [u]) Q E s := by
  refine wpAny_call (kla_callFunE hroom ho rfl hco hgen rfl hcd ?_)
  rw [hbind]
  refine wpAny_pure (wpAny_newFunctionEnv hcell (fun y hy => by rw [List.mem_singleton.mp hy]; exact hx) (fun h₁ hns hsb => ⟨hlim.fresh _ hsb, kla_codeExpr ?_⟩) hk)
  have hk₁ : ∀ b o, s.heap.get? b = some o → h₁.get? b = some o := fun b o e => hsb.extBut b o (Nat.ne_of_lt (Heap.lt_size e)) (Heap.get?_push_of_some _ e)
  exact hev _ _ _ _ _ _ _ _ (fun b o e => hk₁ b o (hh b o e)) hns (by simp) fun tk => hq _ _ hk₁
theorem tup_item {value slice : Expr} {a : Addr} {its : List Value} {i : Int} {t : Tok} {v : Value} {Q : Value → Shared → Prop} (hp : IsTup s.heap a its.toArray) (hz : its.length ≤ sizeLine) (he : L2.atI its i = some v) (h : Q v s)
    (hs : subscripted slice false (.ref a) (.int i t) = operate [.ref a, .int i t] (getItem (.ref a) (.int i t))) : wpAny (model prog w) A (subscriptTail value slice (.ref a) (.int i t)) Q E s := by
  obtain ⟨j, h1, h2, h3, h4, h5⟩ := L2.atI_get he
  have hn := L2.line63
  exact subscriptTail_builtinR (x := v) hp.typeIs slot_tuple_getitem.lookup
    (getItem_tuple (j := j) (Q := fun r s' => r = v ∧ Q r s') hp (by omega) (by omega) (by rw [List.size_toArray]; exact h1) (by simpa using h2) ⟨rfl, h⟩) hs
theorem ev_item {h : Heap} {a : Addr} {its : List Value} {i : Int} {v : Value} {kk : Nat} {p1 p2 p3 : Pos} (hk : scope.kind = .function) (hx : scope.names.lookup x = some .local) (hp : IsTup h a its.toArray) (hz : its.length ≤ sizeLine) (he : L2.atI its i = some v)
    (hd : (x == ("__debug__" : Str)) = false) (hs : ∀ o u, subscripted (.Constant (.int i) kk p2) false o u = operate [o, u] (getItem o u)) :
    LamEv prog w qual scope clos (.Subscript (.Name x p1) (.Constant (.int i) kk p2) p3) x h (.ref a) v := by
  intro A L f cdv s m Q E hh hns hm hq
  refine Subscript_ (wpAny_Name (wpAny_loadName_local hk hx hns hm ?_) hd)
  refine wpAny_Constant_int ?_
  exact tup_item (hp.keeps hh) hz he (hq _) (hs _ _)
theorem ev_place {h : Heap} {y : Str} {c a b : Addr} {its jts : List Value} {i j : Int} {t : Tok} {v : Value} {kk : Nat} {p1 p2 p3 p4 p5 : Pos} (hk : scope.kind = .function) (hx : scope.names.lookup x = some .local) (hy : scope.names.lookup y = some .free) (hc : clos.lookup y = some c)
    (hcell : h.IsCell c (some (.ref a))) (hp : IsTup h a its.toArray) (hz : its.length ≤ sizeLine) (he : L2.atI its i = some (.ref b)) (hp2 : IsTup h b jts.toArray) (hz2 : jts.length ≤ sizeLine) (he2 : L2.atI jts j = some v)
    (hd : (x == ("__debug__" : Str)) = false) (hd2 : (y == ("__debug__" : Str)) = false) (hcd : (y == ("__classdict__" : Str)) = false)
    (hs : ∀ o u, subscripted (.Constant (.int i) kk p2) false o u = operate [o, u] (getItem o u)) (hs2 : ∀ o u, subscripted (.Name x p4) false o u = operate [o, u] (getItem o u)) :
    LamEv prog w qual scope clos (.Subscript (.Subscript (.Name y p1) (.Constant (.int i) kk p2) p3) (.Name x p4) p5) x h (.int j t) v := by
  intro A L f cdv s m Q E hh hns hm hq
  have hcell' : s.heap.IsCell c (some (.ref a)) := let ⟨o, e, d⟩ := hcell; ⟨o, hh _ _ e, d⟩
  refine Subscript_ (Subscript_ (wpAny_Name (wpAny_loadName_free hk hy hc hcell' ?_ hcd) hd2))
  refine wpAny_Constant_int ?_
  refine tup_item (hp.keeps hh) hz he ?_ (hs _ _)
  refine wpAny_Name (wpAny_loadName_local hk hx hns hm ?_) hd
  exact tup_item (hp2.keeps hh) hz2 he2 (hq _) (hs2 _ _)
end
end PySem.W
namespace L2
open PySem PySem.Spec PyProof.Rows
noncomputable def BMain (mg : Str → Option Value) (base : Heap) : Prop := ∃ bm ob, mg "__builtins__" = some (.ref bm) ∧ bm ≠ builtinsNs ∧ base.get? bm = some ob ∧ ob.cls = .type "module" ∧ ob.dict = some builtinsNs ∧ ob.data = .plain
noncomputable def FnLT (K : PySem.W.Frag) (mg : Str → Option Value) (x : Str) (st : Stmt) (ps : List Str) (P : Addr) : Prop :=
  ∃ f fd c, Fun K x x st f fd ∧ fd.code = .ref c ∧ PySem.W.codeHdIn K c P = true ∧ mg x = some (.ref f) ∧ Binds K fd ps []
section
variable {P : Program} {w : World} {K : PySem.W.Frag} {mg : Str → Option Value} {base : Heap}
theorem FnLT.ok {x : Str} {st : Stmt} {N ps : List Str} {pt : Addr} {k : Nat} {sp : Sp} (F : FnLT K mg x st ps pt) (S : FnScope N ps (defScope st)) (len : ∀ vs H Q E, sp vs H Q E → vs.length = ps.length)
    (hbody : ∀ (f c : Addr) (hc : PySem.W.codeHdIn K c pt = true) (A : Around) (outer : List Env) (s : Shared) (H : Hp) (vs : List V) (Q : VK) (E : XK), Room k (A.deeper (envOfC x (defScope st) s.heap.objs.size f (.ref c))) → sp vs H Q E →
      ∃ t, PSs (cxOf CX0 P w K mg base N x (defScope st) f (.ref c) A outer s H E).nox (defBody st) t ∧ t { nx := fun _ H' => Q .non H', rt := Q } (start N vs) H) : Fn P w K mg base x (k + 1) ps sp := by
  obtain ⟨f, fd, c, F, hcd, hc, m, b⟩ := F
  refine ⟨f, fd, ?_, m, F.kp, b⟩
  obtain ⟨oc, od, kV, doc, pm, an, cdv, ct, osl, rfl, lk, hcd'⟩ := F.ex
  have e : cdv = .ref c := hcd
  subst e
  refine fn_of lk hcd' S len fun A outer s H vs Q E hr hsp => ?_
  obtain ⟨t, h, q⟩ := hbody f c hc A outer s H vs Q E hr hsp
  exact ⟨t, h.nox, q⟩
theorem fnLT_mk {x : Str} {st : Stmt} {ps : List Str} {h : Heap} {f c pt : Addr} {oc : Value} {od an : Option Addr} {osl : Array (Option Value)} {kV doc pm cdv ct : Value} (X : K.In h) (G : h.Ns mainGlobals mg)
    (a : PySem.W.nsIn K mainGlobals x = some (some (.ref f)))
    (l : K.lookup f = some ⟨oc, od, .func (PySem.W.fnOf x x (defArgs st) (defBody st) (defScope st) .none kV doc pm an cdv ct), osl⟩)
    (c' : PySem.W.codeIn K cdv x = true) (k : PySem.W.keepIn K (.ref f) = true) (hcd : cdv = .ref c) (hc : PySem.W.codeHdIn K c pt = true)
    (hb : ∀ (kV doc pm : Value) (an : Option Addr) (cdv ct : Value) (us : List Value), us.length = ps.length → bindArgs (PySem.W.fnOf x x (defArgs st) (defBody st) (defScope st) .none kV doc pm an cdv ct) ⟨us, []⟩ = pure (ps.zip us)) : FnLT K mg x st ps pt :=
  ⟨f, _, c, fun_mk l c' k, hcd, hc, PySem.W.mg_of X G a, (fun_mk l c' k).binds hb⟩
theorem FnLT.l {x : Str} {st : Stmt} {ps : List Str} {pt : Addr} (F : FnLT K mg x st ps pt) : FnL K mg x st ps := let ⟨f, fd, _, a, _, _, m, b⟩ := F; ⟨f, fd, a, m, b⟩
end
section
variable {X : Cx} {pins : List (Addr × Obj)} {σ : St} {H : Hp} {s : Shared}
theorem lam_make {c pt : Addr} {q : Str} {params : Arguments} {body : Expr} {scope : Scope} {pos : Pos} {clos : List (Str × Addr)} {Q : Value → Shared → Prop} {E : Value → Shared → Prop} (I : Inv X pins σ H s) (hP : H pt = some (.tab q)) (hq : X.env.qual ++ "<lambda>" = q) (hcode : X.env.code = .ref c)
    (hc : PySem.W.codeHdIn X.K c pt = true) (bm : BMain X.mg X.base) (hdef : defaultsOf params X.env = ([], [])) (hcl : closureFor scope X.env = pure clos)
    (h : ∀ (f c' : Addr) (pm ctv : Value) (s' : Shared) (H' : Hp), Inv X pins σ H' s' → Same H H' → (∀ b u, s.heap.get? b = some u → H b = none → s'.heap.get? b = some u) → s.heap.objs.size ≤ s'.heap.objs.size → s'.heap.get? f = some (PySem.W.kla_obj "<lambda>" q params body scope clos pm c' ctv) → s'.heap.CodeRec (.ref c') q → Q (.ref f) s') :
    wpAny (model X.prog X.w) X.A (eval (.Lambda params body scope pos) X.env) Q E s := by
  obtain ⟨ps, e, ht, hcs⟩ := (show ObjOk X.prog X.w H s.heap pt (.tab q) from I.hok pt _ hP)
  have C : PySem.W.CodeHd s.heap c pt := (PySem.W.codeHd_of_K I.mod.kin hc).keeps I.bk
  obtain ⟨b, ob, b1, b2, b3, b4, b5, b6⟩ := bm
  have hgs : s.heap.Ns mainGlobals X.mg := I.mod.glob.keeps I.bk
  have hgP : mainGlobals ≠ pt := fun z => by
    obtain ⟨o, es, ep, e', hd, _⟩ := hgs
    rw [z, e] at e'; cases e'; cases hd
  have hbP : b ≠ pt := fun z => by
    have := (I.bs _ _ b3).2
    rw [z, hP] at this; cases this
  have hbG : b ≠ mainGlobals := fun z => by
    obtain ⟨o, es, ep, e', hd, _⟩ := I.mod.glob
    rw [z, e'] at b3; cases b3; rw [hd] at b6; cases b6
  have hB : s.heap.BuiltinsAt X.mg pt := ⟨b, ob, b1, b2, hbG, hbP, I.bk _ _ b3, b4, b5, b6⟩
  refine PySem.W.kla_eval hdef ?_
  rw [hq]
  cases hf : codeAmong pos ps.toList with
  | some cv =>
    obtain ⟨c', rfl, ne, hw, hrec⟩ := hcs pos cv hf
    refine PySem.W.kla_makeFunctionHit hcl I.ok.glob hgs hcode C e ht hf hB fun ctv h' tk hk hsz => ?_
    have k2 : ∀ b o, s.heap.get? b = some o → (h'.push (PySem.W.kla_obj "<lambda>" q params body scope clos ((X.mg "__name__").getD .none) c' ctv)).get? b = some o := fun b o e => Heap.get?_push_of_some _ (hk b o e)
    exact h _ c' _ ctv _ H (I.kept (t' := tk) k2) (Same.refl H) (fun b u e _ => k2 b u e) (by show _ ≤ (h'.push _).objs.size; rw [Heap.size_push]; omega) (Heap.get?_push_size _ rfl) (hrec.keeps k2)
  | none =>
    refine PySem.W.kla_makeFunction hcl I.ok.glob hgs hcode C e ht hf hgP hB fun c' ctv h' tk hx hge hlt hrec htb => ?_
    have hfr : H c' = none := I.hok.fresh hge
    have hcp : c' ≠ pt := fun z => by rw [z, hP] at hfr; cases hfr
    have k1 : ∀ b o, b ≠ pt → s.heap.get? b = some o → (h'.push (PySem.W.kla_obj "<lambda>" q params body scope clos ((X.mg "__name__").getD .none) c' ctv)).get? b = some o := fun b o hb e => Heap.get?_push_of_some _ (hx b o hb e)
    have nP : ∀ b, H b = none → b ≠ pt := fun b n z => by rw [z, hP] at n; cases n
    have nc : ∀ b o, s.heap.get? b = some o → b ≠ c' := fun b o e => Nat.ne_of_lt (Nat.lt_of_lt_of_le (Heap.lt_size e) hge)
    have htb' : (h'.push (PySem.W.kla_obj "<lambda>" q params body scope clos ((X.mg "__name__").getD .none) c' ctv)).get? pt = some (PySem.W.tabObj (ps ++ #[rawInt pos.line, rawInt pos.col, .ref c'])) := Heap.get?_push_of_some _ htb
    have hrec' := hrec.push (PySem.W.kla_obj "<lambda>" q params body scope clos ((X.mg "__name__").getD .none) c' ctv)
    have S : Same H (upd H c' (.own pt)) := fun b o e => by rw [upd_ne (ne_of_none e hfr)]; exact e
    have un : Un X.fs [] H (upd H c' (.own pt)) s.heap (h'.push (PySem.W.kla_obj "<lambda>" q params body scope clos ((X.mg "__name__").getD .none) c' ctv)) :=
      ⟨fun b o e n _ _ => k1 b o (nP b n) e, fun b o e n _ _ => ⟨o.slots, k1 b o (nP b n) e⟩, fun b o e n _ => by rw [upd_ne (nc b o e)]; exact n,
        fun b o e _ => by
          by_cases hb : b = pt
          · subst hb; exact ⟨_, htb'⟩
          · exact ⟨o, k1 b o hb e⟩,
        fun b xs e => S _ _ e, fun b o u e => S _ _ e, fun b ps e => ⟨#[], by rw [S _ _ e]; simp⟩⟩
    have hok : HOk X.prog X.w (upd H c' (.own pt)) (h'.push (PySem.W.kla_obj "<lambda>" q params body scope clos ((X.mg "__name__").getD .none) c' ctv)) := fun b u eb => by
      by_cases hbc : b = c'
      · subst hbc
        rw [upd_same] at eb
        cases eb
        obtain ⟨c2, o, vs, t, e1, e2, _⟩ := hrec'
        cases e1
        exact ⟨o, e2⟩
      · rw [upd_ne hbc] at eb
        by_cases hb : b = pt
        · subst hb
          rw [hP] at eb
          cases eb
          refine ⟨ps ++ #[rawInt pos.line, rawInt pos.col, .ref c'], htb', ?_, fun pos' cv z => ?_⟩
          · rw [Array.toList_append]
            exact PySem.W.triples_app _ ht trivial
          · rw [Array.toList_append, PySem.W.among_app _ ht] at z
            cases z1 : codeAmong pos' ps.toList with
            | some cv' =>
              rw [z1] at z
              have z' : cv' = cv := by simpa using z
              subst z'
              obtain ⟨d, rfl, ne, hw, c2, o, vs, t, e1, e2, e3⟩ := hcs pos' cv' z1
              cases e1
              exact ⟨d, rfl, ne, S _ _ hw, d, o, vs, t, rfl, k1 _ _ ne e2, e3⟩
            | none =>
              rw [z1] at z
              have z' : Value.ref c' = cv := by
                simp only [Option.none_or, rawInt, codeAmong] at z
                split at z
                · exact Option.some.inj z
                · cases z
              subst z'
              exact ⟨c', rfl, hcp, upd_same, hrec'⟩
        · refine (I.hok b u eb).stay (fun d v hd r => k1 d v ?_ r) (fun d r => S _ _ r) fun d xs r => S _ _ r
          rcases hd with rfl | hd
          · exact hb
          · exact fun z => by rw [z, hP] at hd; cases hd
    exact h _ c' _ ctv _ _ (I.un (t' := tk) un hok) S (fun b u e n => k1 b u (nP b n) e) (by show _ ≤ (h'.push _).objs.size; rw [Heap.size_push]; omega) (Heap.get?_push_size _ rfl) hrec'
end
end L2
set_option Elab.async false
set_option linter.all false
set_option maxRecDepth 100000
namespace L2
open PySem PySem.Spec PyProof.Rows
open PySem.W (Ky VKy PermR Srt ltK)
noncomputable def KyV (H : Hp) (v : V) : Ky → Prop
  | .s x => v = .str x
  | .i n => v = .int n
  | .r l => ∃ a, v = .ref a ∧ H a = some (.tup (l.map V.int))
theorem KyV.same {H H' : Hp} {v : V} (e : Same H H') : ∀ {k : Ky}, KyV H v k → KyV H' v k
  | .s _, h => h
  | .i _, h => h
  | .r _, ⟨a, h1, h2⟩ => ⟨a, h1, e _ _ h2⟩
section
variable {prog : Program} {w : World} {A : Around} {E : Value → Shared → Prop} {s : Shared}
theorem col_heap (s : Shared) (us : List Value) : (∀ b o, s.heap.get? b = some o → ((s.heap.push (seqObj "list" #[] 0)).update s.heap.objs.size (Obj.mapSeq (· ++ us.toArray))).get? b = some o) ∧ s.heap.objs.size ≤ ((s.heap.push (seqObj "list" #[] 0)).update s.heap.objs.size (Obj.mapSeq (· ++ us.toArray))).objs.size := by
  refine ⟨fun b o e => ?_, ?_⟩
  · have hlt : b < s.heap.objs.size := Heap.lt_size e
    rw [Heap.get?_update_ne _ _ _ _ (Nat.ne_of_lt hlt), Heap.get?_push_ne _ _ _ (Nat.ne_of_lt hlt)]
    exact e
  · rw [Heap.size_update, size_push']; omega
theorem col_tup {t : Addr} {us : List Value} (ht : s.heap.IsTuple t us.toArray) (hn : us.length ≤ 1000) (Q' : List Value → Shared → Prop)
    (k : ∀ (h' : Heap) (tk : Nat), (∀ b o, s.heap.get? b = some o → h'.get? b = some o) → s.heap.objs.size ≤ h'.objs.size → Q' us { s with heap := h', toks := tk }) : wpAny (model prog w) A (collect (.ref t)) Q' E s :=
  collect_tup ht hn (k _ s.toks (col_heap s us).1 (col_heap s us).2)
theorem col_lst {t : Addr} {us : List Value} (ht : s.heap.IsList t us.toArray) (hn : us.length ≤ 1000) (Q' : List Value → Shared → Prop)
    (k : ∀ (h' : Heap) (tk : Nat), (∀ b o, s.heap.get? b = some o → h'.get? b = some o) → s.heap.objs.size ≤ h'.objs.size → Q' us { s with heap := h', toks := tk }) : wpAny (model prog w) A (collect (.ref t)) Q' E s :=
  collect_list ht (k _ s.toks (col_heap s us).1 (col_heap s us).2) (by rw [sizeLine_eq]; omega)
end
theorem vals_at : ∀ {xs : List V} {us : List Value} (i : Nat), Vals xs us → i < xs.length → RelV (xs.getD i .non) (us.getD i .none)
  | _, _, i, .nil, h => by simp at h
  | _, _, 0, .cons r _, _ => by simpa using r
  | _, _, i + 1, .cons _ t, h => by simpa using vals_at i t (by simpa using h)
theorem vals_pick {xs : List V} {us : List Value} (r : Vals xs us) : ∀ {l : List Nat}, (∀ i ∈ l, i < xs.length) → Vals (l.map fun i => xs.getD i .non) (l.map fun i => us.getD i .none)
  | [], _ => .nil
  | i :: l, h => .cons (vals_at i r (h i List.mem_cons_self)) (vals_pick r fun j hj => h j (List.mem_cons_of_mem _ hj))
theorem permR_mem {n : Nat} {p : Array Nat} (h : PermR n p) : ∀ i ∈ p.toList, i < n := fun i hi => List.mem_range.mp (h.mem_iff.mp hi)
theorem permR_pick {α : Type} {zs : List α} {d : α} {p : Array Nat} (h : PermR zs.length p) : (p.toList.map fun i => zs.getD i d).Perm zs := by
  have e : ((List.range zs.length).map fun i => zs.getD i d) = zs := by
    apply List.ext_getElem?
    intro i
    by_cases hi : i < zs.length
    · simp [hi]
    · simp [hi]
  have := h.map fun i => zs.getD i d
  rwa [e] at this
theorem srt_pick {α : Type} {f : α → Ky} {zs : List α} {d : α} {p : Array Nat} (hp : PermR zs.length p) (h : Srt (ltK (zs.map f)) p zs.length) : ((p.toList.map fun i => zs.getD i d).map f).Pairwise Ky.le := by
  rw [List.map_map, List.pairwise_map, List.pairwise_iff_getElem]
  intro i j hi hj hij
  have hz := hp.size
  have hi' : i < p.size := by simpa using hi
  have hj' : j < p.size := by simpa using hj
  have q := h i j hij (by omega)
  have e1 : p.getD i 0 = p[i] := by simp [Array.getD, hi']
  have e2 : p.getD j 0 = p[j] := by simp [Array.getD, hj']
  have l1 : p[i] < zs.length := permR_mem hp _ (by simp)
  have l2 : p[j] < zs.length := permR_mem hp _ (by simp)
  unfold ltK at q
  rw [e1, e2] at q
  simp only [List.getD_eq_getElem?_getD, List.getElem?_map, List.getElem?_eq_getElem l1, List.getElem?_eq_getElem l2, Option.map_some, Option.getD_some] at q
  unfold Ky.le
  simp only [Function.comp, Array.getElem_toList, List.getD_eq_getElem?_getD, List.getElem?_eq_getElem l1, List.getElem?_eq_getElem l2, Option.getD_some]
  exact q
section
variable {X : Cx}
noncomputable def rSortG : List V → Hp → VK → Prop := fun xs H Q => ∃ p, xs = [.ref p] ∧ ∃ zs : List (V × Ky), (H p = some (.lst (zs.map (·.1))) ∨ H p = some (.tup (zs.map (·.1)))) ∧ zs.length < 64 ∧ (∀ z ∈ zs, KyV H z.1 z.2) ∧ (∃ t : Nat, ∀ z ∈ zs, z.2.tag = t ∧ z.2 ≠ .r []) ∧
  ∀ (q : Addr) (zs' : List (V × Ky)), H q = none → zs'.Perm zs → (zs'.map (·.2)).Pairwise Ky.le → Q (.ref q) (upd H q (.lst (zs'.map (·.1))))
theorem ky_pairs {pins : List (Addr × Obj)} {σ : St} {H : Hp} {s : Shared} (I : Inv X pins σ H s) : ∀ {zs : List (V × Ky)} {us : List Value}, Vals (zs.map (·.1)) us → (∀ z ∈ zs, KyV H z.1 z.2) → Paired (VKy s.heap) us (zs.map (·.2))
  | [], _, r, _ => by cases r; exact .nil
  | (v, k) :: zs, _, r, h => by
    cases r with
    | cons r1 r2 =>
      refine .cons ?_ (ky_pairs I r2 fun z hz => h z (List.mem_cons_of_mem _ hz))
      have hk := h (v, k) List.mem_cons_self
      cases k with
      | s x => cases (show v = .str x from hk); exact r1
      | i x => cases (show v = .int x from hk); exact r1
      | r l =>
        obtain ⟨a, e, ha⟩ := hk
        have e : v = .ref a := e
        subst e
        obtain ⟨its, rv, pl, _⟩ := I.tuple (SqT.of ha)
        exact ⟨a, its, r1, pl, intsAre_of rv⟩
theorem call_sortG : CallR X (.builtin "sorted") rSortG := by
  intro pins s σ H xs us Q I r h
  obtain ⟨p, rfl, zs, hp, hl, hk, ⟨t, ht⟩, q⟩ := h
  obtain ⟨u, rfl, ru⟩ := vals1 r
  cases ru
  have main : ∀ its : List Value, Vals (zs.map (·.1)) its → (∀ Q' : List Value → Shared → Prop, (∀ (h' : Heap) (tk : Nat), (∀ b o, s.heap.get? b = some o → h'.get? b = some o) → s.heap.objs.size ≤ h'.objs.size → Q' its { s with heap := h', toks := tk }) → wpAny (model X.prog X.w) X.A.in1 (collect (.ref p)) Q' X.xe s) →
      wpAny (model X.prog X.w) X.A (call (.builtin "sorted") [.ref p]) (EP X pins σ Q) X.xe s := by
    intro its rv hcol
    have hlen := rv.length
    rw [List.length_map] at hlen
    refine PySem.W.sorted_ky (t := t) (ks := zs.map (·.2)) hcol (by omega) (ky_pairs I rv hk) (fun k hm => ?_) fun h' a tk c pm hpm hsr hz hold he => ?_
    · obtain ⟨z, hz, rfl⟩ := List.mem_map.mp hm
      exact ht z hz
    · rw [← hlen] at hpm hsr
      have hpz : PermR zs.length pm := hpm
      have hpm' : PermR (zs.map (·.1)).length pm := by rw [List.length_map]; exact hpm
      have e1 : (pm.toList.map fun i => zs.getD i (V.non, Ky.i 0)).map (·.1) = pm.toList.map fun i => (zs.map (·.1)).getD i .non := by
        rw [List.map_map]
        refine List.map_congr_left fun i hi => ?_
        have := permR_mem hpz i hi
        simp [List.getD_eq_getElem?_getD, this]
      have new : ObjOk X.prog X.w (upd H a (.lst ((pm.toList.map fun i => zs.getD i (V.non, Ky.i 0)).map (·.1)))) h' a (.lst ((pm.toList.map fun i => zs.getD i (V.non, Ky.i 0)).map (·.1))) := by
        refine ⟨?_, _, c, ?_, he⟩
        · rw [List.length_map, List.length_map, Array.length_toList, hpz.size]; exact Nat.le_of_lt (small1000 (by omega))
        · rw [e1]; exact vals_pick rv (permR_mem hpm')
      exact ⟨.ref a, _, I.laid (t' := tk) hold hz new, rfl, q a _ (I.hok.fresh hz) (permR_pick hpz) (srt_pick hpz hsr)⟩
  rcases hp with hp | hp
  · obtain ⟨its, rv, pl, _⟩ := I.list (SqL.of hp)
    have hlen := rv.length
    rw [List.length_map] at hlen
    exact main its rv fun Q' k => col_lst pl.isList (by omega) Q' k
  · obtain ⟨its, rv, pl, _⟩ := I.tuple (SqT.of hp)
    have hlen := rv.length
    rw [List.length_map] at hlen
    exact main its rv fun Q' k => col_tup (show s.heap.IsTuple p its.toArray from pl) (by omega) Q' k
theorem key_vals {Ev : Value → Value → Prop} {h : Heap} : ∀ {zs : List (V × Str)} {us : List Value}, Vals (zs.map (·.1)) us → (∀ z ∈ zs, ∀ u, RelV z.1 u → ∃ t, Ev u (.str z.2 t)) → ∃ kvs : List Value, kvs.length = us.length ∧ Paired (VKy h) kvs (zs.map fun z => Ky.s z.2) ∧ ∀ (i : Nat) x k, us[i]? = some x → kvs[i]? = some k → Ev x k
  | [], _, r, _ => by cases r; exact ⟨[], rfl, .nil, fun i x k e => by simp at e⟩
  | (v, x) :: zs, _, r, hE => by
    cases r with
    | cons r1 r2 =>
      obtain ⟨kvs, a, b, c⟩ := key_vals (h := h) r2 fun z hz => hE z (List.mem_cons_of_mem _ hz)
      obtain ⟨t, ht⟩ := hE (v, x) List.mem_cons_self _ r1
      refine ⟨.str x t :: kvs, by simp [a], .cons ⟨t, rfl⟩ b, fun i y k e1 e2 => ?_⟩
      cases i with
      | zero =>
        simp only [List.getElem?_cons_zero, Option.some.injEq] at e1 e2
        rw [← e1, ← e2]; exact ht
      | succ i => exact c i y k (by simpa using e1) (by simpa using e2)
theorem sort_lam {pins : List (Addr × Obj)} {σ : St} {H : Hp} {s : Shared} {Q : VK} {u : Value} {zs : List (V × Str)} {f c' : Addr} {pm ctv : Value} {q x : Str} {params : Arguments} {body : Expr} {scope : Scope} {clos : List (Str × Addr)} {k : Nat}
    (I : Inv X pins σ H s) (hr : Room k X.A) (hl : zs.length < 64)
    (hcol : ∀ Q' : List Value → Shared → Prop, (∀ (its : List Value) (h' : Heap) (tk : Nat), Vals (zs.map (·.1)) its → (∀ b o, s.heap.get? b = some o → h'.get? b = some o) → s.heap.objs.size ≤ h'.objs.size → Q' its { s with heap := h', toks := tk }) → wpAny (model X.prog X.w) X.A.in1 (collect u) Q' X.xe s)
    (ho : s.heap.get? f = some (PySem.W.kla_obj "<lambda>" q params body scope clos pm c' ctv)) (hcd : s.heap.CodeRec (.ref c') q)
    (hbind : ∀ u, bindArgs (PySem.W.kla_fn "<lambda>" q params body scope clos pm (.ref c') ctv) ⟨[u], []⟩ = pure [(x, u)]) (hx : scope.names.lookup x = some .local) (hk : scope.kind = .function) (hco : scope.isCoroutine = false) (hgen : scope.isGenerator = false) (hcell : ∀ y ∈ scope.names, y.2 ≠ .cell)
    (hev : ∀ z ∈ zs, ∀ u, RelV z.1 u → ∃ t, PySem.W.LamEv X.prog X.w q scope clos body x s.heap u (.str z.2 t))
    (h : ∀ (a : Addr) (zs' : List (V × Str)), H a = none → zs'.Perm zs → (zs'.map fun z => Ky.s z.2).Pairwise Ky.le → Q (.ref a) (upd H a (.lst (zs'.map (·.1))))) :
    wpAny (model X.prog X.w) X.A (call (.builtin "sorted") [u] [(Str.ofString "key", .ref f)]) (EP X pins σ Q) X.xe s := by
  refine PySem.W.sorted_keyed (t := 0) (ks := zs.map fun z => Ky.s z.2) (G := fun its => Vals (zs.map (·.1)) its) hcol (fun k hm => ?_) (fun its rv => ?_) fun its h' a tk c p rv hpm hsr hz hold he => ?_
  · obtain ⟨z, _, rfl⟩ := List.mem_map.mp hm
    exact ⟨rfl, fun z => nomatch z⟩
  · have hlen := rv.length
    rw [List.length_map] at hlen
    obtain ⟨kvs, k1, k2, k3⟩ := key_vals (h := s.heap) rv hev
    refine ⟨by omega, kvs, k1, k2, fun i y k e1 e2 h' tk Q' hold hq => ?_⟩
    exact PySem.W.lam_call (s := { s with heap := h', toks := tk }) (hold _ _ ho) (hcd.keeps hold) hr.depth (I.nolimit.keeps hold) (hbind y) hx hk hco hgen hcell (k3 i y k e1 e2) hold hq
  · have hlen := rv.length
    rw [List.length_map] at hlen
    rw [← hlen] at hpm hsr
    have hpm' : PermR (zs.map (·.1)).length p := by rw [List.length_map]; exact hpm
    have e1 : (p.toList.map fun i => zs.getD i (V.non, "")).map (·.1) = p.toList.map fun i => (zs.map (·.1)).getD i .non := by
      rw [List.map_map]
      refine List.map_congr_left fun i hi => ?_
      have := permR_mem hpm i hi
      simp [List.getD_eq_getElem?_getD, this]
    have new : ObjOk X.prog X.w (upd H a (.lst ((p.toList.map fun i => zs.getD i (V.non, "")).map (·.1)))) h' a (.lst ((p.toList.map fun i => zs.getD i (V.non, "")).map (·.1))) := by
      refine ⟨?_, _, c, ?_, he⟩
      · rw [List.length_map, List.length_map, Array.length_toList, hpm.size]; exact Nat.le_of_lt (small1000 (by omega))
      · rw [e1]; exact vals_pick rv (permR_mem hpm')
    exact ⟨.ref a, _, I.laid (t' := tk) hold hz new, rfl, h a _ (I.hok.fresh hz) (permR_pick hpm) (srt_pick (f := fun z : V × Str => Ky.s z.2) hpm hsr)⟩
theorem rel_atI {xs : List V} {us : List Value} {i : Int} {v : V} (r : Vals xs us) (h : atI xs i = some v) : ∃ u, atI us i = some u ∧ RelV v u := by
  unfold atI at h ⊢
  rw [← r.length]
  obtain ⟨j, h1, h2⟩ := Option.bind_eq_some_iff.mp h
  obtain ⟨u, e, q⟩ := r.get h2
  exact ⟨u, by rw [h1]; exact e, q⟩
noncomputable def tSortA (pt : Addr) (q : Str) (i : Int) (te : TE) : TE := fun σ H Q => te σ H fun x H1 => ∃ p, x = .ref p ∧ ∃ zs : List (V × Str), H1 p = some (.tup (zs.map (·.1))) ∧ zs.length < 64 ∧ H1 pt = some (.tab q) ∧ (∀ z ∈ zs, ∃ b ys, z.1 = .ref b ∧ H1 b = some (.tup ys) ∧ atI ys i = some (.str z.2)) ∧
  ∀ (H2 : Hp) (r : Addr) (zs' : List (V × Str)), Same H1 H2 → H2 r = none → zs'.Perm zs → (zs'.map fun z => Ky.s z.2).Pairwise Ky.le → Q (.ref r) (upd H2 r (.lst (zs'.map (·.1))))
theorem pe_sortA {e0 : Expr} {te : TE} {params : Arguments} {scope : Scope} {x : Str} {i : Int} {kk : Nat} {p p1 p2 p3 lpos kp pos : Pos} {clos : List (Str × Addr)} {c pt : Addr} {q : Str} {k : Nat}
    (hr : Room k X.A) (hg : Gl X "sorted") (hm : X.mg "sorted" = none) (ha : PE X e0 te) (hcode : X.env.code = .ref c) (hc : PySem.W.codeHdIn X.K c pt = true) (bm : BMain X.mg X.base)
    (hq : X.env.qual ++ "<lambda>" = q) (hdef : defaultsOf params X.env = ([], [])) (hcl : closureFor scope X.env = pure clos)
    (hbind : ∀ pm c' ctv u, bindArgs (PySem.W.kla_fn "<lambda>" q params (.Subscript (.Name x p1) (.Constant (.int i) kk p2) p3) scope clos pm (.ref c') ctv) ⟨[u], []⟩ = pure [(x, u)]) (hx : scope.names.lookup x = some .local) (hk : scope.kind = .function) (hco : scope.isCoroutine = false) (hgen : scope.isGenerator = false) (hcell : ∀ y ∈ scope.names, y.2 ≠ .cell)
    (hd : (x == ("__debug__" : Str)) = false) (hs : ∀ o u, subscripted (.Constant (.int i) kk p2) false o u = operate [o, u] (getItem o u))
    (he : starEach [e0] X.env = [(false, eval e0 X.env)] := by rfl) :
    PE X (.Call (.Name "sorted" p) [e0] [⟨some "key", .Lambda params (.Subscript (.Name x p1) (.Constant (.int i) kk p2) p3) scope lpos, kp⟩] pos) (tSortA pt q i te) := by
  intro pins s σ H Q I h
  refine wpAny_Call_Name_kw (ld_blt I hg hm (by decide +kernel : bootBuiltins "sorted" = some (.builtin "sorted")) ?_)
  refine callWith_kw ?_ (by show backTo pos (starEach [e0] X.env) = _; rw [he]; rfl) (by rw [he]; rfl)
  rw [he]
  refine Calls.spliced_cons (thn (ha pins s σ H _ I h) fun u s1 ⟨v, H1, I1, r1, p0, ev, zs, hp, hl, hP, hz, hQ⟩ => Calls.spliced_nil ?_)
  subst ev
  cases r1
  refine kws_cons (lam_make (q := q) I1 hP hq hcode hc bm hdef hcl fun f c' pm ctv s2 H2 I2 sm _ _ ho hcd => kws_nil ?_)
  obtain ⟨its, rv, pl, _⟩ := I2.tuple (SqT.of (sm _ _ hp))
  have hlen := rv.length
  rw [List.length_map] at hlen
  refine sort_lam (x := x) (zs := zs) I2 hr hl (fun Q' k => col_tup (show s2.heap.IsTuple p0 its.toArray from pl) (by omega) Q' fun h' tk => k its h' tk rv) ho hcd (hbind pm c' ctv) hx hk hco hgen hcell (fun z hzm u ru => ?_) fun a zs' hf hpm hsr => hQ H2 a zs' sm hf hpm hsr
  obtain ⟨b, ys, ez, hb, hat⟩ := hz z hzm
  rw [ez] at ru
  cases ru
  obtain ⟨jts, rj, pj, hzj⟩ := I2.tuple (SqT.of (sm _ _ hb))
  obtain ⟨w', hw1, t, hw2⟩ := rel_atI rj hat
  subst hw2
  exact ⟨t, PySem.W.ev_item hk hx pj (by rw [← rj.length]; exact hzj) hw1 hd hs⟩
noncomputable def tSortB (pt : Addr) (q : Str) (i : Int) (j : Nat) (ta : TA) : TE := fun σ H Q => ta σ H fun vs H1 => ∃ n : Int, vs = [.int n] ∧ ∃ (pw : Addr) (xs : List V) (pn : Addr) (ys : List Str), σ[j]? = some (some (.ref pw)) ∧ H1 pw = some (.tup xs) ∧ atI xs i = some (.ref pn) ∧ H1 pn = some (.tup (ys.map V.str)) ∧ n = ys.length ∧ ys.length < 64 ∧ H1 pt = some (.tab q) ∧
  ∀ (H2 : Hp) (r : Addr) (zs' : List (Nat × Str)), Same H1 H2 → H2 r = none → zs'.Perm ((List.range ys.length).zip ys) → (zs'.map fun z => Ky.s z.2).Pairwise Ky.le → Q (.ref r) (upd H2 r (.lst (zs'.map fun z => V.int z.1)))
theorem pe_sortB {e1 : Expr} {ta : TA} {params : Arguments} {scope : Scope} {x y : Str} {i : Int} {j : Nat} {kk : Nat} {p p' p1 p2 p3 p4 p5 lpos kp pos pos2 : Pos} {clos : List (Str × Addr)} {c cy pt : Addr} {q : Str} {k : Nat}
    (hr : Room k X.A) (hcm : X.calm = true) (hg : Gl X "sorted") (hm : X.mg "sorted" = none) (hg2 : Gl X "range") (hm2 : X.mg "range" = none) (ha : PA X [e1] ta) (hcode : X.env.code = .ref c) (hc : PySem.W.codeHdIn X.K c pt = true) (bm : BMain X.mg X.base)
    (hq : X.env.qual ++ "<lambda>" = q) (hdef : defaultsOf params X.env = ([], [])) (hcl : closureFor scope X.env = pure clos)
    (hN : X.N[j]? = some y) (hv : X.env.kindOf y = some .cell) (hcy : X.env.cells.lookup y = some cy) (hcl2 : clos.lookup y = some cy)
    (hbind : ∀ pm c' ctv u, bindArgs (PySem.W.kla_fn "<lambda>" q params (.Subscript (.Subscript (.Name y p1) (.Constant (.int i) kk p2) p3) (.Name x p4) p5) scope clos pm (.ref c') ctv) ⟨[u], []⟩ = pure [(x, u)]) (hx : scope.names.lookup x = some .local) (hy : scope.names.lookup y = some .free) (hk : scope.kind = .function) (hco : scope.isCoroutine = false) (hgen : scope.isGenerator = false) (hcell : ∀ y ∈ scope.names, y.2 ≠ .cell)
    (hd : (x == ("__debug__" : Str)) = false) (hd2 : (y == ("__debug__" : Str)) = false) (hcd : (y == ("__classdict__" : Str)) = false) (hs : ∀ o u, subscripted (.Constant (.int i) kk p2) false o u = operate [o, u] (getItem o u)) (hs2 : ∀ o u, subscripted (.Name x p4) false o u = operate [o, u] (getItem o u))
    (he : starEach [e1] X.env = [(false, eval e1 X.env)] := by rfl) :
    PE X (.Call (.Name "sorted" p) [.Call (.Name "range" p') [e1] [] pos2] [⟨some "key", .Lambda params (.Subscript (.Subscript (.Name y p1) (.Constant (.int i) kk p2) p3) (.Name x p4) p5) scope lpos, kp⟩] pos) (tSortB pt q i j ta) := by
  intro pins s σ H Q I h
  refine wpAny_Call_Name_kw (ld_blt I hg hm (by decide +kernel : bootBuiltins "sorted" = some (.builtin "sorted")) ?_)
  refine callWith_kw (Calls.spliced_cons ?_) rfl rfl
  refine wpAny_Call_Name_kw (ld_blt I hg2 hm2 boot_range ?_)
  refine PyProof.Rows.callWith_type1 (thn (ha pos2 pins s σ H _ I h) fun us s1 zr7248 => ?_) he rfl
  obtain ⟨vs, H1, I1, r1, n, ev, pw, xs, pn, ys, hsg, hpw, hat, hpn, hn, hl, hP, hQ⟩ := zr7248
  subst ev
  obtain ⟨u, rfl, ru⟩ := vals1 r1
  obtain ⟨t, rfl⟩ := ru
  refine call_range_1 (Calls.spliced_nil ?_)
  have hsz : Builtin.Range.rangeSize 0 n 1 = ((ys.length : Nat) : Int) := by rw [rangeSize_one]; split <;> omega
  refine kws_cons (lam_make (q := q) (I1.kept fun b o e => Heap.get?_push_of_some _ e) hP hq hcode hc bm hdef hcl fun f c' pm ctv s2 H2 I2 sm hkp _ ho hcd' => kws_nil ?_)
  have hrg := hkp _ _ (IsRange.new ..) (I1.hok.fresh (Nat.le_refl _))
  obtain ⟨zs, hzs⟩ : ∃ zs : List (V × Str), zs = ((List.range ys.length).zip ys).map fun z => (V.int z.1, z.2) := ⟨_, rfl⟩
  have hzl : zs.length = ys.length := by rw [hzs]; simp
  have hz1 : zs.map (·.1) = rngV 0 ys.length := by
    rw [hzs, List.map_map]
    unfold rngV
    have : ((fun x : V × Str => x.1) ∘ fun z : Nat × Str => (V.int z.1, z.2)) = (fun n : Nat => V.int n) ∘ Prod.fst := rfl
    rw [this, ← List.map_map, List.map_fst_zip (by simp)]
    exact List.map_congr_left fun i _ => by simp
  -- the captured tuple
  obtain ⟨m, _, hloc⟩ := I2.loc
  obtain ⟨uw, rw1, lw⟩ := hloc j y (.ref pw) hN hsg (.inr (.inl hv))
  cases rw1
  have hcell2 : s2.heap.IsCell cy (some (.ref pw)) := by
    rcases lw with ⟨z, _⟩ | ⟨_, c0, z, hz⟩
    · rw [hv] at z; cases z
    · rw [hcy] at z; cases z; exact hz
  obtain ⟨its, rv, pl, hz⟩ := I2.tuple (SqT.of (sm _ _ hpw))
  obtain ⟨ub, hub, rub⟩ := rel_atI rv hat
  cases rub
  obtain ⟨jts, rj, pj, hzj⟩ := I2.tuple (SqT.of (sm _ _ hpn))
  exact
    sort_lam (x := x) (zs := zs) I2 hr (by omega) (fun Q' k => collect_range (A := X.A.in1) (I2.ok.hd hcm) hrg (small_one (by decide) (by decide) (by omega) (by omega)) hsz (by omega) fun h' tk acc hk hsz' hacc => k acc.toList h' tk (by rw [hz1]; exact vals_rng hacc) hk (Nat.le_of_lt hsz')) ho hcd' (hbind pm c' ctv) hx hk hco hgen hcell (fun z hzm u ru => by
      rw [hzs] at hzm
      obtain ⟨z', hz', rfl⟩ := List.mem_map.mp hzm
      obtain ⟨t', rfl⟩ := ru
      obtain ⟨k', hk1, hk2⟩ := List.getElem_of_mem hz'
      have hkl : k' < ys.length := by simpa using hk1
      have ez : z' = (k', ys[k']) := by rw [← hk2]; simp
      subst ez
      have hat2 : atI (ys.map V.str) ((k' : Nat) : Int) = some (.str ys[k']) := by
        unfold atI ixN
        simp [hkl]
      obtain ⟨uk, huk, t2, rfl⟩ := rel_atI rj hat2
      exact ⟨t2, PySem.W.ev_place hk hx hy hcl2 hcell2 pl (by rw [← rv.length]; exact hz) hub pj (by rw [← rj.length]; exact hzj) huk hd hd2 hcd hs hs2⟩) fun a zs' hf hpm hsr => by
      have hpm2 : (zs'.map fun z => ((match z.1 with | .int n => n.toNat | _ => 0 : Nat), z.2)).Perm ((List.range ys.length).zip ys) := by
        have := hpm.map fun z : V × Str => ((match z.1 with | .int n => n.toNat | _ => 0 : Nat), z.2)
        rw [hzs, List.map_map] at this
        have e : ((fun z : V × Str => ((match z.1 with | .int n => n.toNat | _ => 0 : Nat), z.2)) ∘ fun z : Nat × Str => (V.int z.1, z.2)) = id := by
          funext z
          simp
        rw [e, List.map_id] at this
        exact this
      have := hQ H2 a _ sm hf hpm2 (by rw [List.map_map]; exact hsr)
      rw [List.map_map] at this
      have e2 : zs'.map ((fun z : Nat × Str => V.int z.1) ∘ fun z : V × Str => ((match z.1 with | .int n => n.toNat | _ => 0 : Nat), z.2)) = zs'.map (·.1) := by
        refine List.map_congr_left fun z hzm => ?_
        have := hpm.mem_iff.mp hzm
        rw [hzs] at this
        obtain ⟨z', _, rfl⟩ := List.mem_map.mp this
        simp
      rw [e2] at this
      exact this
end
end L2
set_option Elab.async false
set_option linter.all false
set_option maxRecDepth 100000
namespace PySem.W
open PySem PySem.Calls PyProof.Rows
noncomputable def leB : List Int → List Int → Bool → Bool
  | a :: l, b :: m, f => if a == b then leB l m f else decide (a ≤ b)
  | _, _, f => f
theorem leB_lex : ∀ (l m : List Int) (f : Bool), leB l m f = !(lexB m l (!f))
  | [], m, f => by cases m <;> simp [leB, lexB]
  | a :: l, [], f => by simp [leB, lexB]
  | a :: l, b :: m, f => by
    have ih := leB_lex l m f
    unfold leB lexB
    by_cases h : a = b
    · subst h
      rw [if_pos (by simp), if_pos (by simp), ih]
    · rw [if_neg (by simpa using h), if_neg (by simpa using fun z => h z.symm)]
      by_cases g : a ≤ b
      · rw [decide_eq_true g, decide_eq_false (by omega)]; rfl
      · rw [decide_eq_false g, decide_eq_true (by omega)]; rfl
theorem leB_le (l m : List Int) : leB l m (decide (l.length ≤ m.length)) = !decide (m < l) := by
  rw [leB_lex, ← lexB_lt]
  congr 2
  by_cases h : l.length ≤ m.length
  · rw [decide_eq_true h, decide_eq_false (by omega)]; rfl
  · rw [decide_eq_false h, decide_eq_true (by omega)]; rfl
section
variable {prog : Program} {w : World} {A : Around} {E : Value → Shared → Prop} {s : Shared}
theorem tuple_le_tree {a b : Addr} {us vs : List Value} {l m : List Int} {P : PySem.Fin → Shared → Prop} (hx : IsTup s.heap a us.toArray) (hy : IsTup s.heap b vs.toArray) (hu : IntsAre us l) (hv : IntsAre vs m) (h : P (.done (.ret (.bool (!decide (m < l))))) s) :
    wpAny (model prog w) A (Builtin.«tuple.__le__» ⟨[.ref a, .ref b], []⟩) P E s := by
  have hTb := hy.typeIs
  obtain ⟨oa, hoa, _, na, hda⟩ := hx
  obtain ⟨ob, hob, _, nb, hdb⟩ := hy
  show wpAny _ _ (isInstance (.ref b) (.type "tuple") >>= _) _ _ s
  refine wpAny_bind (wpAny_isInstance hTb isSubtype_tuple_tuple ?_)
  simp only [Bool.not_true, Bool.false_eq_true, if_false]
  refine wpAny_bind (wpAny_tupleItemsOf hoa hda ?_)
  refine wpAny_bind (wpAny_tupleItemsOf hob hdb ?_)
  refine wpAny_bind ?_
  refine wpAny_forIn_list _
    (fun rest r s' => r.1 = none ∧ s' = s ∧ ∃ us' vs' l' m', rest = List.zip us' vs' ∧ IntsAre us' l' ∧ IntsAre vs' m' ∧ leB l' m' (decide (l.length ≤ m.length)) = !decide (m < l))
    _ ?_ ?_ _ _ ⟨rfl, rfl, us, vs, l, m, by simp, hu, hv, leB_le l m⟩
  · rintro ⟨x, y⟩ rest r s' ⟨hr, rfl, us', vs', l', m', hz, hx', hy', hdec⟩
    cases hx' with
    | nil => simp at hz
    | cons p t hx'' =>
      cases hy' with
      | nil => simp at hz
      | cons q t' hy'' =>
        simp only [List.zip_cons_cons, List.cons.injEq, Prod.mk.injEq] at hz
        obtain ⟨⟨rfl, rfl⟩, rfl⟩ := hz
        refine wpAny_bind (wpAny_eqBool_int ?_)
        unfold leB at hdec
        by_cases hk : p = q
        · subst hk
          rw [if_pos (by simp)] at hdec
          have e : (p == p) = true := by simp
          rw [e]
          simp only [Bool.not_true, Bool.false_eq_true, if_false]
          exact wpAny_pure ⟨rfl, rfl, _, _, _, _, rfl, hx'', hy'', hdec⟩
        · rw [if_neg (by simpa using hk)] at hdec
          have e : (p == q) = false := by simpa using hk
          rw [e]
          simp only [Bool.not_false, if_true]
          rw [← hdec] at h
          refine wpAny_bind (wpAny_rule ?_)
          refine wpAny_bind (show wpAny (model prog w) A (compareOp .LtE (.int p t) (.int q t')) _ E _ from le_int ?_)
          exact wpAny_bind (wpAny_pure (wpAny_pure (wpAny_pure h)))
  · rintro ⟨r1, r2⟩ s' ⟨hr, rfl, us', vs', l', m', hz, hx', hy', hdec⟩
    simp only at hr
    subst hr
    refine wpAny_pure ?_
    have e : leB l' m' (decide (l.length ≤ m.length)) = decide (l.length ≤ m.length) := by
      cases hx' with
      | nil => cases m' <;> simp [leB]
      | cons _ _ _ =>
        cases hy' with
        | nil => simp [leB]
        | cons _ _ _ => simp at hz
    rw [← hdec, e] at h
    have e1 : us.toArray.size = l.length := by rw [List.size_toArray, hu.length]
    have e2 : vs.toArray.size = m.length := by rw [List.size_toArray, hv.length]
    rw [e1, e2]
    exact h
theorem le_rows {a b : Addr} {us vs : List Value} {l m : List Int} {Q : Value → Shared → Prop} (hc : A.units < cLine) (hx : IsTup s.heap a us.toArray) (hy : IsTup s.heap b vs.toArray) (hu : IntsAre us l) (hv : IntsAre vs m) (h : Q (.bool (!decide (m < l))) s) :
    wpAny (model prog w) A (compareOp .LtE (.ref a) (.ref b)) Q E s :=
  wpAny_richCompare_same_room (op := .LtE) hx.typeIs hy.typeIs F.slot_tuple_le
    (wpAny_call_entry F.slot_tuple_le hx.typeIs F.entry_tuple_le (tuple_le_tree hx hy hu hv ⟨_, rfl, (fun e => nomatch e), h⟩) (F.args_tuple_le_2 _ _)) hc
end
end PySem.W
namespace L2
open PySem PySem.Spec PyProof.Rows
open PySem.W (Ky VKy PermR Srt ltK)
section
variable {X : Cx}
noncomputable def rLeK : R2 := fun x y H Q => ∃ a b : Ky, KyV H x a ∧ KyV H y b ∧ a.tag = b.tag ∧ Q (.bl (!(b.lt a))) H
theorem op_leK (hu : X.A.units + 1 < cLine) : OpR X (compareOp .LtE) rLeK := by
  intro pins s σ H x y v u Q I rx ry h
  obtain ⟨a, b, ha, hb, ht, q⟩ := h
  cases a with
  | s p =>
    cases b <;> first | cases ht | skip
    cases (show x = .str p from ha)
    rename_i p'
    cases (show y = .str p' from hb)
    exact op_leS pins s σ H _ _ v u Q I rx ry ⟨p, rfl, p', rfl, q⟩
  | i p =>
    cases b <;> first | cases ht | skip
    cases (show x = .int p from ha)
    rename_i p'
    cases (show y = .int p' from hb)
    obtain ⟨t, rfl⟩ := rx
    obtain ⟨t', rfl⟩ := ry
    refine le_int ⟨.bl _, H, I, rfl, ?_⟩
    have e : decide (p ≤ p') = !(Ky.i p').lt (Ky.i p) := by
      show _ = !decide (p' < p)
      by_cases g : p ≤ p'
      · rw [decide_eq_true g, decide_eq_false (by omega)]; rfl
      · rw [decide_eq_false g, decide_eq_true (by omega)]; rfl
    rw [e]
    exact q
  | r l =>
    cases b <;> first | cases ht | skip
    obtain ⟨c, rfl, hc⟩ := ha
    obtain ⟨d, rfl, hd⟩ := hb
    cases rx
    cases ry
    obtain ⟨its, rv, pl, _⟩ := I.tuple (SqT.of hc)
    obtain ⟨jts, rj, pj, _⟩ := I.tuple (SqT.of hd)
    exact PySem.W.le_rows (by omega) pl pj (intsAre_of rv) (intsAre_of rj) ⟨.bl _, H, I, rfl, q⟩
end
noncomputable def tabsH (tabs : List (Addr × Addr × Str)) (H : Hp) : Prop := ∀ t ∈ tabs, H t.2.1 = some (.tab t.2.2)
theorem nd_inj {α : Type} {f : α → Addr} {t t' : α} : ∀ {l : List α}, (l.map f).Nodup → t ∈ l → t' ∈ l → f t = f t' → t = t'
  | [], _, h, _, _ => by simp at h
  | x :: l, hn, h, h', e => by
    have hn : (f x :: l.map f).Nodup := hn
    obtain ⟨h1, h2⟩ := List.nodup_cons.mp hn
    rcases List.mem_cons.mp h with rfl | h
    · rcases List.mem_cons.mp h' with rfl | h'
      · rfl
      · exact absurd (List.mem_map.mpr ⟨t', h', e.symm⟩) h1
    · rcases List.mem_cons.mp h' with h' | h'
      · exact absurd (List.mem_map.mpr ⟨t, h, by rw [← h']; exact e⟩ : f x ∈ l.map f) h1
      · exact nd_inj h2 h h' e
theorem law_callT {P : Program} {w : World} {K : PySem.W.Frag} {mg mb : Str → Option Value} {k : Nat} {fa a : Addr} {fd : FuncData} {x : Str} {sp : Sp} {s₁ : Shared} {vs : List Value} {ns : List Int} {tabs : List (Addr × Addr × Str)}
    (KX : K.In s₁.heap) (hns : s₁.heap.Ns mainGlobals mg) (hb : s₁.heap.Ns builtinsNs mb) (hbb : ∀ x : Str, x ≠ "__name__" → mb x = bootBuiltins x) (hlim : s₁.heap.NoLimit) (hg : s₁.gens = #[]) (hbm : BMain mg s₁.heap)
    (hT : ∀ t ∈ tabs, s₁.heap.get? t.2.1 = some (PySem.W.tabObj #[])) (hC : ∀ t ∈ tabs, PySem.W.codeHdIn K t.1 t.2.1 = true) (hKt : ∀ t ∈ tabs, K.lookup t.2.1 = none) (hnd : (tabs.map (·.2.1)).Nodup)
    (ha : s₁.heap.get? a = some { cls := .type "list", data := .seq vs.toArray }) (hi : IntsAre vs ns) (hl : ns.length ≤ sizeLine) (hr : Room k callerA)
    (F : ∀ base : Heap, K.In base → base.Ns mainGlobals mg → BMain mg base → FnOk P w K mg base CX0 k fa fd [x] sp) (hbind : ∀ (s : Shared) (u : Value), BindsTo s fd ⟨[u], []⟩ [(x, u)])
    (hsp : ∀ H : Hp, tabsH tabs H → SqL K H a (ns.map V.int) → sp [.ref a] H (fun v H' => v = .bl true ∧ tabsH tabs H') fun _ _ _ => False) :
    codeAny (model P w) callerA (.call (.ref fa) ⟨[.ref a], []⟩) (fun r s' => r = .ok (.ret (.bool true)) ∧ OldK s₁.heap s'.heap ∧ s'.os = s₁.os ∧ AllBare s'.gens) s₁ := by
  have rv := vals_ints hi
  have lenV := hi.length
  have naT : ∀ t ∈ tabs, t.2.1 ≠ a := fun t ht z => by
    have := hT t ht
    rw [z, ha] at this
    cases this
  obtain ⟨S, hS1, hS2⟩ : ∃ S : Hp, (∀ b u, S b = some u → b = a ∧ K.lookup a = none ∧ u = .frz { cls := .type "list", data := .seq vs.toArray } (.lst (ns.map V.int))) ∧ ∀ H : Hp, (∀ b u, S b = some u → H b = some u) → SqL K H a (ns.map V.int) := by
    cases hk : K.lookup a with
    | some o =>
      have e := KX a o hk
      rw [ha] at e
      cases e
      refine ⟨fun _ => none, fun b u z => (nomatch (show (none : Option HO) = some u from z)), fun H _ => ?_⟩
      exact .inr ⟨_, vs.toArray, _, hk, rfl, rfl, rfl, by rw [List.size_toArray, lenV]; exact hl, by simpa using rv⟩
    | none =>
      refine ⟨fun b => if b = a then some (.frz { cls := .type "list", data := .seq vs.toArray } (.lst (ns.map V.int))) else none, fun b u z => ?_, fun H z => .inl (.inr ⟨_, z a _ (if_pos rfl)⟩)⟩
      by_cases hb : b = a
      · have z' := (if_pos hb).symm.trans z
        cases z'
        exact ⟨hb, rfl, rfl⟩
      · have z' := (if_neg hb).symm.trans z
        cases z'
  obtain ⟨H, hH1, hH2, hH3⟩ : ∃ H : Hp, (∀ b u, H b = some u → S b = some u ∨ ∃ t ∈ tabs, b = t.2.1 ∧ u = .tab t.2.2) ∧ tabsH tabs H ∧ ∀ b u, S b = some u → H b = some u := by
    refine ⟨fun b => match tabs.find? (fun t => t.2.1 == b) with | some t => some (.tab t.2.2) | none => S b, fun b u z => ?_, fun t ht => ?_, fun b u z => ?_⟩
    · cases q : tabs.find? (fun t => t.2.1 == b) with
      | some t =>
        simp only [q] at z
        have e := List.find?_some q
        exact .inr ⟨t, List.mem_of_find?_eq_some q, (eq_of_beq e).symm, (Option.some.inj z).symm⟩
      | none =>
        simp only [q] at z
        exact .inl z
    · cases q : tabs.find? (fun t' => t'.2.1 == t.2.1) with
      | some t' =>
        simp only [q]
        have e0 := List.find?_some q
        have e : t'.2.1 = t.2.1 := by simpa using e0
        have : t' = t := by
          have hm := List.mem_of_find?_eq_some q
          exact nd_inj hnd hm ht e
        rw [this]
      | none =>
        have := List.find?_eq_none.mp q t ht
        simp at this
    · have hb := (hS1 b u z).1
      cases q : tabs.find? (fun t => t.2.1 == b) with
      | some t =>
        have e0 := List.find?_some q
        have e : t.2.1 = b := by simpa using e0
        exact absurd (e.trans hb) (naT t (List.mem_of_find?_eq_some q))
      | none =>
        simp only [q]
        exact z
  have hok : HOk P w H s₁.heap := fun b u z => by
    rcases hH1 b u z with z | ⟨t, ht, rfl, rfl⟩
    · obtain ⟨rfl, _, rfl⟩ := hS1 b u z
      exact ⟨ha, by rw [List.length_map]; exact hl, vs, _, rv, ha⟩
    · exact ⟨#[], hT t ht, trivial, fun pos cv z => by simp [codeAmong] at z⟩
  have base_of : ∀ {b : Addr} {o : Obj}, s₁.heap.get? b = some o → H b = none → (hidT s₁.heap H).get? b = some o := fun e n => hidT_get e n
  have noA : ∀ {b : Addr} {o : Obj}, s₁.heap.get? b = some o → o.cls ≠ .type "list" → o.cls ≠ .none → H b = none := fun {b o} e d d2 => by
    cases q : H b with
    | none => rfl
    | some u =>
      rcases hH1 b u q with z | ⟨t, ht, rfl, rfl⟩
      · obtain ⟨rfl, _, _⟩ := hS1 b u z
        rw [ha] at e; cases e
        exact absurd rfl d
      · rw [hT t ht] at e; cases e
        exact absurd rfl d2
  have noD : ∀ {b : Addr} {o : Obj} {es : Array DictEntry} {ep : Nat}, s₁.heap.get? b = some o → o.data = .dict es ep → H b = none := fun {b o es ep} e d => by
    cases q : H b with
    | none => rfl
    | some u =>
      rcases hH1 b u q with z | ⟨t, ht, rfl, rfl⟩
      · obtain ⟨rfl, _, _⟩ := hS1 b u z
        rw [ha] at e; cases e
        have d' : Data.seq vs.toArray _ = Data.dict es ep := d
        cases d'
      · rw [hT t ht] at e; cases e
        have d' : Data.fields #[] = Data.dict es ep := d
        cases d'
  have nsK : ∀ {b : Addr} {m : Str → Option Value}, s₁.heap.Ns b m → (hidT s₁.heap H).Ns b m := fun {b m} zq35 => by obtain ⟨o, es, ep, e, d, r⟩ := zq35; exact (⟨o, es, ep, base_of e (noD e d), d, r⟩)
  have hKb : K.In (hidT s₁.heap H) := fun b o e => base_of (KX b o e) (by
    cases q : H b with
    | none => rfl
    | some u =>
      rcases hH1 b u q with z | ⟨t, ht, rfl, rfl⟩
      · obtain ⟨rfl, z2, _⟩ := hS1 b u z
        rw [z2] at e; cases e
      · rw [hKt t ht] at e; cases e)
  have hBb : BMain mg (hidT s₁.heap H) := by
    obtain ⟨bm, ob, h1, h2, h3, h4, h5, h6⟩ := hbm
    exact ⟨bm, ob, h1, h2, base_of h3 (noA h3 (by rw [h4]; decide) (by rw [h4]; decide)), h4, h5, h6⟩
  have hM : Mod K mg (hidT s₁.heap H) := ⟨hKb, nsK hns, ⟨mb, nsK hb, hbb⟩, let ⟨mc, h1, h2⟩ := hlim; ⟨mc, nsK h1, h2⟩⟩
  have e0 : Env0 P w K mg (hidT s₁.heap H) callerA [] s₁ H := ⟨rfl, hM, fun b o e => of_hidT e, Nat.le_of_eq (hidT_size _ _), trivial, fun b hb => absurd (show b ∈ ([] : List Addr) from hb) (by simp), hok, .of_eq hg⟩
  refine codeAny_mono ((F _ hKb (nsK hns) hBb).run callerA [] s₁ H ⟨[.ref a], []⟩ [.ref a] [.ref a] _ _ hr e0 (hbind s₁ (.ref a)) (.cons rfl .nil) (hsp H hH2 (hS2 H hH3))) fun r s' h => ?_
  cases r with
  | error e => exact h.elim
  | ok fl =>
    cases fl with
    | next => exact False.elim h
    | brk => exact False.elim h
    | cont => exact False.elim h
    | ret u =>
      obtain ⟨v, H', os, bare, un, hok', r', q⟩ := h
      obtain ⟨q', qT⟩ := q
      subst q'
      obtain rfl : u = Value.bool true := r'
      have frz : ∀ b u, S b = some u → ∀ o, s₁.heap.get? b = some o → s'.heap.get? b = some o := fun b u z o e => by
        obtain ⟨rfl, _, rfl⟩ := hS1 b u z
        have z2 := un.frzs b _ _ (hH3 _ _ z)
        obtain ⟨e2, _⟩ := hok' b _ z2
        rw [ha] at e; cases e
        exact e2
      refine ⟨rfl, ⟨fun b o e => ?_, fun b o e => un.there b o e (by simp)⟩, os, bare⟩
      cases q : H b with
      | none => exact .inl (un.keep b o e q (by intro z; exact absurd (show b ∈ ([] : List Addr) from z) (by simp)) (by simp))
      | some u =>
        rcases hH1 b u q with z | ⟨t, ht, rfl, rfl⟩
        · exact .inl (frz b u z o e)
        · obtain ⟨ps, e2, _⟩ := hok' _ _ (qT t ht)
          rw [hT t ht] at e
          cases e
          exact .inr (.inl ⟨((PySem.W.codeHd_of_K KX (hC t ht)).tab (hT t ht)).isCodeTable, rfl, #[], ps, rfl, by rw [Array.empty_append]; exact e2⟩)
theorem walk_ofT {l : PySem.W.OpenLaw} {n k : Nat} {q : Program} {loose : List Str} {XP : (Str → Option Value) → Heap → Prop} {YP : World → Heap → Prop} {d : DefRec} {K : Params → PySem.W.Frag} {sp : World → Sp} {x : Str} {tabs : List (Addr × Addr × Str)}
    (hn : l.most = some n) (hn2 : n ≤ sizeLine) (hdf : d.params.defaults = []) (hr : Room k callerA)
    (hY : ∀ (w : World) (h : Heap), YP w h → (K w.params).In h) (hT : ∀ (w : World) (h : Heap), YP w h → ∀ t ∈ tabs, h.get? t.2.1 = some (PySem.W.tabObj #[]))
    (hC : ∀ w : World, ∀ t ∈ tabs, PySem.W.codeHdIn (K w.params) t.1 t.2.1 = true) (hKt : ∀ w : World, ∀ t ∈ tabs, (K w.params).lookup t.2.1 = none) (hnd : (tabs.map (·.2.1)).Nodup)
    (F : ∀ (w : World) (mg : Str → Option Value) (fa : Addr) (h : Heap), (K w.params).In h → h.Ns mainGlobals mg → mg d.name = some (.ref fa) →
      ∃ fd : FuncData, (∀ (s : Shared) (u : Value), BindsTo s fd ⟨[u], []⟩ [(x, u)]) ∧
        ∀ base : Heap, (K w.params).In base → base.Ns mainGlobals mg → BMain mg base → FnOk l.prog w (K w.params) mg base CX0 k fa fd [x] (sp w))
    (hsp : ∀ (w : World) (H : Hp) (a : Addr) (ns : List Int), ns.length ≤ n → tabsH tabs H → SqL (K w.params) H a (ns.map V.int) → sp w [.ref a] H (fun v H' => v = .bl true ∧ tabsH tabs H') fun _ _ _ => False) :
    PySem.W.WalkO q loose XP YP l.row.toRowW d [] (fun f vs => PySem.call f vs) := by
  refine Att.attach_call hn hdf fun w s₀ s₁ mg mb fa o pm cd doc a vs ns G Y ho hd hcd hmg hobj hints hlen hg => ?_
  have KX := hY w _ Y
  obtain ⟨fd, hb, hF⟩ := F w mg fa _ KX G.T.g hmg
  exact law_callT KX G.T.g G.T.b G.T.builtins G.T.nolimit hg G.T.bmain (hT w _ Y) (hC w) (hKt w) hnd hobj hints (Nat.le_trans hlen hn2) hr hF hb fun H hO hS => hsp w H a ns hlen hO hS
end L2
set_option Elab.async false
set_option linter.all false
set_option maxRecDepth 100000
namespace L2
open PySem PySem.Spec PyProof.Rows
noncomputable def tLstRng (ta : TA) : TE := fun σ H Q => ta σ H fun vs H1 => ∃ j : Int, vs = [.int j] ∧ 0 ≤ j ∧ j ≤ 1000 ∧ ∀ l, H1 l = none → Q (.ref l) (upd H1 l (.lst (rngV 0 j.toNat)))
section
variable {X : Cx} {e1 : Expr} {ta : TA} {p p2 pos pos2 : Pos}
theorem pe_lstrange (hc : X.calm = true) (hg : Gl X "list") (hm : X.mg "list" = none) (hg2 : Gl X "range") (hm2 : X.mg "range" = none) (ha : PA X [e1] ta) (hs : starEach [e1] X.env = [(false, eval e1 X.env)] := by rfl) :
    PE X (.Call (.Name "list" p) [.Call (.Name "range" p2) [e1] [] pos2] [] pos) (tLstRng ta) := by
  intro pins s σ H Q I h
  refine wpAny_Call_Name_kw (ld_blt I hg hm (by decide +kernel : bootBuiltins "list" = some (.type "list")) ?_)
  refine PyProof.Rows.callWith_type1 (Calls.spliced_cons ?_) rfl rfl
  refine wpAny_Call_Name_kw (ld_blt I hg2 hm2 boot_range ?_)
  refine PyProof.Rows.callWith_type1 (thn (ha pos2 pins s σ H _ I h) fun us s1 zr7614 => ?_) hs rfl
  obtain ⟨vs, H1, I1, r1, q1⟩ := zr7614
  obtain ⟨j, e, q1, q2, q⟩ := q1
  subst e
  obtain ⟨u, rfl, ru⟩ := vals1 r1
  obtain ⟨t, rfl⟩ := ru
  refine call_range_1 ?_
  refine Calls.spliced_nil ?_
  have hsz : Builtin.Range.rangeSize 0 j 1 = ((j.toNat : Nat) : Int) := by rw [rangeSize_one]; split <;> omega
  refine call_list_range (I.ok.hd hc) (IsRange.new ..) (small_one (by decide) (by decide) (by omega) (by omega)) hsz (by omega) fun h' tk acc c hk hg' hacc => ?_
  obtain ⟨h1, eh1⟩ : ∃ h1 : Heap, h1 = s1.heap.push { cls := .type "range", data := .fields #[.int 0 s1.toks, .int j t, .int 1 (s1.toks + 1)] } := ⟨_, rfl⟩
  have hks : ∀ b o, s1.heap.get? b = some o → h'.get? b = some o := fun b o e => hk b o (Heap.get?_push_of_some _ e)
  have hz : s1.heap.objs.size ≤ (s1.heap.push { cls := .type "range", data := .fields #[.int 0 s1.toks, .int j t, .int 1 (s1.toks + 1)] }).objs.size := by rw [Heap.size_push]; omega
  exact ⟨.ref _, _, I1.laid (t' := tk) hks hz (show ObjOk X.prog X.w _ _ _ (.lst (rngV 0 j.toNat)) from ⟨by rw [rngV_length]; exact Nat.le_of_lt (small1000 (by omega)), acc.toList, c, vals_rng hacc, by rw [Array.toArray_toList]; exact hg'⟩), rfl, q _ (I1.hok.fresh hz)⟩
end
end L2
set_option Elab.async false
set_option linter.all false
set_option maxRecDepth 100000
set_option maxHeartbeats 4000000
namespace Lw
open PySem L2
local macro_rules | `(tactic| ctx_has vcx $ids*) => `(tactic| ((try dsimp only [tVarM, List.map, List.append_eq, List.set, L2.start, List.length_cons, List.length_nil, List.replicate, List.cons_append, List.nil_append, Nat.reduceAdd, Nat.reduceSub, Nat.zero_add, Nat.add_zero, tNever, tYes, iRng1, rIsB, IsB, rAll, rSum, tSeq, tNext, tIfS, tRet, tDrop, tAsg, gName, tVar, tC, tOp, tUn, tTest, tB, tAnd, tOr, tNot, tAndV, tOrV, tChain, tCB, tCall, tCons, tNil, tLst, tTup, tDG, sDP, rI0, rI, rU, rEq, rNe, rLenL, rLenT, rIL, rIT, rIS, rSL, rSQ, rST, rSlS, iL, iT, tML, tMS, rmJoin, rmIndex, rCT, rCTs, rSTs, rDictD, rmPopAt, tDNewK, rSetI, rLenSet, rMinL, rMaxL, rListS, iS, tIsN, gTupT, gCons, gNil, rmAppend, rmPop, rmInsert, rInL, rInT, rListT, rTupL, rCS, rLenS, rLeS, tListRev, tDisp, tPairs, rAllL, tSl, tNoPart, tPart, List.set_cons_zero, List.set_cons_succ, List.getElem?_cons_zero, List.getElem?_cons_succ, List.map_cons, List.map_nil]); (simp only [tVarM, tNever, cxK, cpK, tComp_eq, tFor_eq, inner0, inner1, inner2, inner3, Option.join_some, tYes, iRng1, rIsB, IsB, rAll, rSum, tSeq, tNext, tIfS, tRet, tDrop, tAsg, gName, tVar, tC, tOp, tUn, tTest, tB, tAnd, tOr, tNot, tAndV, tOrV, tChain, tCB, tCall, tCons, tNil, tLst, tTup, tDG, sDP, ex_kS, ex_kI, rI0, rI, rU, rEq, rNe, scal_ii, scal_ss, scal_bb, scal_nn, scal_in, scal_si, rLenL, rLenT, rIL, rIT, rIS, rSL, rSQ, rST, rSlS, iL, iT, tML, tMS, rmJoin, rmIndex, rCT, rCTs, rSTs, rDictD, rmPopAt, tDNewK, rSetI, rLenSet, rMinL, rMaxL, rListS, iS, tIsN, gTupT, gCons, gNil, atI0, atI1, atI2, atI3, atI4, ofS_inj, rmAppend, rmPop, rmInsert, rInL, rInT, rListT, rTupL, rCS, rLenS, rLeS, tListRev, tDisp, tPairs, HO.dK.injEq, HO.lst.injEq, HO.tup.injEq, HO.ins.injEq, rAllL, tSl, tNoPart, tPart, L2.start, List.map_cons, List.map_nil, List.length_cons, List.length_nil, List.replicate, List.cons_append, List.nil_append, List.append_nil, List.getElem?_cons_zero, List.getElem?_cons_succ, List.set_cons_zero, List.set_cons_succ, Option.some.injEq, V.int.injEq, V.ref.injEq, V.str.injEq, V.bl.injEq, V.ty.injEq, List.cons.injEq, and_assoc, and_true, true_and, and_self, exists_eq_left, exists_eq_left', exists_eq_right, exists_eq_right', exists_and_left, exists_eq, exists_eq', reduceCtorEq, false_and, and_false, false_or, or_false, exists_false, decide_eq_true_eq, String.reduceEq, String.reduceBEq, Bool.or_true, Bool.true_or, Bool.or_false, Bool.false_or, or_true, true_or, if_true, if_false, Bool.not_eq_true', Nat.reduceAdd, Nat.reduceSub, Nat.zero_add, $[$ids:ident],*])))
noncomputable def top (i : Nat) : Stmt := PySem.Challenge.pw_seekhall_k51_plain_forms.main.body.getD i (.Pass ⟨0, 0, 0, 0⟩)
noncomputable abbrev s_in_order : Stmt := top 1
noncomputable abbrev s_plain_table : Stmt := top 2
noncomputable abbrev s_plain_form : Stmt := top 3
noncomputable abbrev s__law_deal : Stmt := top 5
noncomputable abbrev s__law_draw : Stmt := top 6
noncomputable abbrev s__law_names : Stmt := top 7
noncomputable abbrev s__law_pool : Stmt := top 8
noncomputable abbrev s__law_rooms : Stmt := top 9
noncomputable abbrev s__law_some : Stmt := top 10
noncomputable abbrev s__law_bounds : Stmt := top 11
noncomputable abbrev s__law_sum : Stmt := top 12
noncomputable abbrev s__law_rows : Stmt := top 13
noncomputable abbrev s__law_way : Stmt := top 14
noncomputable abbrev s__law_wish : Stmt := top 15
noncomputable abbrev s__law_kept : Stmt := top 16
noncomputable abbrev s__law_fillings : Stmt := top 17
noncomputable abbrev s__law_insert : Stmt := top 18
noncomputable abbrev s__law_by_key : Stmt := top 19
noncomputable abbrev s__law_rising : Stmt := top 20
noncomputable abbrev s__law_plain : Stmt := top 21
noncomputable abbrev s__law_mixed_up : Stmt := top 22
noncomputable abbrev s_law : Stmt := top 23
theorem sc_in_order : FnScope ["things"] ["things"] (defScope s_in_order) := ⟨rfl, rfl, rfl, by decide +kernel, rfl, by decide +kernel, by decide +kernel⟩
theorem sc_plain_table : FnScope ["wish", "places", "rows"] ["wish"] (defScope s_plain_table) := ⟨rfl, rfl, rfl, by decide +kernel, rfl, by decide +kernel, by decide +kernel⟩
theorem sc_plain_form : FnScope ["wish"] ["wish"] (defScope s_plain_form) := ⟨rfl, rfl, rfl, by decide +kernel, rfl, by decide +kernel, by decide +kernel⟩
theorem sc__law_deal : FnScope ["_law_script", "_law_start", "_law_cells", "_law_number", "_law_cell"] ["_law_script", "_law_start"] (defScope s__law_deal) := ⟨rfl, rfl, rfl, by decide +kernel, rfl, by decide +kernel, by decide +kernel⟩
theorem sc__law_draw : FnScope ["_law_deal_here", "_law_many", "_law_number", "_law_one", "_law_other"] ["_law_deal_here", "_law_many"] (defScope s__law_draw) := ⟨rfl, rfl, rfl, by decide +kernel, rfl, by decide +kernel, by decide +kernel⟩
theorem sc__law_names : FnScope ["_law_deal_here", "_law_many", "_law_letters", "_law_names_here", "_law_k", "_law_word", "_law_place"] ["_law_deal_here", "_law_many"] (defScope s__law_names) := ⟨rfl, rfl, rfl, by decide +kernel, rfl, by decide +kernel, by decide +kernel⟩
theorem sc__law_pool : FnScope ["_law_deal_here", "_law_value", "_law_pool_here", "_law_k"] ["_law_deal_here"] (defScope s__law_pool) := ⟨rfl, rfl, rfl, by decide +kernel, rfl, by decide +kernel, by decide +kernel⟩
theorem sc__law_rooms : FnScope ["_law_deal_here", "_law_names_here", "_law_pool_here", "_law_most", "_law_rooms_here", "_law_name", "_law_some_here"] ["_law_deal_here", "_law_names_here", "_law_pool_here", "_law_most"] (defScope s__law_rooms) := ⟨rfl, rfl, rfl, by decide +kernel, rfl, by decide +kernel, by decide +kernel⟩
theorem sc__law_some : FnScope ["_law_deal_here", "_law_things", "_law_least", "_law_left", "_law_found", "_law_k"] ["_law_deal_here", "_law_things", "_law_least"] (defScope s__law_some) := ⟨rfl, rfl, rfl, by decide +kernel, rfl, by decide +kernel, by decide +kernel⟩
theorem sc__law_bounds : FnScope ["_law_deal_here", "_law_low", "_law_high", "_law_one", "_law_other"] ["_law_deal_here", "_law_low", "_law_high"] (defScope s__law_bounds) := ⟨rfl, rfl, rfl, by decide +kernel, rfl, by decide +kernel, by decide +kernel⟩
theorem sc__law_sum : FnScope ["_law_deal_here", "_law_some_here", "_law_rooms_here", "_law_terms", "_law_low", "_law_high", "_law_name", "_law_a"] ["_law_deal_here", "_law_some_here", "_law_rooms_here"] (defScope s__law_sum) := ⟨rfl, rfl, rfl, by decide +kernel, rfl, by decide +kernel, by decide +kernel⟩
theorem sc__law_rows : FnScope ["_law_deal_here", "_law_some_here", "_law_pool_here", "_law_rows_here", "_law_k", "_law_row"] ["_law_deal_here", "_law_some_here", "_law_pool_here"] (defScope s__law_rows) := ⟨rfl, rfl, rfl, by decide +kernel, rfl, by decide +kernel, by decide +kernel⟩
theorem sc__law_way : FnScope ["_law_deal_here", "_law_some_here", "_law_pool_here", "_law_many", "_law_steps", "_law_state", "_law_value", "_law_ends"] ["_law_deal_here", "_law_some_here", "_law_pool_here"] (defScope s__law_way) := ⟨rfl, rfl, rfl, by decide +kernel, rfl, by decide +kernel, by decide +kernel⟩
theorem sc__law_wish : FnScope ["_law_deal_here", "_law_names_here", "_law_rooms_here", "_law_pool_here", "_law_sorts", "_law_sort", "_law_some_here", "_law_low", "_law_rest", "_law_inner"] ["_law_deal_here", "_law_names_here", "_law_rooms_here", "_law_pool_here", "_law_sorts"] (defScope s__law_wish) := ⟨rfl, rfl, rfl, by decide +kernel, rfl, by decide +kernel, by decide +kernel⟩
theorem sc__law_kept : FnScope ["_law_wish_here", "_law_filling", "_law_total", "_law_values", "_law_state", "_law_value", "_law_after"] ["_law_wish_here", "_law_filling"] (defScope s__law_kept) := ⟨rfl, rfl, rfl, by decide +kernel, rfl, by decide +kernel, by decide +kernel⟩
theorem sc__law_fillings : FnScope ["_law_names_here", "_law_rooms_here", "_law_fillings_here", "_law_name", "_law_more", "_law_filling", "_law_value", "_law_other"] ["_law_names_here", "_law_rooms_here"] (defScope s__law_fillings) := ⟨rfl, rfl, rfl, by decide +kernel, rfl, by decide +kernel, by decide +kernel⟩
theorem sc__law_insert : FnScope ["_law_found", "_law_thing", "_law_key", "_law_at"] ["_law_found", "_law_thing", "_law_key"] (defScope s__law_insert) := ⟨rfl, rfl, rfl, by decide +kernel, rfl, by decide +kernel, by decide +kernel⟩
theorem sc__law_by_key : FnScope ["_law_things", "_law_keys", "_law_found", "_law_k"] ["_law_things", "_law_keys"] (defScope s__law_by_key) := ⟨rfl, rfl, rfl, by decide +kernel, rfl, by decide +kernel, by decide +kernel⟩
theorem sc__law_rising : FnScope ["_law_things"] ["_law_things"] (defScope s__law_rising) := ⟨rfl, rfl, rfl, by decide +kernel, rfl, by decide +kernel, by decide +kernel⟩
theorem sc__law_plain : FnScope ["_law_wish_here", "_law_rows_here"] ["_law_wish_here"] (defScope s__law_plain) := ⟨rfl, rfl, rfl, by decide +kernel, rfl, by decide +kernel, by decide +kernel⟩
theorem sc__law_mixed_up : FnScope ["_law_deal_here", "_law_wish_here", "_law_cells", "_law_steps", "_law_places", "_law_rows_here"] ["_law_deal_here", "_law_wish_here"] (defScope s__law_mixed_up) := ⟨rfl, rfl, rfl, by decide +kernel, rfl, by decide +kernel, by decide +kernel⟩
theorem sc_law : FnScope ["_law_script", "_law_deal_here", "_law_names_here", "_law_pool_here", "_law_rooms_here", "_law_wish_here", "_law_other", "_law_found", "_law_filling"] ["_law_script"] (defScope s_law) := ⟨rfl, rfl, rfl, by decide +kernel, rfl, by decide +kernel, by decide +kernel⟩
structure Txt (mg : Str → Option Value) (base : Heap) : Prop where
  b_len : mg "len" = none
  b_max : mg "max" = none
  b_min : mg "min" = none
  b_sum : mg "sum" = none
  b_list : mg "list" = none
  b_reversed : mg "reversed" = none
  b_range : mg "range" = none
  b_isinstance : mg "isinstance" = none
  b_all : mg "all" = none
  b_dict : mg "dict" = none
  b_tuple : mg "tuple" = none
  b_set : mg "set" = none
  b_int : mg "int" = none
  b_sorted : mg "sorted" = none
  bm : BMain mg base
noncomputable def qL (x : Str) : Str := x ++ ".<locals>." ++ "<lambda>"
noncomputable def tabs : List (Addr × Addr × Str) := [(25, 23, qL "plain_table"), (32, 28, qL "plain_form")]
noncomputable def dealKvs (m sd n : Int) (l : Addr) : List (Key × V) := [(Sum.inr "mixed", .int m), (Sum.inr "seed", .int sd), (Sum.inr "number", .int n), (Sum.inr "left", .ref l)]
structure DealAt (H : Hp) (d l : Addr) : Prop where
  ex : ∃ (m sd n : Int) (xs : List Int), H d = some (.dK (dealKvs m sd n l)) ∧ H l = some (.lst (xs.map V.int)) ∧ 0 ≤ n ∧ (∀ x ∈ xs, 0 ≤ x) ∧ 0 ≤ sd ∧ sd < 2147483648 ∧ xs.length ≤ 63
noncomputable def But (d l : Addr) (H H' : Hp) : Prop := ∀ b o, b ≠ d → b ≠ l → H b = some o → H' b = some o
theorem k_ms : ¬ ((Sum.inr (Str.ofString "mixed") : Key) = Sum.inr (Str.ofString "seed")) := by decide +kernel
theorem k_mn : ¬ ((Sum.inr (Str.ofString "mixed") : Key) = Sum.inr (Str.ofString "number")) := by decide +kernel
theorem k_ml : ¬ ((Sum.inr (Str.ofString "mixed") : Key) = Sum.inr (Str.ofString "left")) := by decide +kernel
theorem k_sn : ¬ ((Sum.inr (Str.ofString "seed") : Key) = Sum.inr (Str.ofString "number")) := by decide +kernel
theorem k_sl : ¬ ((Sum.inr (Str.ofString "seed") : Key) = Sum.inr (Str.ofString "left")) := by decide +kernel
theorem k_nl : ¬ ((Sum.inr (Str.ofString "number") : Key) = Sum.inr (Str.ofString "left")) := by decide +kernel
theorem get_mixed (m sd n : Int) (l : Addr) : valV (dealKvs m sd n l) (Sum.inr "mixed") = some (.int m) := by unfold dealKvs; rw [valV_pos rfl]
theorem get_seed (m sd n : Int) (l : Addr) : valV (dealKvs m sd n l) (Sum.inr "seed") = some (.int sd) := by unfold dealKvs; rw [valV_neg k_ms, valV_pos rfl]
theorem get_number (m sd n : Int) (l : Addr) : valV (dealKvs m sd n l) (Sum.inr "number") = some (.int n) := by unfold dealKvs; rw [valV_neg k_mn, valV_neg k_sn, valV_pos rfl]
theorem get_left (m sd n : Int) (l : Addr) : valV (dealKvs m sd n l) (Sum.inr "left") = some (.ref l) := by unfold dealKvs; rw [valV_neg k_ml, valV_neg k_sl, valV_neg k_nl, valV_pos rfl]
theorem put_number (m sd n y : Int) (l : Addr) : putK (dealKvs m sd n l) (Sum.inr "number") (.int y) = dealKvs m sd y l := by
  unfold putK
  rw [valV_any, get_number]
  simp only [Option.isSome_some, if_true, dealKvs, List.map_cons, List.map_nil, if_neg k_mn, if_neg k_sn, if_neg (Ne.symm k_nl)]
theorem put_seed (m sd n y : Int) (l : Addr) : putK (dealKvs m sd n l) (Sum.inr "seed") (.int y) = dealKvs m y n l := by
  unfold putK
  rw [valV_any, get_seed]
  simp only [Option.isSome_some, if_true, dealKvs, List.map_cons, List.map_nil, if_neg k_ms, if_neg (Ne.symm k_sn), if_neg (Ne.symm k_sl)]
theorem deal_len (m sd n : Int) (l : Addr) : (dealKvs m sd n l).length < sizeLine := by show 4 < sizeLine; decide
theorem cmul_small {i j : Int} (h0 : 0 ≤ i) (h1 : i < 4294967296) : CMul i j := .inl ⟨by omega, by omega⟩
noncomputable def spDraw : Sp := fun vs H Q _ => ∃ (d l : Addr) (m : Int), vs = [.ref d, .int m] ∧ DealAt H d l ∧ 0 < m ∧ m < 18446744073709551616 ∧ ∀ (r : Int) (H' : Hp), 0 ≤ r → r < m → DealAt H' d l → But d l H H' → Q (.int r) H'
theorem merge_deal (m sd n : Int) (l : Addr) : mergeK [] (dealKvs m sd n l) = dealKvs m sd n l := by
  have e1 : putK ([] : List (Key × V)) (Sum.inr (Str.ofString "mixed")) (.int m) = [(Sum.inr (Str.ofString "mixed"), .int m)] := putK_new _ valV_nil
  have e2 : putK [((Sum.inr (Str.ofString "mixed") : Key), V.int m)] (Sum.inr (Str.ofString "seed")) (.int sd) = [(Sum.inr (Str.ofString "mixed"), .int m), (Sum.inr (Str.ofString "seed"), .int sd)] := putK_new _ (by rw [valV_neg k_ms, valV_nil])
  have e3 : putK [((Sum.inr (Str.ofString "mixed") : Key), V.int m), (Sum.inr (Str.ofString "seed"), .int sd)] (Sum.inr (Str.ofString "number")) (.int n) = [(Sum.inr (Str.ofString "mixed"), .int m), (Sum.inr (Str.ofString "seed"), .int sd), (Sum.inr (Str.ofString "number"), .int n)] := putK_new _ (by rw [valV_neg k_mn, valV_neg k_sn, valV_nil])
  have e4 : putK [((Sum.inr (Str.ofString "mixed") : Key), V.int m), (Sum.inr (Str.ofString "seed"), .int sd), (Sum.inr (Str.ofString "number"), .int n)] (Sum.inr (Str.ofString "left")) (.ref l) = dealKvs m sd n l := putK_new _ (by rw [valV_neg k_ml, valV_neg k_sl, valV_neg k_nl, valV_nil])
  show putK (putK (putK (putK ([] : List (Key × V)) (Sum.inr (Str.ofString "mixed")) (.int m)) (Sum.inr (Str.ofString "seed")) (.int sd)) (Sum.inr (Str.ofString "number")) (.int n)) (Sum.inr (Str.ofString "left")) (.ref l) = _
  rw [e1, e2, e3, e4]
theorem cut_ints (ns : List Int) (lo hi : Option Int) : ∃ ms : List Int, cutV (ns.map V.int) lo hi = ms.map V.int ∧ ms.length ≤ ns.length := by
  unfold cutV
  refine ⟨(ns.drop (HT.sIx (ns.map V.int).length 0 lo)).take (HT.sIx (ns.map V.int).length (ns.map V.int).length hi - HT.sIx (ns.map V.int).length 0 lo), by simp [List.map_take, List.map_drop], ?_⟩
  rw [List.length_take, List.length_drop]
  omega
theorem int_at {ms : List Int} {i : Nat} {x : V} (h : (ms.map V.int)[i]? = some x) : ∃ v, x = .int v := by
  rw [List.getElem?_map] at h
  cases e : ms[i]? with
  | none => rw [e] at h; cases h
  | some z => rw [e] at h; exact ⟨z, (Option.some.inj h).symm⟩
noncomputable def spDeal (K : PySem.W.Frag) : Sp := fun vs H Q _ => ∃ (a : Addr) (ns : List Int) (st : Int), vs = [.ref a, .int st] ∧ SqL K H a (ns.map V.int) ∧ ns.length ≤ 63 ∧ 0 ≤ st ∧ st ≤ 63 ∧ ∀ (d l : Addr) (H' : Hp), H d = none → H l = none → DealAt H' d l → Same H H' → Q (.ref d) H'
theorem draw_rd {d l : Addr} {m : Int} {H : Hp} {Q : VK} {E : XK} (D : DealAt H d l) (m0 : 0 < m) (m1 : m < 18446744073709551616) (h : ∀ (r : Int) (H' : Hp), 0 ≤ r → r < m → DealAt H' d l → But d l H H' → Q (.int r) H') : spDraw [.ref d, .int m] H Q E := ⟨d, l, m, rfl, D, m0, m1, h⟩
theorem But.refl {d l : Addr} (H : Hp) : But d l H H := fun _ _ _ _ e => e
theorem But.trans {d l : Addr} {H H1 H2 : Hp} (a : But d l H H1) (b : But d l H1 H2) : But d l H H2 := fun c o h1 h2 e => b c o h1 h2 (a c o h1 h2 e)
theorem But.new {d l p : Addr} {H H1 : Hp} {o : HO} (a : But d l H H1) (hp : H1 p = none) : But d l H (upd H1 p o) := fun c u h1 h2 e => by
  have e1 := a c u h1 h2 e
  rw [upd_ne (ne_of_none e1 hp)]; exact e1
theorem But.same {d l : Addr} {H H1 H2 : Hp} (a : But d l H H1) (s : Same H1 H2) : But d l H H2 := fun c u h1 h2 e => s c u (a c u h1 h2 e)
theorem DealAt.ne {d l p : Addr} {H : Hp} (D : DealAt H d l) (hp : H p = none) : p ≠ d ∧ p ≠ l := by
  obtain ⟨m, sd, n, xs, hd, hl, _⟩ := D.ex
  exact ⟨(ne_of_none hd hp).symm, (ne_of_none hl hp).symm⟩
theorem DealAt.same {d l : Addr} {H H' : Hp} (D : DealAt H d l) (s : Same H H') : DealAt H' d l := by
  obtain ⟨m, sd, n, xs, hd, hl, r⟩ := D.ex
  exact ⟨m, sd, n, xs, s _ _ hd, s _ _ hl, r⟩
theorem DealAt.new {d l p : Addr} {H : Hp} {o : HO} (D : DealAt H d l) (hp : H p = none) : DealAt (upd H p o) d l := D.same (Same.upd0 hp)
theorem DealAt.put {d l p : Addr} {H : Hp} {o : HO} (D : DealAt H d l) (h1 : p ≠ d) (h2 : p ≠ l) : DealAt (upd H p o) d l := by
  obtain ⟨m, sd, n, xs, hd, hl, r⟩ := D.ex
  exact ⟨m, sd, n, xs, by rw [upd_ne h1.symm]; exact hd, by rw [upd_ne h2.symm]; exact hl, r⟩
theorem But.put {d l p : Addr} {H H1 : Hp} {o : HO} (a : But d l H H1) (hp : H p = none) : But d l H (upd H1 p o) := fun c u h1 h2 e => by
  rw [upd_ne (ne_of_none e hp)]; exact a c u h1 h2 e
theorem But.free {d l p : Addr} {H H1 : Hp} (a : But d l H H1) (D : DealAt H1 d l) (hp : H1 p = none) : H p = none := by
  obtain ⟨h1, h2⟩ := D.ne hp
  cases e : H p with
  | none => rfl
  | some o => rw [a p o h1 h2 e] at hp; cases hp
theorem atI_mem {α : Type} {xs : List α} {i : Int} (h0 : 0 ≤ i) (h1 : i < (xs.length : Int)) : ∃ v, atI xs i = some v ∧ v ∈ xs := by
  obtain ⟨n, rfl⟩ := Int.eq_ofNat_of_zero_le h0
  have hn : n < xs.length := by omega
  exact ⟨xs[n], atI_nat (by simp [hn]), List.getElem_mem hn⟩
theorem draw_of {d l p : Addr} {m : Int} {vs : List V} {H : Hp} {Q : VK} {E : XK} (D : DealAt H d l) (hp : H p = none) (m0 : 0 < m) (m1 : m < 18446744073709551616) (hm : m = (vs.length : Int)) (h : ∀ (r : Int) (v : V) (H' : Hp), v ∈ vs → atI vs r = some v → DealAt H' d l → But d l H H' → H' p = some (.lst vs) → Q (.int r) H') : spDraw [.ref d, .int m] (upd H p (.lst vs)) Q E :=
  draw_rd (D.new hp) m0 m1 fun r H' r0 r1 D' B' => by
    obtain ⟨v, e, hv⟩ := atI_mem (xs := vs) r0 (by omega)
    exact h r v H' hv e D' (((But.refl H).new hp).trans B') (B' p _ (D.ne hp).1 (D.ne hp).2 upd_same)
theorem ok__law_draw {P : Program} {w : World} {K : PySem.W.Frag} {mg : Str → Option Value} {base : Heap}  (T : Txt mg base) (L : FnL K mg "_law_draw" s__law_draw ["_law_deal_here", "_law_many"])  : Fn P w K mg base "_law_draw" 1 ["_law_deal_here", "_law_many"] (spDraw) := by
  have nd := sc__law_draw.nd
  refine L.ok sc__law_draw (fun vs H Q E h => ?_) (fun f cdv A outer s H vs Q E hr h => ?_)
  · obtain ⟨d, l, m, rfl, D, m0, m1, k⟩ := h
    rfl
  · obtain ⟨d, l, m, rfl, D, m0, m1, k⟩ := h
    have hu := hu_of hr
    refine ⟨_, (pss_cons (ps_while PassesOwn.never (PW.pt (pw_and (pt_cmpR op_eq (pe_dg hu (pvM 0) pe_str (fun _ _ => rfl)) pe_int (nomark _)) (pw_and (pt_cmpR op_gt (pe_callB call_lenL rfl T.b_len PySem.boot_len (pa_cons (pe_dg hu (pvM 0) pe_str (fun _ _ => rfl)) pa_nil)) pe_int (nomark _)) (pw_and1 (pt_cmpR op_eq (pe_dg hu (pvM 0) pe_str (fun _ _ => rfl)) pe_int (nomark _)))))) (pss_one (ps_dp hu (pvM 0) pe_str (pe_mL0 PySem.F.slot_list_pop PySem.F.type_list_pop ml_pop (pe_dg hu (pvM 0) pe_str (fun _ _ => rfl))) rfl)))
      (pss_cons (ps_set (i := 2) nd rfl (by first | exact Or.inl rfl | exact Or.inr rfl) (pe_dg hu (pvM 0) pe_str (fun _ _ => rfl)))
      (pss_cons (ps_if (pt_cmpR op_gt (pvM 2) pe_int (nomark _)) (pss_cons (ps_dp hu (pvM 0) pe_str (pe_op op_fdivW (pvM 2) (pvM 1)) rfl)
      (pss_one (ps_ret (pe_op op_mod (pvM 2) (pvM 1))))) pss_nil)
      (pss_cons (ps_set (i := 3) nd rfl (by first | exact Or.inl rfl | exact Or.inr rfl) (pe_op op_mod (pe_op op_add (pe_op op_mul (pe_dg hu (pvM 0) pe_str (fun _ _ => rfl)) pe_int) pe_int) pe_int))
      (pss_cons (ps_dp hu (pvM 0) pe_str (pe_op op_mod (pe_op op_add (pe_op op_mul (pvM 3) pe_int) pe_int) pe_int) rfl)
      (pss_cons (ps_set (i := 4) nd rfl (by first | exact Or.inl rfl | exact Or.inr rfl) (pe_op op_mod (pe_op op_mul (pe_dg hu (pvM 0) pe_str (fun _ _ => rfl)) (pe_dg hu (pvM 0) pe_str (fun _ _ => rfl))) pe_int))
      (pss_one (ps_ret (pe_op op_mod (pe_op op_add (pe_op op_mul (pe_op op_mod (pe_op op_mul (pvM 3) (pvM 3)) pe_int) pe_int) (pvM 4)) (pvM 1)))))))))), ?_⟩
    obtain ⟨mx, sd, n, xs, hd, hl, n0, hx, s0, s1, hlen⟩ := D.ex
    have dl : d ≠ l := ne_of hd hl (by intro z; cases z)
    refine while_rd (fun μ σ H' => ∃ (n : Int) (xs : List Int), σ = [some (.ref d), some (.int m), none, none, none] ∧ H' d = some (.dK (dealKvs mx sd n l)) ∧ H' l = some (.lst (xs.map V.int)) ∧ 0 ≤ n ∧ (∀ x ∈ xs, 0 ≤ x) ∧ xs.length ≤ 63 ∧ But d l H H' ∧ μ = xs.length)
      (fun σ H' => ∃ (n : Int) (xs : List Int), σ = [some (.ref d), some (.int m), none, none, none] ∧ H' d = some (.dK (dealKvs mx sd n l)) ∧ H' l = some (.lst (xs.map V.int)) ∧ 0 ≤ n ∧ (∀ x ∈ xs, 0 ≤ x) ∧ xs.length ≤ 63 ∧ But d l H H')
      ⟨_, n, xs, rfl, hd, hl, n0, hx, hlen, fun b o _ _ e => e, rfl⟩ ?_ ?_
    · rintro R hR μ σ H1 ⟨n1, xs1, rfl, hd1, hl1, n01, hx1, hlen1, bt, rfl⟩
      have hr := hR _ _ ⟨n1, xs1, rfl, hd1, hl1, n01, hx1, hlen1, bt⟩
      (try ctx_has vcx true_and hd1 hl1 get_number get_left get_mixed)
      refine ite2 (fun h1 => ?_) (fun _ => hr)
      refine ite2 (fun h2 => ?_) (fun _ => hr)
      refine ite2 (fun h3 => ?_) (fun _ => hr)
      rcases List.eq_nil_or_concat xs1 with rfl | ⟨ys, z, rfl⟩
      · simp at h2
      refine ⟨fun σ' H' => σ' = [some (.ref d), some (.int m), none, none, none] ∧ H' = upd (upd H1 l (.lst (ys.map V.int))) d (.dK (dealKvs mx sd z l)), ?_, V.int z, by simp, dealKvs mx sd n1 l, by rw [upd_ne dl]; exact hd1, deal_len _ _ _ _, by rw [put_number]; simp⟩
      rintro _ _ ⟨rfl, rfl⟩
      refine ⟨ys.length, by simp, rfl, z, upd_same, ys, by rw [upd_ne dl.symm, upd_same], hx1 z (by simp), fun x hx => hx1 x (by simp [hx]), by simp at hlen1; omega, fun b o h1 h2 e => ?_, rfl⟩
      rw [upd_ne h1, upd_ne h2]
      exact bt b o h1 h2 e
    · rintro σ H1 ⟨n1, xs1, rfl, hd1, hl1, n01, hx1, hlen1, bt⟩
      (try ctx_has vcx true_and hd1 hl1 get_number get_left get_mixed get_seed deal_len put_number put_seed upd_same)
      have fin : ∀ (r sd' n' : Int), 0 ≤ r → r < m → 0 ≤ n' → 0 ≤ sd' → sd' < 2147483648 → Q (.int r) (upd H1 d (HO.dK (dealKvs mx sd' n' l))) := fun r sd' n' r0 r1 n'0 h0 h1 =>
        k r _ r0 r1 ⟨mx, sd', n', xs1, upd_same, by rw [upd_ne dl.symm]; exact hl1, n'0, hx1, h0, h1, hlen1⟩ fun b o h1 h2 e => by rw [upd_ne h1]; exact bt b o h1 h2 e
      refine ite2 (fun h1 => ?_) (fun h1 => ?_)
      · exact ⟨⟨m0, m1⟩, m0, fin _ _ _ (Int.emod_nonneg _ (by omega)) (Int.emod_lt_of_pos _ m0) (Int.ediv_nonneg (by omega) (by omega)) s0 s1⟩
      · generalize hone : (sd * 48271 + 7919) % 2147483647 = one
        have o0 : 0 ≤ one := by omega
        have o1 : one < 2147483647 := by omega
        generalize hsd2 : (one * 40692 + 104729) % 2147483399 = sd2
        have p0 : 0 ≤ sd2 := by omega
        have p1 : sd2 < 2147483399 := by omega
        have q0 := Int.emod_nonneg (one * one) (show (2147483629 : Int) ≠ 0 by decide)
        have q1 := Int.emod_lt_of_pos (one * one) (show (0 : Int) < 2147483629 by decide)
        exact ⟨cmul_small s0 (by omega), by decide, cmul_small o0 (by omega), by decide, cmul_small p0 (by omega), by decide, cmul_small o0 (by omega), by decide, cmul_small q0 (by omega), m0,
          fin _ _ _ (Int.emod_nonneg _ (by omega)) (Int.emod_lt_of_pos _ m0) n01 p0 (by omega)⟩
theorem ok__law_deal {P : Program} {w : World} {K : PySem.W.Frag} {mg : Str → Option Value} {base : Heap}  (T : Txt mg base) (L : FnL K mg "_law_deal" s__law_deal ["_law_script", "_law_start"])  : Fn P w K mg base "_law_deal" 1 ["_law_script", "_law_start"] (spDeal K) := by
  have nd := sc__law_deal.nd
  refine L.ok sc__law_deal (fun vs H Q E h => ?_) (fun f cdv A outer s H vs Q E hr h => ?_)
  · obtain ⟨a, ns, st, rfl, hS, hlen, st0, st1, k⟩ := h
    rfl
  · obtain ⟨a, ns, st, rfl, hS, hlen, st0, st1, k⟩ := h
    have hu := hu_of hr
    refine ⟨_, (pss_cons (ps_setC (i := 2) (N := ["_law_cell"]) (nt := 1) (js := []) nd rfl (by first | exact Or.inl rfl | exact Or.inr rfl) rfl (compOk_of ["_law_script", "_law_start", "_law_cells", "_law_number", "_law_cell"] (defScope s__law_deal).names rfl rfl rfl (by decide +kernel)) (pi_LK (K := K) rfl (pe_slice sl_Q (pvM 0) (po_some (pvM 1)) (po_some pe_int))) (fun _ _ _ _ _ _ => (pg_name (i := 0) (show List.Nodup [("_law_cell" : Str)] by decide +kernel) rfl (Or.inl rfl))) (tgOk_name (by decide)) (fun _ _ _ _ _ _ => pts_nil) (fun _ _ _ _ _ _ => (pe_callB (call_max2 rfl) rfl T.b_max (show bootBuiltins "max" = some (.builtin "max") by decide +kernel) (pa_cons (pvM 0) (pa_cons (pe_op op_sub pe_int (pvM 0)) pa_nil)))))
      (pss_cons (ps_set (i := 3) nd rfl (by first | exact Or.inl rfl | exact Or.inr rfl) (pe_op op_add pe_int (pvM 1)))
      (pss_cons (ps_for PassesOwn.never rfl (pi_LK (K := K) rfl (pvM 2)) (pg_name (i := 4) nd rfl (by first | exact Or.inl rfl | exact Or.inr rfl)) (pss_one (ps_set (i := 3) nd rfl (by first | exact Or.inl rfl | exact Or.inr rfl) (pe_op op_mod (pe_op op_add (pe_op op_mul (pvM 3) pe_int) (pvM 4)) pe_int))))
      (pss_one (ps_ret (pe_disp (pps_cons pe_str (pe_op op_mod (pe_callB (call_sum_l rfl) rfl T.b_sum (show bootBuiltins "sum" = some (.builtin "sum") by decide +kernel) (pa_cons (pe_slice sl_Q (pvM 0) po_none (po_some pe_int)) pa_nil)) pe_int) (pps_cons pe_str (pvM 3) (pps_cons pe_str pe_int (pps_cons pe_str (pe_listrev rfl rfl T.b_list rfl T.b_reversed (pvM 2)) pps_nil)))) rfl rfl (by nofun) (by decide))))))), ?_⟩
    (try ctx_has vcx true_and)
    refine ⟨_, hS, fun p hp => ⟨_, upd_same, fun D hD => ?_⟩⟩
    have pD : D ≠ p := by rintro rfl; rw [upd_same] at hD; cases hD
    obtain ⟨ms, hms, hml⟩ := cut_ints ns (some st) (some 63)
    rw [hms] at hD ⊢
    rw [upd_ne pD] at hD
    refine comp_g wlk_list (fun i ys H2 => ∃ cs : List Int, ys = cs.map V.int ∧ cs.length = i ∧ (∀ x ∈ cs, 0 ≤ x) ∧ H2 p = some (.lst (ms.map V.int)) ∧ H2 D = some (.lst ys) ∧ Same H H2)
      ⟨[], rfl, rfl, by simp, by rw [upd_ne pD.symm, upd_same], upd_same, (Same.upd0 hp).upd_new (by rw [upd_ne pD]; exact hD)⟩ (fun i ys H2 zq36 => by obtain ⟨_, _, _, _, h, _⟩ := zq36; exact (.of h)) ?_ ?_
    · rintro i x ys H2 hi hx ⟨cs, rfl, rfl, hc, h1, h2, sm⟩
      obtain ⟨v, rfl⟩ := int_at hx
      (try ctx_has vcx true_and h2)
      have hi : cs.length < 63 := by simp at hi; omega
      refine ⟨by simp; exact small1000 (by omega), cs ++ [if 0 - v > v then 0 - v else v], by simp, by simp, fun x hx => ?_, by rw [upd_ne pD.symm]; exact h1, upd_same, fun b o e => ?_⟩
      · rcases List.mem_append.mp hx with q | q
        · exact hc x q
        · rw [List.mem_singleton.mp q]; split <;> omega
      · rw [upd_ne (ne_of_none e hD)]; exact sm b o e
    · rintro ys H2 ⟨cs, rfl, hc, hpos, h1, h2, sm⟩
      have hcl : cs.length ≤ 63 := by simp at hc; omega
      (try ctx_has vcx true_and h2)
      refine for_g wlk_list (fun i σ H3 => ∃ (z : Int) (v : Option V), σ = [some (.ref a), some (.int st), some (.ref D), some (.int z), v] ∧ 0 ≤ z ∧ z < 2147483648 ∧ H3 = H2)
        ⟨_, _, rfl, by omega, by omega, rfl⟩ (fun i σ H3 zq37 => by obtain ⟨_, _, _, _, _, h⟩ := zq37; exact (by rw [h]; exact .of h2)) ?_ ?_
      · rintro i x σ H3 hi hx ⟨z, v, rfl, z0, z1, rfl⟩
        obtain ⟨y, rfl⟩ := int_at hx
        (try ctx_has vcx true_and)
        exact ⟨cmul_small z0 (by omega), by decide, by omega, by omega⟩
      · rintro σ H3 ⟨z, v, rfl, z0, z1, rfl⟩
        (try ctx_has vcx true_and h2 rSum)
        intro d hd
        refine ⟨_, (sm.upd_new hd).seq hS, fun p2 hp2 => ?_⟩
        have dp2 : p2 ≠ d := by rintro rfl; rw [upd_same] at hp2; cases hp2
        have hp2' : H3 p2 = none := by rwa [upd_ne dp2] at hp2
        obtain ⟨xs, hxs, _⟩ := cut_ints ns none (some 1)
        rw [hxs]
        have nD2 : D ≠ p2 := ne_of_none h2 hp2'
        have nDd : D ≠ d := ne_of_none h2 hd
        refine ⟨xs, .of upd_same, by decide, _, by rw [upd_ne nD2, upd_ne nDd]; exact h2, fun l hl => ?_⟩
        have l1 : l ≠ p2 := by rintro rfl; rw [upd_same] at hl; cases hl
        have l2 : l ≠ d := by rintro rfl; rw [upd_ne dp2.symm, upd_same] at hl; cases hl
        have hl' : H3 l = none := by rwa [upd_ne l1, upd_ne l2] at hl
        refine ⟨by rw [upd_ne l2.symm, upd_ne dp2.symm, upd_same], dealKvs (xs.sum % 2) z 0 l, rfl, by show 4 ≤ 15; decide, ?_⟩
        rw [merge_deal]
        refine k d l _ (sm.free hd) (sm.free hl') ⟨_, z, 0, cs.reverse, upd_same, by rw [upd_ne l2, upd_same, List.map_reverse], by omega, fun x hx => hpos x (List.mem_reverse.mp hx), z0, z1, by simpa using hcl⟩ fun b o e => ?_
        have e3 := sm b o e
        rw [upd_ne (ne_of_none e3 hd), upd_ne (ne_of_none e3 hl'), upd_ne (ne_of_none e3 hp2'), upd_ne (ne_of_none e3 hd)]
        exact e3
noncomputable def spNames : Sp := fun vs H Q _ => ∃ (d l : Addr) (m : Int), vs = [.ref d, .int m] ∧ DealAt H d l ∧ 0 ≤ m ∧ m ≤ 20 ∧ ∀ (p : Addr) (ws : List Str) (H' : Hp), H p = none → NamesOk ws → ws.length = m.toNat → H' p = some (.lst (ws.map V.str)) → DealAt H' d l → But d l H H' → Q (.ref p) H'
theorem nxt_rd {w1 : Str} (n1 : IsNm w1) {P : Str → Prop} (h : P (nxtW w1)) : w1.length ≤ sizeLine ∧ ∃ c, atI w1.cps.toList 0 = some c ∧ ∃ i rest, Builtin.Str.occurrences (Str.ofString "abcdefghijklmnopqrstuvwxyz") { cps := #[c] } 0 (Str.ofString "abcdefghijklmnopqrstuvwxyz").length 1 = i :: rest ∧ (0 : Int) < 26 ∧
    (Str.ofString "abcdefghijklmnopqrstuvwxyz").length ≤ sizeLine ∧ ∃ c, atI (Str.ofString "abcdefghijklmnopqrstuvwxyz").cps.toList (((i : Nat) + 1 : Int) % 26) = some c ∧ w1.length ≤ sizeLine ∧ (Str.mk #[c]).length + (Txt.slice w1 (some 1) none).length ≤ sizeLine ∧ P ((Str.mk #[c]) ++ Txt.slice w1 (some 1) none) := by
  obtain ⟨c, cs, e, hc, hcs, hl⟩ := n1.cons
  have hlw : w1.length ≤ sizeLine := Nat.le_of_lt (small1000 (Nat.le_trans n1.le (by decide)))
  have hs := Txt.slice_le w1 (some 1) none
  have hw := n1.le
  refine ⟨hlw, c, by rw [e]; exact atI_zero _ _, _, _, letters_index hc, by decide, letters_len, _, letters_at (by omega) (by omega), hlw, Nat.le_of_lt (small1000 (by show 1 + _ ≤ 1000; omega)), ?_⟩
  have hc2 := hc
  simp only [smallB, Bool.and_eq_true, decide_eq_true_eq] at hc2
  have hl1 : w1.length = cs.length + 1 := by rw [← len_cps, e]; rfl
  have key : (Str.mk #[97 + ((((c - 97 : Nat) : Int) + 1) % 26).toNat]) ++ Txt.slice w1 (some 1) none = nxtW w1 := by
    apply str_ext
    rw [append_cps, slice_cps, e, hl1]
    have e1 : 97 + ((((c - 97 : Nat) : Int) + 1) % 26).toNat = nxtC c := by unfold nxtC; omega
    have e2 : HT.sIx (cs.length + 1) 0 (some 1) = 1 := by
      show (if (1 : Int) < 0 then ((1 : Int) + ((cs.length + 1 : Nat) : Int)).toNat else min (1 : Int).toNat (cs.length + 1)) = 1
      rw [if_neg (by decide)]
      show min 1 (cs.length + 1) = 1
      omega
    rw [e1, e2, HT.sIx_none]
    simp [nxtW, e, nxtL]
  rw [key]
  exact h
theorem names_while {Dn : Ends} {d p : Addr} {v1 vk vp : Option V} {ws : List Str} {H : Hp} {wd : Str} (hw : IsNm wd) (hws : ws.length ≤ 20) (hp : H p = some (.lst (ws.map V.str)))
    (fin : ∀ (wd' : Str) (H' : Hp), IsNm wd' → wd' ∉ ws → wd' ∉ marks4 → Same H H' → Dn.nx [some (.ref d), v1, some (.str (Str.ofString "abcdefghijklmnopqrstuvwxyz")), some (.ref p), vk, some (.str wd'), vp] H') :
    tWhile
      (tOr (tTest (tOp (rInL false) (tVarM 5) (tVarM 3)))
        (tTest (tOp (rInL false) (tVarM 5) (tLst (tCons (tC (V.str (Str.ofString "in"))) (tCons (tC (V.str (Str.ofString "from"))) (tCons (tC (V.str (Str.ofString "to"))) (tCons (tC (V.str (Str.ofString "end"))) tNil))))))))
      (tAsg (tOp rCS (tOp rIS (tVarM 2) (tOp (rI (fun x j => 0 < j) fun i j => V.int (i % j)) (tOp (rI0 fun i j => V.int (i + j)) (tMS rmIndex (tVarM 2) (tCons (tOp rIS (tVarM 5) (tC (V.int 0))) tNil)) (tC (V.int 1))) (tC (V.int 26))))
          (tSl rSlS (tVarM 5) (tPart (tC (V.int 1))) tNoPart)) (gName 5))
      Dn [some (.ref d), v1, some (.str (Str.ofString "abcdefghijklmnopqrstuvwxyz")), some (.ref p), vk, some (.str wd), vp] H := by
  obtain ⟨μ0, h0⟩ := free_word hw (F := ws ++ marks4) (by simp [marks4]; omega)
  refine while_rd (fun μ σ H' => ∃ wd' : Str, σ = [some (.ref d), v1, some (.str (Str.ofString "abcdefghijklmnopqrstuvwxyz")), some (.ref p), vk, some (.str wd'), vp] ∧ IsNm wd' ∧ nxtN μ wd' ∉ ws ++ marks4 ∧ Same H H')
    (fun σ H' => ∃ wd' : Str, σ = [some (.ref d), v1, some (.str (Str.ofString "abcdefghijklmnopqrstuvwxyz")), some (.ref p), vk, some (.str wd'), vp] ∧ IsNm wd' ∧ wd' ∉ ws ∧ wd' ∉ marks4 ∧ Same H H')
    ⟨μ0, wd, rfl, hw, h0, Same.refl _⟩ ?_ ?_
  · rintro R hR μ σ H1 ⟨w1, rfl, n1, f1, sm⟩
    have hp1 := sm _ _ hp
    have step : ∀ H2, Same H H2 → w1 ∈ ws ++ marks4 → ∀ σ' H', (σ' = [some (.ref d), v1, some (.str (Str.ofString "abcdefghijklmnopqrstuvwxyz")), some (.ref p), vk, some (.str (nxtW w1)), vp] ∧ H' = H2) → ∃ m', m' < μ ∧ ∃ wd' : Str, σ' = [some (.ref d), v1, some (.str (Str.ofString "abcdefghijklmnopqrstuvwxyz")), some (.ref p), vk, some (.str wd'), vp] ∧ IsNm wd' ∧ nxtN m' wd' ∉ ws ++ marks4 ∧ Same H H' := fun H2 sm2 hin => by
      rintro _ _ ⟨rfl, rfl⟩
      cases μ with
      | zero => exact absurd hin f1
      | succ μ => exact ⟨μ, Nat.lt_succ_self _, nxtW w1, rfl, nxtW_nm n1, f1, sm2⟩
    (try ctx_has vcx true_and hp1)
    refine ⟨rfl, flat_strs _, ?_⟩
    rw [inV_strs]
    refine ite2 (fun h => ?_) (fun h => ?_)
    · exact ⟨_, step H1 sm (List.mem_append_left _ (by simpa using h)), nxt_rd n1 (P := fun z => [some (V.ref d), v1, some (.str (Str.ofString "abcdefghijklmnopqrstuvwxyz")), some (.ref p), vk, some (.str z), vp] = [some (V.ref d), v1, some (.str (Str.ofString "abcdefghijklmnopqrstuvwxyz")), some (.ref p), vk, some (.str (nxtW w1)), vp] ∧ H1 = H1) ⟨rfl, rfl⟩⟩
    · refine ⟨by decide, fun q hq => ⟨_, upd_same, rfl, by decide +kernel, ?_⟩⟩
      have sm2 : Same H (upd H1 q (.lst (marks4.map V.str))) := sm.upd_new hq
      show (if inV (V.str w1) (marks4.map V.str) = true then _ else _)
      rw [inV_strs]
      refine ite2 (fun h2 => ?_) (fun h2 => ?_)
      · exact ⟨_, step _ sm2 (List.mem_append_right _ (by simpa using h2)), nxt_rd n1 (P := fun z => [some (V.ref d), v1, some (.str (Str.ofString "abcdefghijklmnopqrstuvwxyz")), some (.ref p), vk, some (.str z), vp] = [some (V.ref d), v1, some (.str (Str.ofString "abcdefghijklmnopqrstuvwxyz")), some (.ref p), vk, some (.str (nxtW w1)), vp] ∧ _ = _) ⟨rfl, rfl⟩⟩
      · exact hR _ _ ⟨w1, rfl, n1, by simpa using h, by simpa using h2, sm2⟩
  · rintro σ H1 ⟨w1, rfl, n1, f1, f2, sm⟩
    exact fin w1 H1 n1 f1 f2 sm
theorem ok__law_names {P : Program} {w : World} {K : PySem.W.Frag} {mg : Str → Option Value} {base : Heap}  (T : Txt mg base) (L : FnL K mg "_law_names" s__law_names ["_law_deal_here", "_law_many"]) (F_law_draw : Fn P w K mg base "_law_draw" 1 ["_law_deal_here", "_law_many"] (spDraw)) : Fn P w K mg base "_law_names" 2 ["_law_deal_here", "_law_many"] (spNames) := by
  have nd := sc__law_names.nd
  refine L.ok sc__law_names (fun vs H Q E h => ?_) (fun f cdv A outer s H vs Q E hr h => ?_)
  · obtain ⟨d, l, m, rfl, D, m0, m1, k⟩ := h
    rfl
  · obtain ⟨d, l, m, rfl, D, m0, m1, k⟩ := h
    have hu := hu_of hr
    refine ⟨_, (pss_cons (ps_set (i := 2) nd rfl (by first | exact Or.inl rfl | exact Or.inr rfl) pe_str)
      (pss_cons (ps_set (i := 3) nd rfl (by first | exact Or.inl rfl | exact Or.inr rfl) (pe_lst pa_nil))
      (pss_cons (ps_for PassesOwn.never rfl (pi_range1 rfl T.b_range (pa_cons (pvM 1) pa_nil)) (pg_name (i := 4) nd rfl (by first | exact Or.inl rfl | exact Or.inr rfl)) (pss_cons (ps_set (i := 5) nd rfl (by first | exact Or.inl rfl | exact Or.inr rfl) (pe_mS PySem.F.slot_str_join PySem.F.type_str_join ms_join pe_str (pa_cons (pe_comp (N := ["_law_j", "_law_letters", "_law_deal_here"]) (nt := 1) (js := [2, 0]) rfl (compOk_of ["_law_deal_here", "_law_many", "_law_letters", "_law_names_here", "_law_k", "_law_word", "_law_place"] (defScope s__law_names).names rfl rfl rfl (by decide +kernel)) (pi_range1 rfl T.b_range (pa_cons (pe_op op_add pe_int (pe_callF F_law_draw (hr.mono (by first | decide | omega)) rfl (pa_cons (pvM 0) (pa_cons pe_int pa_nil)))) pa_nil)) (fun _ _ _ _ _ _ => (pg_name (i := 0) (show List.Nodup [("_law_j" : Str), ("_law_letters" : Str), ("_law_deal_here" : Str)] by decide +kernel) rfl (Or.inl rfl))) (tgOk_name (by decide)) (fun _ _ _ _ _ _ => pts_nil) (fun _ _ _ _ _ _ => (pe_ix ix_S (pvM 1) (pe_callF F_law_draw (hr.mono (by first | decide | omega)) rfl (pa_cons (pvM 2) (pa_cons pe_int pa_nil))) (fun _ _ => rfl)))) pa_nil)))
      (pss_cons (ps_if (PW.pt (pw_and (pt_cmpR op_gt (pvM 4) pe_int (nomark _)) (pw_and1 (pt_cmpR op_eq (pe_callF F_law_draw (hr.mono (by first | decide | omega)) rfl (pa_cons (pvM 0) (pa_cons pe_int pa_nil))) pe_int (nomark _))))) (pss_cons (ps_set (i := 6) nd rfl (by first | exact Or.inl rfl | exact Or.inr rfl) (pe_callF F_law_draw (hr.mono (by first | decide | omega)) rfl (pa_cons (pvM 0) (pa_cons (pe_callB call_lenS rfl T.b_len PySem.boot_len (pa_cons (pe_ix ix_L (pvM 3) (pe_un un_neg pe_int) (fun _ _ => rfl)) pa_nil)) pa_nil))))
      (pss_one (ps_set (i := 5) nd rfl (by first | exact Or.inl rfl | exact Or.inr rfl) (pe_op op_catS (pe_op op_catS (pe_slice sl_str (pe_ix ix_L (pvM 3) (pe_un un_neg pe_int) (fun _ _ => rfl)) po_none (po_some (pvM 6))) (pe_ix ix_S (pvM 5) pe_int (fun _ _ => rfl))) (pe_slice sl_str (pe_ix ix_L (pvM 3) (pe_un un_neg pe_int) (fun _ _ => rfl)) (po_some (pe_op op_add (pvM 6) pe_int)) po_none))))) pss_nil)
      (pss_cons (ps_while PassesOwn.never (PW.pt (pw_or (pt_cmpR op_inL (pvM 5) (pvM 3) (by with_unfolding_all rfl)) (pw_or1 (pt_cmpR op_inL (pvM 5) (pe_lst (pa_cons pe_str (pa_cons pe_str (pa_cons pe_str (pa_cons pe_str pa_nil))))) (by with_unfolding_all rfl))))) (pss_one (ps_set (i := 5) nd rfl (by first | exact Or.inl rfl | exact Or.inr rfl) (pe_op op_catS (pe_ix ix_S (pvM 2) (pe_op op_mod (pe_op op_add (pe_mS PySem.F.slot_str_index PySem.F.type_str_index ms_index (pvM 2) (pa_cons (pe_ix ix_S (pvM 5) pe_int (fun _ _ => rfl)) pa_nil)) pe_int) pe_int) (fun _ _ => rfl)) (pe_slice sl_str (pvM 5) (po_some pe_int) po_none)))))
      (pss_one (ps_expr (pe_mL PySem.F.slot_list_append PySem.F.type_list_append ml_append (pvM 3) (pa_cons (pvM 5) pa_nil))))))))
      (pss_one (ps_ret (pvM 3)))))), ?_⟩
    (try ctx_has vcx true_and)
    refine ⟨by decide, fun p hp => ⟨by omega, by omega, ?_⟩⟩
    have np := D.ne hp
    refine for_g wlk_range (fun i σ H' => ∃ (ws : List Str) (vk vw vp : Option V), σ = [some (.ref d), some (.int m), some (.str (Str.ofString "abcdefghijklmnopqrstuvwxyz")), some (.ref p), vk, vw, vp] ∧ NamesOk ws ∧ ws.length = i ∧ H' p = some (.lst (ws.map V.str)) ∧ DealAt H' d l ∧ But d l H H')
      ⟨[], _, _, _, rfl, .nil, rfl, upd_same, D.new hp, (But.refl H).new hp⟩ (fun _ _ _ _ => True.intro) ?_ ?_
    · rintro i x σ H2 hi hx ⟨ws, vk, vw, vp, rfl, ok, hlen, h2, D2, B2⟩
      rw [rngV_length] at hi
      rw [rngV_get hi] at hx
      obtain rfl := Option.some.inj hx
      (try ctx_has vcx true_and)
      refine draw_rd D2 (by decide) (by decide) fun r H3 r0 r1 D3 B3 => ?_
      (try ctx_has vcx true_and)
      refine ⟨by omega, by omega, fun q hq => ?_⟩
      have h3 := B3 p _ np.1 np.2 h2
      have nq := D3.ne hq
      have npq : p ≠ q := ne_of_none h3 hq
      refine comp_g wlk_range (fun j ys H4 => ∃ cs : List Nat, ys = cs.map (fun c => V.str ⟨#[c]⟩) ∧ cs.length = j ∧ (∀ c ∈ cs, smallB c = true) ∧ H4 q = some (.lst ys) ∧ H4 p = some (.lst (ws.map V.str)) ∧ DealAt H4 d l ∧ But d l H H4)
        ⟨[], rfl, rfl, by simp, upd_same, by rw [upd_ne npq]; exact h3, D3.new hq, (B2.trans B3).new hq⟩ (fun _ _ _ _ => True.intro) ?_ ?_
      · rintro j x ys H4 hj hx ⟨cs, rfl, hcl, hcs, h4, h4p, D4, B4⟩
        (try ctx_has vcx true_and)
        rw [rngV_length] at hj
        refine draw_rd D4 (by decide) (by decide) fun r5 H5 r50 r51 D5 B5 => ?_
        have h5 := B5 q _ nq.1 nq.2 h4
        have h5p := B5 p _ np.1 np.2 h4p
        refine ⟨r5, rfl, letters_len, _, letters_at r50 r51, h5, by simp; exact small1000 (by omega), cs ++ [97 + r5.toNat], by simp, by simp; omega, fun c hc => ?_, upd_same, by rw [upd_ne npq]; exact h5p, D5.put nq.1 nq.2, (B4.trans B5).put (B2.free D2 ((B3.free D3 hq)))⟩
        rcases List.mem_append.mp hc with z | z
        · exact hcs c z
        · rw [List.mem_singleton.mp z]
          unfold smallB
          rw [Bool.and_eq_true, decide_eq_true_eq, decide_eq_true_eq]
          omega
      · rintro ys H4 ⟨cs, rfl, hcl, hcs, h4, h4p, D4, B4⟩
        rw [rngV_length] at hcl
        (try ctx_has vcx true_and)
        refine ⟨cs.map fun c => ⟨#[c]⟩, by rw [h4]; simp, by rw [sum_ones, show (Str.ofString "").length = 0 by decide +kernel]; omega, ?_⟩
        have hj := join_signs cs
        generalize Txt.join (Str.ofString "") (cs.map fun c => Str.mk #[c]) = wd at hj ⊢
        obtain ⟨c0, cs', rfl⟩ : ∃ c0 cs', cs = c0 :: cs' := by
          cases cs with
          | nil => simp at hcl; omega
          | cons a b => exact ⟨a, b, rfl⟩
        have nwd : IsNm wd := .of hj (hcs c0 (by simp)) (fun x hx => hcs x (by simp [hx])) (by simp at hcl; omega)
        have hwl : ∀ {w : Str}, IsNm w → w.length ≤ sizeLine := fun h => Nat.le_of_lt (small1000 (Nat.le_trans h.le (by decide)))
        have hws : ws.length ≤ 20 := by omega
        have fin : ∀ (wd' : Str) (H5 H6 : Hp), DealAt H5 d l → But d l H H5 → Same H5 H6 → IsNm wd' → wd' ∉ ws → wd' ∉ marks4 → ∃ ws', NamesOk ws' ∧ ws'.length = i + 1 ∧ upd H6 p (HO.lst (ws.map V.str ++ [V.str wd'])) p = some (HO.lst (ws'.map V.str)) ∧ DealAt (upd H6 p (HO.lst (ws.map V.str ++ [V.str wd']))) d l ∧ But d l H (upd H6 p (HO.lst (ws.map V.str ++ [V.str wd']))) :=
          fun wd' H5 H6 D5 B5 sm n f1 f2 => ⟨ws ++ [wd'], ok.snoc n f1 f2, by simp [hlen], by rw [upd_same]; simp, (D5.same sm).put np.1 np.2, (B5.same sm).put hp⟩
        refine ite2 (fun h => ?_) (fun h => ?_)
        · refine draw_rd D4 (by decide) (by decide) fun r5 H5 r50 r51 D5 B5 => ?_
          (try ctx_has vcx true_and)
          have h5 := B5 p _ np.1 np.2 h4p
          refine ite2 (fun h6 => ?_) (fun h6 => ?_)
          · rcases List.eq_nil_or_concat ws with rfl | ⟨ws0, z, rfl⟩
            · simp at hlen; omega
            have nz : IsNm z := ok.nm z (by simp)
            refine ⟨_, h5, _, by rw [List.concat_eq_append, List.map_append]; exact atI_last _ _, z, rfl, hwl nz, ?_⟩
            refine draw_rd D5 (by have := nz.pos; omega) (by have := nz.le; omega) fun r7 H7 r70 r71 D7 B7 => ?_
            have h7 := B7 p _ np.1 np.2 h5
            (try ctx_has vcx true_and h7)
            have hla : atI (List.map V.str (ws0.concat z)) (-1) = some (V.str z) := by rw [List.concat_eq_append, List.map_append]; exact atI_last _ _
            have l1 := Txt.slice_le z none (some r7)
            have l2 := Txt.slice_le z (some (r7 + 1)) none
            have l3 := nz.le
            refine ⟨_, hla, z, rfl, hwl nz, hwl nwd, c0, by rw [hj]; exact atI_zero _ _, Nat.le_of_lt (small1000 (by show _ + 1 ≤ 1000; omega)), _, hla, z, rfl, hwl nz, Nat.le_of_lt (small1000 (by rw [str_len_append]; show _ + 1 + _ ≤ 1000; omega)), ?_⟩
            refine names_while (edit_nm nz (hcs c0 (by simp)) r70 r71) hws h7 fun wd' H8 n f1 f2 sm => ?_
            have h8 := sm _ _ h7
            (try ctx_has vcx true_and h8)
            exact ⟨by simp only [List.length_map]; exact small1000 (by omega), fin wd' H7 H8 D7 ((B4.trans B5).trans B7) sm n f1 f2⟩
          · refine names_while nwd hws h5 fun wd' H6 n f1 f2 sm => ?_
            have h6 := sm _ _ h5
            (try ctx_has vcx true_and h6)
            exact ⟨by simp; exact small1000 (by omega), fin wd' H5 H6 D5 (B4.trans B5) sm n f1 f2⟩
        · refine names_while nwd hws h4p fun wd' H6 n f1 f2 sm => ?_
          have h6 := sm _ _ h4p
          (try ctx_has vcx true_and h6)
          exact ⟨by simp; exact small1000 (by omega), fin wd' H4 H6 D4 B4 sm n f1 f2⟩
    · rintro σ H2 ⟨ws, vk, vw, vp, rfl, ok, hlen, h2, D2, B2⟩
      (try ctx_has vcx true_and)
      rw [rngV_length] at hlen
      exact k p ws H2 hp ok hlen h2 D2 B2
noncomputable def RoomsFor (H : Hp) (kvs : List (Key × V)) (cs : List Str) (rm : Str → List Int) : Prop := ∀ c ∈ cs, ∃ a, valV kvs (Sum.inr c) = some (.ref a) ∧ H a = some (.tup ((rm c).map V.int))
structure KeepTI (H H' : Hp) : Prop where
  tup : ∀ a vs, H a = some (.tup vs) → H' a = some (.tup vs)
  ins : ∀ a C dx fs, H a = some (.ins C dx fs) → H' a = some (.ins C dx fs)
theorem But.keepTI {d l : Addr} {H H' : Hp} (B : But d l H H') (D : DealAt H d l) : KeepTI H H' := by
  obtain ⟨m, sd, n, xs, hd, hl, _⟩ := D.ex
  exact ⟨fun a vs e => B a _ (ne_of e hd (by intro z; cases z)) (ne_of e hl (by intro z; cases z)) e, fun a C dx fs e => B a _ (ne_of e hd (by intro z; cases z)) (ne_of e hl (by intro z; cases z)) e⟩
theorem plain_put {kvs : List (Key × V)} {k : Key} {v : V} (h : ∀ x ∈ kvs, plainV x.2 = true) (hv : plainV v = true) : ∀ x ∈ putK kvs k v, plainV x.2 = true := by
  intro x hx
  unfold putK at hx
  split at hx
  · obtain ⟨y, hy, rfl⟩ := List.mem_map.mp hx
    split
    · exact hv
    · exact h y hy
  · rcases List.mem_append.mp hx with q | q
    · exact h x q
    · rw [List.mem_singleton.mp q]; exact hv
theorem RoomsFor.same {H H' : Hp} {kvs : List (Key × V)} {cs : List Str} {rm : Str → List Int} (h : RoomsFor H kvs cs rm) (s : ∀ a vs, H a = some (.tup vs) → H' a = some (.tup vs)) : RoomsFor H' kvs cs rm := fun c hc => by
  obtain ⟨a, e1, e2⟩ := h c hc
  exact ⟨a, e1, s _ _ e2⟩
noncomputable def setF {α : Type} (f : Str → α) (c : Str) (v : α) : Str → α := fun x => if x = c then v else f x
theorem RoomsFor.put {H H' : Hp} {kvs : List (Key × V)} {cs : List Str} {rm : Str → List Int} {c : Str} {t : Addr} {ns : List Int} (h : RoomsFor H kvs cs rm) (hc : c ∉ cs) (s : ∀ a vs, H a = some (.tup vs) → H' a = some (.tup vs)) (ht : H' t = some (.tup (ns.map V.int))) :
    RoomsFor H' (putK kvs (Sum.inr c) (.ref t)) (cs ++ [c]) (setF rm c ns) := fun x hx => by
  rcases List.mem_append.mp hx with q | q
  · have hne : x ≠ c := fun e => hc (e ▸ q)
    obtain ⟨a, e1, e2⟩ := h x q
    refine ⟨a, ?_, ?_⟩
    · rw [valV_put, if_neg (fun e => hne (Sum.inr.inj e))]; exact e1
    · unfold setF; rw [if_neg hne]; exact s _ _ e2
  · rw [List.mem_singleton.mp q]
    refine ⟨t, by rw [valV_put, if_pos rfl], ?_⟩
    unfold setF; rw [if_pos rfl]; exact ht
noncomputable def okF (rm : Str → List Int) (cs : List Str) (g : Str → Int) : Prop := ∀ c ∈ cs, g c ∈ rm c
noncomputable def IsFill (H : Hp) (x : V) (cs : List Str) (g : Str → Int) : Prop := ∃ a kvs, x = .ref a ∧ H a = some (.dK kvs) ∧ (∀ c ∈ cs, valV kvs (Sum.inr c) = some (.int (g c))) ∧ kvs.length ≤ cs.length ∧ ∀ x ∈ kvs, plainV x.2 = true
theorem IsFill.keep {H H' : Hp} {x : V} {cs : List Str} {g : Str → Int} (h : IsFill H x cs g) (k : ∀ a kvs, H a = some (.dK kvs) → H' a = some (.dK kvs)) : IsFill H' x cs g := by
  obtain ⟨a, kvs, e, h1, h2⟩ := h
  exact ⟨a, kvs, e, k _ _ h1, h2⟩
theorem setF_same {α : Type} (g : Str → α) (c : Str) (v : α) : setF g c v c = v := by unfold setF; rw [if_pos rfl]
theorem setF_ne {α : Type} (g : Str → α) {c x : Str} (v : α) (h : x ≠ c) : setF g c v x = g x := by unfold setF; rw [if_neg h]
theorem IsFill.put {H' : Hp} {cs : List Str} {c : Str} {g : Str → Int} {v : Int} {kvs : List (Key × V)} {q : Addr} (h : ∀ x ∈ cs, valV kvs (Sum.inr x) = some (.int (g x))) (hk : kvs.length ≤ cs.length ∧ ∀ x ∈ kvs, plainV x.2 = true) (hc : c ∉ cs) (hq : H' q = some (.dK (putK kvs (Sum.inr c) (.int v)))) : IsFill H' (.ref q) (cs ++ [c]) (setF g c v) := by
  refine ⟨q, _, rfl, hq, fun x hx => ?_, Nat.le_trans (length_putK _ _ _) (by have := hk.1; simp; omega), plain_put hk.2 rfl⟩
  rw [valV_put]
  by_cases e : x = c
  · subst e; rw [if_pos rfl, setF_same]
  · rw [if_neg (fun z => e (Sum.inr.inj z)), setF_ne _ _ e]
    rcases List.mem_append.mp hx with z | z
    · exact h x z
    · exact absurd (List.mem_singleton.mp z) e
noncomputable def spPool5 : Sp := fun vs H Q _ => ∃ (d l : Addr), vs = [.ref d] ∧ DealAt H d l ∧ ∀ (p : Addr) (ns : List Int) (H' : Hp), H p = none → ns.length = 5 → ns.Pairwise (· < ·) → (∀ x ∈ ns, -1000000 ≤ x ∧ x ≤ 1000000) → H' p = some (.lst (ns.map V.int)) → DealAt H' d l → But d l H H' → Q (.ref p) H'
noncomputable def spRoomsP : Sp := fun vs H Q _ => ∃ (d l a p : Addr) (ws : List Str) (ns : List Int) (m : Int), vs = [.ref d, .ref a, .ref p, .int m] ∧ DealAt H d l ∧ (a ≠ d ∧ a ≠ l) ∧ (p ≠ d ∧ p ≠ l) ∧ H a = some (.lst (ws.map V.str)) ∧ ws.length ≤ 45 ∧ H p = some (.lst (ns.map V.int)) ∧ ns.length = 5 ∧ ns.Pairwise (· < ·) ∧ 1 ≤ m ∧ m ≤ 20 ∧
  ∀ (r : Addr) (kvs : List (Key × V)) (rm : Str → List Int) (H' : Hp), H r = none → H' r = some (.dK kvs) → RoomsFor H' kvs ws rm → (∀ c ∈ ws, rm c ≠ [] ∧ ((rm c).length : Int) ≤ m ∧ (rm c).Pairwise (· < ·) ∧ ∀ v ∈ rm c, v ∈ ns) → (∀ x ∈ kvs, plainV x.2 = true) → kvs.length ≤ 2 * ws.length → DealAt H' d l → But d l H H' → Q (.ref r) H'
noncomputable def spSome : Sp := fun vs H Q _ => ∃ (d l a : Addr) (m : Int) (xs : List V), vs = [.ref d, .ref a, .int m] ∧ DealAt H d l ∧ sqOf H a xs ∧ 0 ≤ m ∧ m ≤ xs.length ∧ xs.length ≤ 60 ∧
  ∀ (p : Addr) (got rest : List V) (H' : Hp), H p = none → (got ++ rest).Perm xs → m ≤ got.length → H' p = some (.tup got) → DealAt H' d l → But d l H H' → Q (.ref p) H'
theorem lay_ints : ∀ ns : List Int, PyData.canLayAll0 (ns.map PyData.int) = true
  | [] => rfl
  | n :: ns => by
    rw [List.map_cons]
    unfold PyData.canLayAll0
    rw [lay_ints ns]
    rfl
theorem depth_ints : ∀ ns : List Int, PyData.depthAll (ns.map PyData.int) = 0
  | [] => rfl
  | n :: ns => by
    rw [List.map_cons]
    unfold PyData.depthAll
    rw [depth_ints ns]
    rfl
theorem eq_nil_ints (ns : List Int) : PyData.eqv (.list (ns.map PyData.int)) (.list []) = decide (ns = []) := by
  cases ns with
  | nil => rfl
  | cons n ns => simp [PyData.eqv, PyData.eqvAll]
theorem RoomsFor.putG {H H' : Hp} {kvs : List (Key × V)} {cs cs' : List Str} {rm : Str → List Int} {c : Str} {t : Addr} {ns : List Int} (h : RoomsFor H kvs cs rm) (s : ∀ a vs, H a = some (.tup vs) → H' a = some (.tup vs)) (ht : H' t = some (.tup (ns.map V.int))) (sub : ∀ x ∈ cs', x = c ∨ x ∈ cs) :
    RoomsFor H' (putK kvs (Sum.inr c) (.ref t)) cs' (setF rm c ns) := fun x hx => by
  by_cases e : x = c
  · subst e
    exact ⟨t, by rw [valV_put, if_pos rfl], by unfold setF; rw [if_pos rfl]; exact ht⟩
  · obtain ⟨a, e1, e2⟩ := h x ((sub x hx).resolve_left e)
    exact ⟨a, by rw [valV_put, if_neg (fun z => e (Sum.inr.inj z))]; exact e1, by unfold setF; rw [if_neg e]; exact s _ _ e2⟩
theorem perm_inv {α : Type} (f : α → V) (inv : V → α) (hi : ∀ x, inv (f x) = x) {got rest : List V} {xs : List α} (h : (got ++ rest).Perm (xs.map f)) : ∃ ys zs : List α, got = ys.map f ∧ (ys ++ zs).Perm xs := by
  refine ⟨got.map inv, rest.map inv, ?_, ?_⟩
  · rw [List.map_map]
    have : ∀ v ∈ got, f (inv v) = v := fun v hv => by
      obtain ⟨x, _, rfl⟩ := List.mem_map.mp (h.mem_iff.mp (List.mem_append_left _ hv))
      rw [hi]
    conv => lhs; rw [← List.map_id got]
    exact List.map_congr_left fun v hv => (this v hv).symm
  · have := h.map inv
    rw [List.map_append, List.map_map] at this
    have e : xs.map (inv ∘ f) = xs := by
      conv => rhs; rw [← List.map_id xs]
      exact List.map_congr_left fun x _ => hi x
    rw [e] at this
    exact this
noncomputable def invS : V → Str | .str s => s | _ => ""
noncomputable def invI : V → Int | .int i => i | _ => 0
theorem ok__law_pool {P : Program} {w : World} {K : PySem.W.Frag} {mg : Str → Option Value} {base : Heap}  (T : Txt mg base) (L : FnL K mg "_law_pool" s__law_pool ["_law_deal_here"]) (F_law_draw : Fn P w K mg base "_law_draw" 1 ["_law_deal_here", "_law_many"] (spDraw)) : Fn P w K mg base "_law_pool" 2 ["_law_deal_here"] (spPool5) := by
  have nd := sc__law_pool.nd
  refine L.ok sc__law_pool (fun vs H Q E h => ?_) (fun f cdv A outer s H vs Q E hr h => ?_)
  · obtain ⟨d, l, rfl, D, k⟩ := h
    rfl
  · obtain ⟨d, l, rfl, D, k⟩ := h
    have hu := hu_of hr
    refine ⟨_, (pss_cons (ps_set (i := 1) nd rfl (by first | exact Or.inl rfl | exact Or.inr rfl) (pe_op op_sub (pe_callF F_law_draw (hr.mono (by first | decide | omega)) rfl (pa_cons (pvM 0) (pa_cons pe_int pa_nil))) pe_int))
      (pss_cons (ps_if (pt_cmpR op_eq (pe_callF F_law_draw (hr.mono (by first | decide | omega)) rfl (pa_cons (pvM 0) (pa_cons pe_int pa_nil))) pe_int (nomark _)) (pss_one (ps_set (i := 1) nd rfl (by first | exact Or.inl rfl | exact Or.inr rfl) (pe_op op_sub (pe_callF F_law_draw (hr.mono (by first | decide | omega)) rfl (pa_cons (pvM 0) (pa_cons pe_int pa_nil))) pe_int))) pss_nil)
      (pss_cons (ps_set (i := 2) nd rfl (by first | exact Or.inl rfl | exact Or.inr rfl) (pe_lst pa_nil))
      (pss_cons (ps_for PassesOwn.never rfl (pi_range1 rfl T.b_range (pa_cons pe_int pa_nil)) (pg_name (i := 3) nd rfl (by first | exact Or.inl rfl | exact Or.inr rfl)) (pss_cons (ps_expr (pe_mL PySem.F.slot_list_append PySem.F.type_list_append ml_append (pvM 2) (pa_cons (pvM 1) pa_nil)))
      (pss_one (ps_set (i := 1) nd rfl (by first | exact Or.inl rfl | exact Or.inr rfl) (pe_op op_add (pe_op op_add (pvM 1) pe_int) (pe_ix ix_L (pe_lst (pa_cons pe_int (pa_cons (pe_callF F_law_draw (hr.mono (by first | decide | omega)) rfl (pa_cons (pvM 0) (pa_cons pe_int pa_nil))) (pa_cons pe_int pa_nil)))) (pe_callF F_law_draw (hr.mono (by first | decide | omega)) rfl (pa_cons (pvM 0) (pa_cons pe_int pa_nil))) (fun _ _ => rfl)))))))
      (pss_one (ps_ret (pvM 2))))))), ?_⟩
    (try ctx_has vcx true_and)
    refine draw_rd D (by decide) (by decide) fun r H1 r0 r1 D1 B1 => ?_
    (try ctx_has vcx true_and)
    refine draw_rd D1 (by decide) (by decide) fun r2 H2 r20 r21 D2 B2 => ?_
    (try ctx_has vcx true_and)
    refine ite2 (fun h => ?_) (fun h => ?_)
    · refine draw_rd D2 (by decide) (by decide) fun r3 H3 r30 r31 D3 B3 => ?_
      have B3 := (B1.trans B2).trans B3
      refine ⟨_, rfl, by decide, fun p hp => ?_⟩
      have np := D3.ne hp
      have fp : H p = none := B3.free D3 hp
      refine ⟨by decide, by decide, ?_⟩
      refine for_g wlk_range (fun i σ H' => ∃ (ns : List Int) (low : Int) (vk : Option V), σ = [some (.ref d), some (.int low), some (.ref p), vk] ∧ ns.length = i ∧ ns.Pairwise (· < ·) ∧ (∀ x ∈ ns, x < low ∧ -1000000 ≤ x ∧ x ≤ 1000000) ∧ -999500 ≤ low ∧ low ≤ 999500 + 98 * (i : Int) ∧ H' p = some (.lst (ns.map V.int)) ∧ DealAt H' d l ∧ But d l H H')
        ⟨[], _, _, rfl, rfl, .nil, by simp, by omega, by omega, upd_same, D3.new hp, B3.new hp⟩ (fun _ _ _ _ => True.intro) ?_ ?_
      · rintro i x σ H2 hi hx ⟨ns, low, vk, rfl, hlen, hpw, hall, lo0, lo1, h2, D2, B2⟩
        rw [rngV_length] at hi
        have hi5 : i < 5 := hi
        (try ctx_has vcx true_and h2)
        refine ⟨by rw [List.length_map]; exact small1000 (by omega), ?_⟩
        refine draw_rd (D2.put np.1 np.2) (by decide) (by decide) fun r3 H3 r30 r31 D3 B3 => ?_
        refine ⟨by decide, fun p2 hp2 => ?_⟩
        refine draw_of D3 hp2 (by decide) (by decide) rfl fun r5 v H5 hv ha D5 B5 h5 => ?_
        have h5p := B5 p _ np.1 np.2 (B3 p _ np.1 np.2 upd_same)
        obtain ⟨y, rfl, y0, y1⟩ : ∃ y : Int, v = .int y ∧ 0 ≤ y ∧ y ≤ 97 := by
          simp only [List.mem_cons, List.not_mem_nil, or_false] at hv
          rcases hv with rfl | rfl | rfl
          · exact ⟨0, rfl, by decide, by decide⟩
          · exact ⟨r3, rfl, r30, by omega⟩
          · exact ⟨97, rfl, by decide, by decide⟩
        (try ctx_has vcx true_and h5 ha)
        refine ⟨ns ++ [low], by simp; omega, ?_, fun z hz => ?_, by omega, by omega, by rw [h5p]; simp, D5, ((B2.put fp).trans B3).trans B5⟩
        · rw [List.pairwise_append]
          exact ⟨hpw, List.pairwise_singleton _ _, fun x hx y hy => by rw [List.mem_singleton.mp hy]; exact (hall x hx).1⟩
        · rcases List.mem_append.mp hz with q | q
          · have := hall z q; omega
          · rw [List.mem_singleton.mp q]; omega
      · rintro σ H2 ⟨ns, low, vk, rfl, hlen, hpw, hall, lo0, lo1, h2, D2, B2⟩
        rw [rngV_length] at hlen
        (try ctx_has vcx true_and)
        exact k p ns H2 fp hlen hpw (fun x hx => (hall x hx).2) h2 D2 B2
    · have B2 := B1.trans B2
      refine ⟨by decide, fun p hp => ?_⟩
      have np := D2.ne hp
      have fp : H p = none := B2.free D2 hp
      refine ⟨by decide, by decide, ?_⟩
      refine for_g wlk_range (fun i σ H' => ∃ (ns : List Int) (low : Int) (vk : Option V), σ = [some (.ref d), some (.int low), some (.ref p), vk] ∧ ns.length = i ∧ ns.Pairwise (· < ·) ∧ (∀ x ∈ ns, x < low ∧ -1000000 ≤ x ∧ x ≤ 1000000) ∧ -999500 ≤ low ∧ low ≤ 999500 + 98 * (i : Int) ∧ H' p = some (.lst (ns.map V.int)) ∧ DealAt H' d l ∧ But d l H H')
        ⟨[], _, _, rfl, rfl, .nil, by simp, by omega, by omega, upd_same, D2.new hp, B2.new hp⟩ (fun _ _ _ _ => True.intro) ?_ ?_
      · rintro i x σ H2 hi hx ⟨ns, low, vk, rfl, hlen, hpw, hall, lo0, lo1, h2, D2, B2⟩
        rw [rngV_length] at hi
        have hi5 : i < 5 := hi
        (try ctx_has vcx true_and h2)
        refine ⟨by rw [List.length_map]; exact small1000 (by omega), ?_⟩
        refine draw_rd (D2.put np.1 np.2) (by decide) (by decide) fun r3 H3 r30 r31 D3 B3 => ?_
        refine ⟨by decide, fun p2 hp2 => ?_⟩
        refine draw_of D3 hp2 (by decide) (by decide) rfl fun r5 v H5 hv ha D5 B5 h5 => ?_
        have h5p := B5 p _ np.1 np.2 (B3 p _ np.1 np.2 upd_same)
        obtain ⟨y, rfl, y0, y1⟩ : ∃ y : Int, v = .int y ∧ 0 ≤ y ∧ y ≤ 97 := by
          simp only [List.mem_cons, List.not_mem_nil, or_false] at hv
          rcases hv with rfl | rfl | rfl
          · exact ⟨0, rfl, by decide, by decide⟩
          · exact ⟨r3, rfl, r30, by omega⟩
          · exact ⟨97, rfl, by decide, by decide⟩
        (try ctx_has vcx true_and h5 ha)
        refine ⟨ns ++ [low], by simp; omega, ?_, fun z hz => ?_, by omega, by omega, by rw [h5p]; simp, D5, ((B2.put fp).trans B3).trans B5⟩
        · rw [List.pairwise_append]
          exact ⟨hpw, List.pairwise_singleton _ _, fun x hx y hy => by rw [List.mem_singleton.mp hy]; exact (hall x hx).1⟩
        · rcases List.mem_append.mp hz with q | q
          · have := hall z q; omega
          · rw [List.mem_singleton.mp q]; omega
      · rintro σ H2 ⟨ns, low, vk, rfl, hlen, hpw, hall, lo0, lo1, h2, D2, B2⟩
        rw [rngV_length] at hlen
        (try ctx_has vcx true_and)
        exact k p ns H2 fp hlen hpw (fun x hx => (hall x hx).2) h2 D2 B2
theorem ok__law_rooms {P : Program} {w : World} {K : PySem.W.Frag} {mg : Str → Option Value} {base : Heap}  (T : Txt mg base) (L : FnL K mg "_law_rooms" s__law_rooms ["_law_deal_here", "_law_names_here", "_law_pool_here", "_law_most"]) (F_law_draw : Fn P w K mg base "_law_draw" 1 ["_law_deal_here", "_law_many"] (spDraw)) : Fn P w K mg base "_law_rooms" 2 ["_law_deal_here", "_law_names_here", "_law_pool_here", "_law_most"] (spRoomsP) := by
  have nd := sc__law_rooms.nd
  refine L.ok sc__law_rooms (fun vs H Q E h => ?_) (fun f cdv A outer s H vs Q E hr h => ?_)
  · obtain ⟨d, l, a, p, ws, ns, m, rfl, D, na, np, ha, hwl, hp, hn5, hnp, m0, m1, k⟩ := h
    rfl
  · obtain ⟨d, l, a, p, ws, ns, m, rfl, D, na, np, ha, hwl, hp, hn5, hnp, m0, m1, k⟩ := h
    have hu := hu_of hr
    refine ⟨_, (pss_cons (ps_set (i := 4) nd rfl (by first | exact Or.inl rfl | exact Or.inr rfl) pe_dnewK)
      (pss_cons (ps_for PassesOwn.never rfl (pi_LK (K := K) rfl (pvM 1)) (pg_name (i := 5) nd rfl (by first | exact Or.inl rfl | exact Or.inr rfl)) (pss_cons (ps_setC (i := 6) (N := ["_law_value", "_law_deal_here"]) (nt := 1) (js := [0]) nd rfl (by first | exact Or.inl rfl | exact Or.inr rfl) rfl (compOk_of ["_law_deal_here", "_law_names_here", "_law_pool_here", "_law_most", "_law_rooms_here", "_law_name", "_law_some_here"] (defScope s__law_rooms).names rfl rfl rfl (by decide +kernel)) (pi_LK (K := K) rfl (pvM 2)) (fun _ _ _ _ _ _ => (pg_name (i := 0) (show List.Nodup [("_law_value" : Str), ("_law_deal_here" : Str)] by decide +kernel) rfl (Or.inl rfl))) (tgOk_name (by decide)) (fun _ _ _ _ _ _ => pts_one (pt_cmpR op_eq (pe_callF F_law_draw (hr.mono (by first | decide | omega)) rfl (pa_cons (pvM 1) (pa_cons pe_int pa_nil))) pe_int (nomark _))) (fun _ _ _ _ _ _ => (pvM 0)))
      (pss_cons (ps_dp hu (pvM 4) (pvM 5) (pe_callTy call_tupL rfl T.b_tuple (show bootBuiltins "tuple" = some (.type "tuple") by decide +kernel) (pa_cons (pe_slice sl_L (pvM 6) po_none (po_some (pvM 3))) pa_nil)) rfl)
      (pss_one (ps_if (pt_cmpR (op_eqD (hu100 hr)) (pvM 6) (pe_lst pa_nil) (nomark _)) (pss_one (ps_dp hu (pvM 4) (pvM 5) (pe_tup (pa_cons (pe_ix ix_L (pvM 2) (pe_callF F_law_draw (hr.mono (by first | decide | omega)) rfl (pa_cons (pvM 0) (pa_cons pe_int pa_nil))) (fun _ _ => rfl)) pa_nil)) rfl)) pss_nil)))))
      (pss_one (ps_ret (pvM 4))))), ?_⟩
    (try ctx_has vcx true_and)
    intro q hq
    have nq := D.ne hq
    have aq : a ≠ q := ne_of_none ha hq
    have pq : p ≠ q := ne_of_none hp hq
    refine ⟨_, by rw [upd_ne aq]; exact ha, ?_⟩
    refine for_g wlk_list (fun i σ H' => ∃ (kvs : List (Key × V)) (rm : Str → List Int) (v5 v6 : Option V), σ = [some (.ref d), some (.ref a), some (.ref p), some (.int m), some (.ref q), v5, v6] ∧ H' q = some (.dK kvs) ∧ RoomsFor H' kvs (ws.take i) rm ∧
        (∀ c ∈ ws.take i, rm c ≠ [] ∧ ((rm c).length : Int) ≤ m ∧ (rm c).Pairwise (· < ·) ∧ ∀ v ∈ rm c, v ∈ ns) ∧ (∀ x ∈ kvs, plainV x.2 = true) ∧ kvs.length ≤ 2 * i ∧ H' a = some (.lst (ws.map V.str)) ∧ H' p = some (.lst (ns.map V.int)) ∧ DealAt H' d l ∧ But d l H H')
      ⟨[], fun _ => [], _, _, rfl, upd_same, fun c hc => by simp at hc, fun c hc => by simp at hc, by simp, Nat.zero_le _, by rw [upd_ne aq]; exact ha, by rw [upd_ne pq]; exact hp, D.new hq, (But.refl H).new hq⟩ (fun i σ H' zq38 => by obtain ⟨_, _, _, _, _, _, _, _, _, _, h, _⟩ := zq38; exact (.of h)) ?_ ?_
    · rintro i x σ H2 hi hx ⟨kvs, rm, v5, v6, rfl, h2, hrf, hgd, hpl, hkl, h2a, h2p, D2, B2⟩
      rw [List.length_map] at hi
      obtain ⟨c, hcx, rfl⟩ : ∃ c, ws[i]? = some c ∧ V.str c = x := by
        rw [List.getElem?_map] at hx
        cases e : ws[i]? with
        | none => rw [e] at hx; cases hx
        | some nm => rw [e] at hx; exact ⟨nm, rfl, Option.some.inj hx⟩
      have etk : ws.take (i + 1) = ws.take i ++ [c] := by rw [List.take_add_one, hcx]; rfl
      have hsub : ∀ x ∈ ws.take (i + 1), x = c ∨ x ∈ ws.take i := fun x hx => by
        rw [etk] at hx
        rcases List.mem_append.mp hx with z | z
        · exact .inr z
        · exact .inl (List.mem_singleton.mp z)
      (try ctx_has vcx true_and h2p)
      intro g hg
      have ng := D2.ne hg
      have fg : H g = none := B2.free D2 hg
      refine comp_g wlk_list (fun j ys H5 => ∃ got : List Int, ys = got.map V.int ∧ got.Sublist (ns.take j) ∧ H5 g = some (.lst ys) ∧ H5 p = some (.lst (ns.map V.int)) ∧ (∀ b o, b ≠ d → b ≠ l → H2 b = some o → H5 b = some o) ∧ DealAt H5 d l)
        ⟨[], rfl, by simp, upd_same, by rw [upd_ne (ne_of_none h2p hg)]; exact h2p, fun b o _ _ e => by rw [upd_ne (ne_of_none e hg)]; exact e, D2.new hg⟩ (fun j ys H5 zq39 => by obtain ⟨_, _, _, _, h, _⟩ := zq39; exact (.of h)) ?_ ?_
      · rintro j y ys H5 hj hy ⟨got, rfl, hgs, h5g, h5p, k5, D5⟩
        rw [List.length_map] at hj
        obtain ⟨z, hz, rfl⟩ : ∃ z, ns[j]? = some z ∧ V.int z = y := by
          rw [List.getElem?_map] at hy
          cases e : ns[j]? with
          | none => rw [e] at hy; cases hy
          | some nm => rw [e] at hy; exact ⟨nm, rfl, Option.some.inj hy⟩
        have en : ns.take (j + 1) = ns.take j ++ [z] := by rw [List.take_add_one, hz]; rfl
        have hgl : got.length ≤ 5 := Nat.le_trans hgs.length_le (by simp; omega)
        (try ctx_has vcx true_and)
        refine draw_rd D5 (by decide) (by decide) fun r6 H6 r60 r61 D6 B6 => ?_
        have h6g := B6 g _ ng.1 ng.2 h5g
        have h6p := B6 p _ np.1 np.2 h5p
        (try ctx_has vcx true_and)
        refine ite2 (fun hr1 => ?_) (fun hr1 => ?_)
        · refine ⟨h6g, by rw [List.length_map]; exact small1000 (by omega), got ++ [z], by simp, by rw [en]; exact hgs.append_right [z], upd_same, by rw [upd_ne (ne_of_none h2p hg)]; exact h6p, fun b o h1 h2 e => by rw [upd_ne (ne_of_none e hg)]; exact B6 b o h1 h2 (k5 b o h1 h2 e), D6.put ng.1 ng.2⟩
        · exact ⟨got, rfl, by rw [en]; exact hgs.trans (List.sublist_append_left _ _), h6g, h6p, fun b o h1 h2 e => B6 b o h1 h2 (k5 b o h1 h2 e), D6⟩
      · rintro ys H5 ⟨got, rfl, hgs, h5g, h5p, k5, D5⟩
        rw [List.length_map] at hgs
        rw [List.take_length] at hgs
        (try ctx_has vcx true_and h5g)
        intro u hu1
        refine ⟨_, upd_same, fun t ht => ?_⟩
        obtain ⟨mn, rfl⟩ := Int.eq_ofNat_of_zero_le (show 0 ≤ m by omega)
        rw [cut_map] at ht ⊢
        have ut : u ≠ t := by rintro rfl; rw [upd_same] at ht; cases ht
        have ht5 : H5 t = none := by rwa [upd_ne ut.symm] at ht
        have s5 : Same H5 (upd (upd H5 u (.lst ((got.take mn).map V.int))) t (.tup ((got.take mn).map V.int))) := (Same.upd0 hu1).upd_new ht
        have h5q := k5 q _ nq.1 nq.2 h2
        have h5a := k5 a _ na.1 na.2 h2a
        refine ⟨kvs, s5 _ _ h5q, small1000 (by omega), ?_⟩
        have tq : t ≠ q := (ne_of_none h5q ht5).symm
        have ktup : ∀ b vs, H2 b = some (.tup vs) → upd (upd (upd H5 u (.lst ((got.take mn).map V.int))) t (.tup ((got.take mn).map V.int))) q (.dK (putK kvs (Sum.inr c) (.ref t))) b = some (.tup vs) := fun b vs e => by
          obtain ⟨m', sd, n', xs', hd', hl', _⟩ := D2.ex
          rw [upd_ne (ne_of e h2 (by intro z; cases z))]
          exact s5 _ _ (k5 b _ (ne_of e hd' (by intro z; cases z)) (ne_of e hl' (by intro z; cases z)) e)
        have hq6 : ∀ b o, b ≠ q → H5 b = some o → upd (upd (upd H5 u (.lst ((got.take mn).map V.int))) t (.tup ((got.take mn).map V.int))) q (.dK (putK kvs (Sum.inr c) (.ref t))) b = some o := fun b o hb e => by rw [upd_ne hb]; exact s5 _ _ e
        have gq : g ≠ q := (ne_of_none h2 hg).symm
        have h6g := hq6 g _ gq h5g
        have h6a := hq6 a _ aq h5a
        have h6p := hq6 p _ pq h5p
        have D6 := (D5.same s5).put (o := .dK (putK kvs (Sum.inr c) (.ref t))) nq.1 nq.2
        have B5 : But d l H H5 := fun b o h1 h2 e => k5 b o h1 h2 (B2 b o h1 h2 e)
        have B6 := (B5.same s5).put (o := .dK (putK kvs (Sum.inr c) (.ref t))) hq
        have r6 : RoomsFor (upd (upd (upd H5 u (.lst ((got.take mn).map V.int))) t (.tup ((got.take mn).map V.int))) q (.dK (putK kvs (Sum.inr c) (.ref t)))) (putK kvs (Sum.inr c) (.ref t)) (ws.take (i + 1)) (setF rm c (got.take mn)) := hrf.putG ktup (by rw [upd_ne tq]; exact upd_same) hsub
        have h6q : upd (upd (upd H5 u (.lst ((got.take mn).map V.int))) t (.tup ((got.take mn).map V.int))) q (.dK (putK kvs (Sum.inr c) (.ref t))) q = some (.dK (putK kvs (Sum.inr c) (.ref t))) := upd_same
        have hk6 := length_putK kvs (Sum.inr c) (.ref t)
        have pl6 := plain_put (k := Sum.inr c) (v := V.ref t) hpl rfl
        generalize hH6 : upd (upd (upd H5 u (.lst ((got.take mn).map V.int))) t (.tup ((got.take mn).map V.int))) q (.dK (putK kvs (Sum.inr c) (.ref t))) = H6 at h6g h6a h6p D6 B6 r6 h6q ⊢
        generalize putK kvs (Sum.inr c) (.ref t) = kv6 at r6 h6q hk6 pl6 ⊢
        refine ⟨by decide, fun e0 he0 => ?_⟩
        have s7 : Same H6 (upd H6 e0 (.lst [])) := Same.upd0 he0
        refine ⟨.list (got.map PyData.int), .list [], .lst (.of (s7 _ _ h6g)) (Reps.ints got), .lst (.of upd_same) .nil, by unfold PyData.canLay0; exact lay_ints got, rfl, by unfold PyData.depth; rw [depth_ints]; decide, ?_⟩
        rw [eq_nil_ints]
        have D7 := D6.new (o := .lst []) he0
        have B7 := B6.new (o := .lst []) he0
        refine ⟨_, rfl, ite2 (fun hg0 => ?_) (fun hg0 => ?_)⟩
        · refine draw_rd D7 (by decide) (by decide) fun r8 H8 r80 r81 D8 B8 => ?_
          obtain ⟨z, hz1, hz2⟩ := atI_mem (xs := ns) r80 (by omega)
          have hzV : atI (ns.map V.int) r8 = some (V.int z) := by
            obtain ⟨n, rfl⟩ := Int.eq_ofNat_of_zero_le r80
            have hn : n < ns.length := by omega
            have e1 : ns[n]? = some z := by
              have := atI_nat (xs := ns) (j := n) (v := ns[n]) (by simp)
              rw [this] at hz1
              rw [← hz1]; simp
            exact atI_nat (by rw [List.getElem?_map, e1]; rfl)
          refine ⟨r8, rfl, _, B8 p _ np.1 np.2 (s7 _ _ h6p), _, hzV, by decide, fun t2 ht2 => ?_⟩
          have h8q := B8 q _ nq.1 nq.2 (s7 _ _ h6q)
          have q2 : t2 ≠ q := (ne_of_none h8q ht2).symm
          have s9 : Same H8 (upd H8 t2 (.tup [V.int z])) := Same.upd0 ht2
          refine ⟨kv6, s9 _ _ h8q, small1000 (by omega), ?_⟩
          have kt : ∀ b vs, H6 b = some (.tup vs) → upd (upd H8 t2 (.tup [V.int z])) q (.dK (putK kv6 (Sum.inr c) (.ref t2))) b = some (.tup vs) := fun b vs e => by
            rw [upd_ne (ne_of e h6q (by intro z; cases z))]
            obtain ⟨m', sd, n', xs', hd', hl', _⟩ := D6.ex
            exact s9 _ _ (B8 b _ (ne_of e hd' (by intro z; cases z)) (ne_of e hl' (by intro z; cases z)) (s7 _ _ e))
          refine ⟨_, upd_same, setF (setF rm c (got.take mn)) c [z], r6.putG (ns := [z]) kt (by rw [upd_ne q2]; exact upd_same) (fun x hx => .inr hx), fun x hx => ?_, plain_put pl6 rfl, Nat.le_trans (length_putK _ _ _) (by omega), ?_, ?_, (D8.new ht2).put nq.1 nq.2, ((B7.trans B8).new ht2).put hq⟩
          · by_cases e : x = c
            · subst e
              unfold setF
              rw [if_pos rfl]
              exact ⟨by simp, by simp; omega, by simp, fun v hv => by rw [List.mem_singleton.mp hv]; exact hz2⟩
            · unfold setF
              rw [if_neg e, if_neg e]
              exact hgd x ((hsub x hx).resolve_left e)
          · rw [upd_ne aq]; exact s9 _ _ (B8 a _ na.1 na.2 (s7 _ _ h6a))
          · rw [upd_ne pq]; exact s9 _ _ (B8 p _ np.1 np.2 (s7 _ _ h6p))
        · refine ⟨_, s7 _ _ h6q, setF rm c (got.take mn), r6.same (fun a vs e => s7 _ _ e), fun x hx => ?_, pl6, by omega, s7 _ _ h6a, s7 _ _ h6p, D7, B7⟩
          by_cases e : x = c
          · subst e
            unfold setF
            rw [if_pos rfl]
            have hne : got ≠ [] := by simpa using hg0
            refine ⟨?_, by simp; omega, ?_, fun v hv => hgs.subset (List.mem_of_mem_take hv)⟩
            · cases got with
              | nil => exact absurd rfl hne
              | cons y ys =>
                obtain ⟨k', rfl⟩ : ∃ k', mn = k' + 1 := ⟨mn - 1, by omega⟩
                simp
            · exact (hnp.sublist hgs).sublist (List.take_sublist _ _)
          · unfold setF
            rw [if_neg e]
            exact hgd x ((hsub x hx).resolve_left e)
    · rintro σ H2 ⟨kvs, rm, v5, v6, rfl, h2, hrf, hgd, hpl, hkl, h2a, h2p, D2, B2⟩
      rw [List.length_map, List.take_length] at hrf hgd
      rw [List.length_map] at hkl
      (try ctx_has vcx true_and)
      exact k q kvs rm H2 hq h2 hrf hgd hpl hkl D2 B2
theorem ok__law_some {P : Program} {w : World} {K : PySem.W.Frag} {mg : Str → Option Value} {base : Heap}  (T : Txt mg base) (L : FnL K mg "_law_some" s__law_some ["_law_deal_here", "_law_things", "_law_least"]) (F_law_draw : Fn P w K mg base "_law_draw" 1 ["_law_deal_here", "_law_many"] (spDraw)) : Fn P w K mg base "_law_some" 2 ["_law_deal_here", "_law_things", "_law_least"] (spSome) := by
  have nd := sc__law_some.nd
  refine L.ok sc__law_some (fun vs H Q E h => ?_) (fun f cdv A outer s H vs Q E hr h => ?_)
  · obtain ⟨d, l, a, m, xs, rfl, D, ha, m0, m1, hxl, k⟩ := h
    rfl
  · obtain ⟨d, l, a, m, xs, rfl, D, ha, m0, m1, hxl, k⟩ := h
    have hu := hu_of hr
    refine ⟨_, (pss_cons (ps_set (i := 3) nd rfl (by first | exact Or.inl rfl | exact Or.inr rfl) (pe_callTy call_listS rfl T.b_list (show bootBuiltins "list" = some (.type "list") by decide +kernel) (pa_cons (pvM 1) pa_nil)))
      (pss_cons (ps_set (i := 4) nd rfl (by first | exact Or.inl rfl | exact Or.inr rfl) (pe_lst pa_nil))
      (pss_cons (ps_for PassesOwn.never rfl (pi_range1 rfl T.b_range (pa_cons (pe_op op_add (pvM 2) (pe_callF F_law_draw (hr.mono (by first | decide | omega)) rfl (pa_cons (pvM 0) (pa_cons (pe_op op_add (pe_op op_sub (pe_callB call_lenL rfl T.b_len PySem.boot_len (pa_cons (pvM 3) pa_nil)) (pvM 2)) pe_int) pa_nil)))) pa_nil)) (pg_name (i := 5) nd rfl (by first | exact Or.inl rfl | exact Or.inr rfl)) (pss_one (ps_expr (pe_mL PySem.F.slot_list_append PySem.F.type_list_append ml_append (pvM 4) (pa_cons (pe_mL PySem.F.slot_list_pop PySem.F.type_list_pop ml_popAt (pvM 3) (pa_cons (pe_callF F_law_draw (hr.mono (by first | decide | omega)) rfl (pa_cons (pvM 0) (pa_cons (pe_callB call_lenL rfl T.b_len PySem.boot_len (pa_cons (pvM 3) pa_nil)) pa_nil))) pa_nil)) pa_nil)))))
      (pss_one (ps_ret (pe_callTy call_tupL rfl T.b_tuple (show bootBuiltins "tuple" = some (.type "tuple") by decide +kernel) (pa_cons (pvM 4) pa_nil))))))), ?_⟩
    (try ctx_has vcx true_and)
    refine ⟨xs, ha, fun u hu1 => ?_⟩
    have nu := D.ne hu1
    refine ⟨by decide, fun g hg => ?_⟩
    have ug : u ≠ g := by rintro rfl; rw [upd_same] at hg; cases hg
    have hg0 : H g = none := by rwa [upd_ne ug.symm] at hg
    have ng := D.ne hg0
    have D1 := (D.new (o := .lst xs) hu1).new (o := .lst []) hg
    have h1u : upd (upd H u (.lst xs)) g (.lst []) u = some (.lst xs) := by rw [upd_ne ug]; exact upd_same
    have h1g : upd (upd H u (.lst xs)) g (.lst []) g = some (.lst []) := upd_same
    have B1 : But d l H (upd (upd H u (.lst xs)) g (.lst [])) := ((But.refl H).new hu1).new hg
    generalize upd (upd H u (.lst xs)) g (.lst []) = H1 at D1 h1u h1g B1 ⊢
    (try ctx_has vcx true_and h1u)
    refine draw_rd D1 (by omega) (by omega) fun r H2 r0 r1 D2 B2 => ?_
    refine ⟨_, rfl, by omega, by omega, ?_⟩
    refine for_g wlk_range (fun i σ H' => ∃ (got rest : List V) (v5 : Option V), σ = [some (.ref d), some (.ref a), some (.int m), some (.ref u), some (.ref g), v5] ∧ got.length = i ∧ (got ++ rest).Perm xs ∧ H' g = some (.lst got) ∧ H' u = some (.lst rest) ∧ DealAt H' d l ∧ But d l H H')
      ⟨[], xs, _, rfl, rfl, .refl _, B2 g _ ng.1 ng.2 h1g, B2 u _ nu.1 nu.2 h1u, D2, B1.trans B2⟩ (fun _ _ _ _ => True.intro) ?_ ?_
    · rintro j y σ H5 hj hy ⟨got, rest, v5, rfl, hgl, hperm, h5g, h5u, D5, B5⟩
      rw [rngV_length] at hj
      have hlr : got.length + rest.length = xs.length := by rw [← List.length_append]; exact hperm.length_eq
      (try ctx_has vcx true_and h5g h5u)
      refine draw_rd D5 (by omega) (by omega) fun r6 H6 r60 r61 D6 B6 => ?_
      have h6u := B6 u _ nu.1 nu.2 h5u
      have h6g := B6 g _ ng.1 ng.2 h5g
      (try ctx_has vcx true_and h6u)
      refine ⟨r60, r61, by omega, fun z hz => ?_⟩
      have hlt : r6.toNat < rest.length := (List.getElem?_eq_some_iff.mp hz).1
      refine ⟨_, by rw [upd_ne ug.symm]; exact h6g, small1000 (by omega), got ++ [z], by simp; omega, rest.eraseIdx r6.toNat, ?_, upd_same, by rw [upd_ne ug]; exact upd_same, (D6.put nu.1 nu.2).put ng.1 ng.2, ((B5.trans B6).put hu1).put hg0⟩
      refine List.Perm.trans ?_ hperm
      rw [List.append_assoc]
      refine List.Perm.append_left got ?_
      rw [(List.getElem?_eq_some_iff.mp hz).2.symm]
      exact perm_erase hlt
    · rintro σ H5 ⟨got, rest, v5, rfl, hgl, hperm, h5g, h5u, D5, B5⟩
      rw [rngV_length] at hgl
      (try ctx_has vcx true_and h5g)
      intro t ht
      exact k t got rest _ (B5.free D5 ht) hperm (by omega) upd_same (D5.new ht) (B5.new ht)
noncomputable def prodS (rm : Str → List Int) (cs : List Str) : List (List Int) := cs.foldl (fun ps c => ps.flatMap fun p => (rm c).map fun v => p ++ [v]) [[]]
theorem prodS_nil (rm : Str → List Int) : prodS rm [] = [[]] := rfl
theorem prodS_snoc (rm : Str → List Int) (cs : List Str) (c : Str) : prodS rm (cs ++ [c]) = (prodS rm cs).flatMap fun p => (rm c).map fun v => p ++ [v] := by simp [prodS, List.foldl_append]
noncomputable def IsFP (H : Hp) (x : V) (cs : List Str) (p : List Int) : Prop := ∃ a kvs, x = .ref a ∧ H a = some (.dK kvs) ∧ p.length = cs.length ∧ (∀ (i : Nat) c v, cs[i]? = some c → p[i]? = some v → valV kvs (Sum.inr c) = some (.int v)) ∧ kvs.length ≤ cs.length ∧ ∀ x ∈ kvs, plainV x.2 = true
theorem IsFP.keep {H H' : Hp} {x : V} {cs : List Str} {p : List Int} (h : IsFP H x cs p) (k : ∀ a kvs, H a = some (.dK kvs) → H' a = some (.dK kvs)) : IsFP H' x cs p := by
  obtain ⟨a, kvs, e, h1, h2⟩ := h
  exact ⟨a, kvs, e, k _ _ h1, h2⟩
noncomputable def FPs (H : Hp) (xs : List V) (cs : List Str) (ps : List (List Int)) : Prop := xs.length = ps.length ∧ ∀ (i : Nat) x p, xs[i]? = some x → ps[i]? = some p → IsFP H x cs p
theorem FPs.keep {H H' : Hp} {xs : List V} {cs : List Str} {ps : List (List Int)} (h : FPs H xs cs ps) (k : ∀ a kvs, H a = some (.dK kvs) → H' a = some (.dK kvs)) : FPs H' xs cs ps := ⟨h.1, fun i x p e1 e2 => (h.2 i x p e1 e2).keep k⟩
theorem FPs.nil {H : Hp} {cs : List Str} : FPs H [] cs [] := ⟨rfl, fun i x p e _ => by simp at e⟩
theorem FPs.snoc {H : Hp} {xs : List V} {cs : List Str} {ps : List (List Int)} {x : V} {p : List Int} (h : FPs H xs cs ps) (hx : IsFP H x cs p) : FPs H (xs ++ [x]) cs (ps ++ [p]) := by
  refine ⟨by simp [h.1], fun i y q e1 e2 => ?_⟩
  by_cases hi : i < xs.length
  · rw [List.getElem?_append_left hi] at e1
    rw [List.getElem?_append_left (by rw [← h.1]; exact hi)] at e2
    exact h.2 i y q e1 e2
  · have hl := (List.getElem?_eq_some_iff.mp e1).1
    have hi' : i = xs.length := by simp at hl; omega
    subst hi'
    rw [List.getElem?_append_right (Nat.le_refl _), Nat.sub_self] at e1
    rw [h.1, List.getElem?_append_right (Nat.le_refl _), Nat.sub_self] at e2
    cases e1
    cases e2
    exact hx
theorem IsFP.put {H' : Hp} {cs : List Str} {c : Str} {p : List Int} {v : Int} {kvs : List (Key × V)} {q : Addr} (hp : p.length = cs.length) (h : ∀ (i : Nat) x u, cs[i]? = some x → p[i]? = some u → valV kvs (Sum.inr x) = some (.int u)) (hk : kvs.length ≤ cs.length ∧ ∀ x ∈ kvs, plainV x.2 = true) (hc : c ∉ cs) (hq : H' q = some (.dK (putK kvs (Sum.inr c) (.int v)))) : IsFP H' (.ref q) (cs ++ [c]) (p ++ [v]) := by
  refine ⟨q, _, rfl, hq, by simp [hp], fun i x u e1 e2 => ?_, Nat.le_trans (length_putK _ _ _) (by have := hk.1; simp; omega), plain_put hk.2 rfl⟩
  rw [valV_put]
  by_cases hi : i < cs.length
  · rw [List.getElem?_append_left hi] at e1
    rw [List.getElem?_append_left (by rw [hp]; exact hi)] at e2
    have hx : x ∈ cs := List.mem_of_getElem? e1
    rw [if_neg (fun z => hc (by rw [← Sum.inr.inj z]; exact hx))]
    exact h i x u e1 e2
  · have hl := (List.getElem?_eq_some_iff.mp e1).1
    have hi' : i = cs.length := by simp at hl; omega
    subst hi'
    rw [List.getElem?_append_right (Nat.le_refl _), Nat.sub_self] at e1
    rw [← hp, List.getElem?_append_right (Nat.le_refl _), Nat.sub_self] at e2
    cases e1
    cases e2
    rw [if_pos rfl]
noncomputable def okP (rm : Str → List Int) (cs : List Str) (p : List Int) : Prop := p.length = cs.length ∧ ∀ (i : Nat) c v, cs[i]? = some c → p[i]? = some v → v ∈ rm c
theorem snoc_ind {α : Type} {P : List α → Prop} (h0 : P []) (hs : ∀ l a, P l → P (l ++ [a])) (l : List α) : P l := by
  rw [← List.reverse_reverse l]
  induction l.reverse with
  | nil => exact h0
  | cons a r ih => rw [List.reverse_cons]; exact hs _ _ ih
theorem mem_prodS {rm : Str → List Int} (cs : List Str) : ∀ {p : List Int}, p ∈ prodS rm cs ↔ okP rm cs p := by
  refine snoc_ind (P := fun cs => ∀ {p : List Int}, p ∈ prodS rm cs ↔ okP rm cs p) ?_ ?_ cs
  · intro p
    rw [prodS_nil, List.mem_singleton]
    constructor
    · rintro rfl; exact ⟨rfl, fun i c v e => by simp at e⟩
    · intro h; exact List.length_eq_zero_iff.mp h.1
  · intro cs c ih p
    rw [prodS_snoc, List.mem_flatMap]
    constructor
    · rintro ⟨q, hq, hp⟩
      obtain ⟨v, hv, rfl⟩ := List.mem_map.mp hp
      obtain ⟨h1, h2⟩ := ih.mp hq
      refine ⟨by simp [h1], fun i x u e1 e2 => ?_⟩
      by_cases hi : i < cs.length
      · rw [List.getElem?_append_left hi] at e1
        rw [List.getElem?_append_left (by rw [h1]; exact hi)] at e2
        exact h2 i x u e1 e2
      · have hl := (List.getElem?_eq_some_iff.mp e1).1
        have hi' : i = cs.length := by simp at hl; omega
        subst hi'
        rw [List.getElem?_append_right (Nat.le_refl _), Nat.sub_self] at e1
        rw [← h1, List.getElem?_append_right (Nat.le_refl _), Nat.sub_self] at e2
        cases e1
        cases e2
        exact hv
    · rintro ⟨h1, h2⟩
      rcases List.eq_nil_or_concat p with rfl | ⟨q, v, rfl⟩
      · simp at h1
      · have hql : q.length = cs.length := by simpa using h1
        refine ⟨q, ih.mpr ⟨hql, fun i x u e1 e2 => h2 i x u ?_ ?_⟩, List.mem_map.mpr ⟨v, ?_, by simp⟩⟩
        · rw [List.getElem?_append_left (List.getElem?_eq_some_iff.mp e1).1]; exact e1
        · rw [List.concat_eq_append, List.getElem?_append_left (List.getElem?_eq_some_iff.mp e2).1]; exact e2
        · exact h2 cs.length c v (by simp) (by rw [List.concat_eq_append, ← hql]; simp)
theorem prodS_len {rm : Str → List Int} (m : Nat) (cs : List Str) : (∀ c ∈ cs, (rm c).length ≤ m) → (prodS rm cs).length ≤ m ^ cs.length := by
  refine snoc_ind (P := fun cs => (∀ c ∈ cs, (rm c).length ≤ m) → (prodS rm cs).length ≤ m ^ cs.length) ?_ ?_ cs
  · intro _; rw [prodS_nil]; simp
  · intro cs c ih h
    rw [prodS_snoc, List.length_append, List.length_singleton, Nat.pow_succ]
    have h1 := ih fun x hx => h x (List.mem_append_left _ hx)
    have h2 := h c (by simp)
    have h3 : ∀ ps : List (List Int), (ps.flatMap fun p => (rm c).map fun v => p ++ [v]).length ≤ ps.length * m := fun ps => by
      induction ps with
      | nil => simp
      | cons p ps ih2 =>
        rw [List.flatMap_cons, List.length_append, List.length_map, List.length_cons, Nat.succ_mul]
        omega
    exact Nat.le_trans (h3 _) (Nat.mul_le_mul_right _ h1)
theorem okP_fun {rm : Str → List Int} {cs : List Str} {p : List Int} (hn : cs.Nodup) (h : okP rm cs p) : ∃ g, okF rm cs g ∧ cs.map g = p := by
  refine ⟨fun c => p.getD (cs.idxOf c) 0, fun c hc => ?_, ?_⟩
  · have hl := List.idxOf_lt_length_iff.mpr hc
    have hp : cs.idxOf c < p.length := by rw [h.1]; exact hl
    have e1 : cs[cs.idxOf c]? = some c := by rw [List.getElem?_eq_getElem hl]; simp
    have e2 : p[cs.idxOf c]? = some (p.getD (cs.idxOf c) 0) := by simp [List.getElem?_eq_getElem hp]
    exact h.2 _ c _ e1 e2
  · apply List.ext_getElem?
    intro i
    rw [List.getElem?_map]
    by_cases hi : i < cs.length
    · rw [List.getElem?_eq_getElem hi, Option.map_some]
      have hid : cs.idxOf cs[i] = i := by
        have hl := List.idxOf_lt_length_iff.mpr (List.getElem_mem hi)
        have e1 : cs[cs.idxOf cs[i]]? = some cs[i] := by rw [List.getElem?_eq_getElem hl]; simp
        exact nodup_at hn e1 (by simp)
      rw [hid]
      have hp : i < p.length := by rw [h.1]; exact hi
      simp [List.getElem?_eq_getElem hp]
    · rw [List.getElem?_eq_none (by omega), List.getElem?_eq_none (by rw [h.1]; omega)]
      rfl
noncomputable def spFillsP : Sp := fun vs H Q _ => ∃ (a r : Addr) (cs : List Str) (kvs : List (Key × V)) (rm : Str → List Int), vs = [.ref a, .ref r] ∧ sqOf H a (cs.map V.str) ∧ H r = some (.dK kvs) ∧ RoomsFor H kvs cs rm ∧ cs.Nodup ∧ cs.length ≤ 45 ∧ (∀ i, (prodS rm (cs.take i)).length ≤ 5000) ∧ (∀ c ∈ cs, (rm c).length ≤ 10) ∧
  ∀ (p : Addr) (xs : List V) (H' : Hp), H p = none → H' p = some (.lst xs) → FPs H' xs cs (prodS rm cs) → Same H H' → Q (.ref p) H'
theorem prodS_small {rm : Str → List Int} {cs : List Str} (h5 : cs.length ≤ 5) (h4 : ∀ c ∈ cs, (rm c).length ≤ 4) : ∀ i, (prodS rm (cs.take i)).length ≤ 5000 := fun i => by
  have h1 := prodS_len 4 (cs.take i) fun c hc => h4 c (List.mem_of_mem_take hc)
  have h2 : (4 : Nat) ^ (cs.take i).length ≤ 4 ^ 5 := Nat.pow_le_pow_right (by decide) (by rw [List.length_take]; omega)
  exact Nat.le_trans h1 (Nat.le_trans h2 (by decide))
theorem ok__law_fillings {P : Program} {w : World} {K : PySem.W.Frag} {mg : Str → Option Value} {base : Heap}  (T : Txt mg base) (L : FnL K mg "_law_fillings" s__law_fillings ["_law_names_here", "_law_rooms_here"])  : Fn P w K mg base "_law_fillings" 1 ["_law_names_here", "_law_rooms_here"] (spFillsP) := by
  have nd := sc__law_fillings.nd
  refine L.ok sc__law_fillings (fun vs H Q E h => ?_) (fun f cdv A outer s H vs Q E hr h => ?_)
  · obtain ⟨a, r, cs, kvs, rm, rfl, ha, hrd, hrf, hnd, hcl, hps, hrl, k⟩ := h
    rfl
  · obtain ⟨a, r, cs, kvs, rm, rfl, ha, hrd, hrf, hnd, hcl, hps, hrl, k⟩ := h
    have hu := hu_of hr
    refine ⟨_, (pss_cons (ps_set (i := 2) nd rfl (by first | exact Or.inl rfl | exact Or.inr rfl) (pe_lst (pa_cons pe_dnewK pa_nil)))
      (pss_cons (ps_for PassesOwn.never rfl (pi_S (K := K) rfl (pvM 0)) (pg_name (i := 3) nd rfl (by first | exact Or.inl rfl | exact Or.inr rfl)) (pss_cons (ps_set (i := 4) nd rfl (by first | exact Or.inl rfl | exact Or.inr rfl) (pe_lst pa_nil))
      (pss_cons (ps_for PassesOwn.never rfl (pi_LK (K := K) rfl (pvM 2)) (pg_name (i := 5) nd rfl (by first | exact Or.inl rfl | exact Or.inr rfl)) (pss_one (ps_for PassesOwn.never rfl (pi_TK (K := K) rfl (pe_dg hu (pvM 1) (pvM 3) (fun _ _ => rfl))) (pg_name (i := 6) nd rfl (by first | exact Or.inl rfl | exact Or.inr rfl)) (pss_cons (ps_set (i := 7) nd rfl (by first | exact Or.inl rfl | exact Or.inr rfl) (pe_callTy call_dictD rfl T.b_dict (show bootBuiltins "dict" = some (.type "dict") by decide +kernel) (pa_cons (pvM 5) pa_nil)))
      (pss_cons (ps_dp hu (pvM 7) (pvM 3) (pvM 6) rfl)
      (pss_one (ps_expr (pe_mL PySem.F.slot_list_append PySem.F.type_list_append ml_append (pvM 4) (pa_cons (pvM 7) pa_nil)))))))))
      (pss_one (ps_set (i := 2) nd rfl (by first | exact Or.inl rfl | exact Or.inr rfl) (pvM 4))))))
      (pss_one (ps_ret (pvM 2))))), ?_⟩
    (try ctx_has vcx true_and)
    intro p0 hp0
    refine ⟨by decide, fun p1 hp1 => ?_⟩
    have s1 : Same H (upd (upd H p0 (HO.dK [])) p1 (HO.lst [V.ref p0])) := (Same.upd0 hp0).upd_new hp1
    have n01 : p0 ≠ p1 := by rintro rfl; rw [upd_same] at hp1; cases hp1
    rcases ha with ha | ha
    · refine ⟨_, .inl ⟨s1 _ _ ha, ?_⟩⟩
      refine for_g wlk_list (fun i σ H' => ∃ (p : Addr) (xs : List V) (v3 v4 v5 v6 v7 : Option V), σ = [some (.ref a), some (.ref r), some (.ref p), v3, v4, v5, v6, v7] ∧ H p = none ∧ H' p = some (.lst xs) ∧ FPs H' xs (cs.take i) (prodS rm (cs.take i)) ∧ Same H H')
        ⟨p1, [.ref p0], _, _, _, _, _, rfl, (Same.upd0 hp0).free hp1, upd_same, FPs.snoc (ps := []) (xs := []) FPs.nil ⟨p0, [], rfl, by rw [upd_ne n01]; exact upd_same, rfl, fun i c v e => by simp at e, by simp, by simp⟩, s1⟩ (fun i σ H' zq40 => by obtain ⟨_, _, _, _, _, _, _, _, _, _, _, sm⟩ := zq40; exact (.of (sm _ _ ha))) ?_ ?_
      · rintro i x σ H2 hi hx ⟨p, xs, v3, v4, v5, v6, v7, rfl, fp, h2, fa, sm2⟩
        rw [List.length_map] at hi
        obtain ⟨c, hcx, rfl⟩ : ∃ c, cs[i]? = some c ∧ V.str c = x := by
          rw [List.getElem?_map] at hx
          cases e : cs[i]? with
          | none => rw [e] at hx; cases hx
          | some nm => rw [e] at hx; exact ⟨nm, rfl, Option.some.inj hx⟩
        have hcm : c ∈ cs := List.mem_of_getElem? hcx
        have etk : cs.take (i + 1) = cs.take i ++ [c] := by rw [List.take_add_one, hcx]; rfl
        have hcn : c ∉ cs.take i := fun hm => by
          obtain ⟨j, hj, e⟩ := List.getElem_of_mem hm
          have hj' : j < i := by simp at hj; omega
          have e2 : cs[j]? = some c := by rw [← e, List.getElem_take]; simp
          have := nodup_at hnd e2 hcx
          omega
        obtain ⟨ra, hra, hrt⟩ := hrf c hcm
        have hr10 := hrl c hcm
        have hb1 := hps i
        (try ctx_has vcx true_and)
        refine ⟨by decide, fun m hm => ?_⟩
        have pm : p ≠ m := ne_of_none h2 hm
        refine ⟨_, by rw [upd_ne pm]; exact h2, ?_⟩
        refine for_g wlk_list (fun j σ H3 => ∃ (ys : List V) (v5 v6 v7 : Option V), σ = [some (.ref a), some (.ref r), some (.ref p), some (.str c), some (.ref m), v5, v6, v7] ∧ H3 m = some (.lst ys) ∧ FPs H3 ys (cs.take (i + 1)) (((prodS rm (cs.take i)).take j).flatMap fun p => (rm c).map fun v => p ++ [v]) ∧ ys.length ≤ 10 * j ∧ Same H2 H3)
          ⟨[], _, _, _, rfl, upd_same, by simp only [List.take_zero, List.flatMap_nil]; exact FPs.nil, by simp, Same.upd0 hm⟩ (fun j σ H' zq41 => by obtain ⟨_, _, _, _, _, _, _, _, sm⟩ := zq41; exact (.of (sm _ _ h2))) ?_ ?_
        · rintro j x σ H3 hj hxj ⟨ys, v5, v6, v7, rfl, h3, hfp, hyl, sm3⟩
          have hjl : j < (prodS rm (cs.take i)).length := by rw [← fa.1]; exact hj
          obtain ⟨pj, hpj⟩ : ∃ pj, (prodS rm (cs.take i))[j]? = some pj := ⟨(prodS rm (cs.take i))[j], by simp⟩
          have epj : (prodS rm (cs.take i)).take (j + 1) = (prodS rm (cs.take i)).take j ++ [pj] := by rw [List.take_add_one, hpj]; rfl
          obtain ⟨ax, kx, rfl, hax, hpl0, hkx, hkl⟩ := fa.2 j x pj hxj hpj
          have hr3 := sm3 _ _ (sm2 _ _ hrd)
          have hrt3 := sm3 _ _ (sm2 _ _ hrt)
          (try ctx_has vcx true_and hr3 hra hrt3)
          refine for_g wlk_tup (fun e σ H4 => ∃ (ys : List V) (v6 v7 : Option V), σ = [some (.ref a), some (.ref r), some (.ref p), some (.str c), some (.ref m), some (.ref ax), v6, v7] ∧ H4 m = some (.lst ys) ∧ FPs H4 ys (cs.take (i + 1)) ((((prodS rm (cs.take i)).take j).flatMap fun p => (rm c).map fun v => p ++ [v]) ++ ((rm c).take e).map fun v => pj ++ [v]) ∧ ys.length ≤ 10 * j + e ∧ Same H2 H4)
            ⟨ys, _, _, rfl, h3, by simpa using hfp, hyl, sm3⟩ (fun e σ H' zq42 => by obtain ⟨_, _, _, _, _, _, _, sm⟩ := zq42; exact (.of (sm _ _ (sm2 _ _ hrt)))) ?_ ?_
          · rintro e y σ H4 he hye ⟨ys, v6, v7, rfl, h4m, hfp, hyl, sm4⟩
            rw [List.length_map] at he
            obtain ⟨v, hve, rfl⟩ : ∃ v, (rm c)[e]? = some v ∧ V.int v = y := by
              rw [List.getElem?_map] at hye
              cases e1 : (rm c)[e]? with
              | none => rw [e1] at hye; cases hye
              | some nm => rw [e1] at hye; exact ⟨nm, rfl, Option.some.inj hye⟩
            have hax4 := sm4 _ _ hax
            have hkl2 : kx.length ≤ 45 := by have := hkl.1; simp at this; omega
            (try ctx_has vcx true_and hax4)
            intro q hq
            have mq : m ≠ q := ne_of_none h4m hq
            refine ⟨_, upd_same, small1000 (by omega), ?_⟩
            have hM : upd (upd H4 q (HO.dK kx)) q (HO.dK (putK kx (Sum.inr c) (V.int v))) m = some (HO.lst ys) := by rw [upd_ne mq, upd_ne mq]; exact h4m
            have kk : ∀ b kvs', H4 b = some (.dK kvs') → upd (upd (upd H4 q (HO.dK kx)) q (HO.dK (putK kx (Sum.inr c) (V.int v)))) m (HO.lst (ys ++ [V.ref q])) b = some (.dK kvs') := fun b kvs' eb => by
              rw [upd_ne (ne_of eb h4m (by intro z; cases z)), upd_ne (ne_of_none eb hq), upd_ne (ne_of_none eb hq)]; exact eb
            have hQ : upd (upd (upd H4 q (HO.dK kx)) q (HO.dK (putK kx (Sum.inr c) (V.int v)))) m (HO.lst (ys ++ [V.ref q])) q = some (.dK (putK kx (Sum.inr c) (V.int v))) := by rw [upd_ne mq.symm]; exact upd_same
            refine ⟨⟨_, hM⟩, ys, hM, Nat.lt_of_le_of_lt (show ys.length ≤ 60000 by omega) (by decide), ys ++ [V.ref q], upd_same, ?_, by simp; omega, ?_⟩
            · have ee : (rm c).take (e + 1) = (rm c).take e ++ [v] := by rw [List.take_add_one, hve]; rfl
              rw [ee, List.map_append, ← List.append_assoc]
              refine FPs.snoc (hfp.keep kk) ?_
              rw [etk]
              exact IsFP.put hpl0 hkx hkl hcn hQ
            · intro b o eb
              rw [upd_ne (ne_of_none eb hm), upd_ne (ne_of_none (sm4 _ _ eb) hq), upd_ne (ne_of_none (sm4 _ _ eb) hq)]
              exact sm4 _ _ eb
          · rintro σ H4 ⟨ys, v6, v7, rfl, h4m, hfp, hyl, sm4⟩
            rw [List.length_map, List.take_length] at hfp
            rw [List.length_map] at hyl
            refine ⟨ys, _, _, _, rfl, h4m, ?_, by omega, sm4⟩
            rw [epj, List.flatMap_append, List.flatMap_cons, List.flatMap_nil, List.append_nil]
            exact hfp
        · rintro σ H3 ⟨ys, v5, v6, v7, rfl, h3, hfp, hyl, sm3⟩
          (try ctx_has vcx true_and)
          rw [fa.1, List.take_length, ← prodS_snoc, ← etk] at hfp
          exact ⟨sm2.free hm, _, h3, hfp, sm2.trans sm3⟩
      · rintro σ H2 ⟨p, xs, v3, v4, v5, v6, v7, rfl, fp, h2, fa, sm2⟩
        rw [List.length_map, List.take_length] at fa
        (try ctx_has vcx true_and)
        exact k p xs H2 fp h2 fa sm2
    · refine ⟨_, .inr ⟨s1 _ _ ha, ?_⟩⟩
      refine for_g wlk_tup (fun i σ H' => ∃ (p : Addr) (xs : List V) (v3 v4 v5 v6 v7 : Option V), σ = [some (.ref a), some (.ref r), some (.ref p), v3, v4, v5, v6, v7] ∧ H p = none ∧ H' p = some (.lst xs) ∧ FPs H' xs (cs.take i) (prodS rm (cs.take i)) ∧ Same H H')
        ⟨p1, [.ref p0], _, _, _, _, _, rfl, (Same.upd0 hp0).free hp1, upd_same, FPs.snoc (ps := []) (xs := []) FPs.nil ⟨p0, [], rfl, by rw [upd_ne n01]; exact upd_same, rfl, fun i c v e => by simp at e, by simp, by simp⟩, s1⟩ (fun i σ H' zq43 => by obtain ⟨_, _, _, _, _, _, _, _, _, _, _, sm⟩ := zq43; exact (.of (sm _ _ ha))) ?_ ?_
      · rintro i x σ H2 hi hx ⟨p, xs, v3, v4, v5, v6, v7, rfl, fp, h2, fa, sm2⟩
        rw [List.length_map] at hi
        obtain ⟨c, hcx, rfl⟩ : ∃ c, cs[i]? = some c ∧ V.str c = x := by
          rw [List.getElem?_map] at hx
          cases e : cs[i]? with
          | none => rw [e] at hx; cases hx
          | some nm => rw [e] at hx; exact ⟨nm, rfl, Option.some.inj hx⟩
        have hcm : c ∈ cs := List.mem_of_getElem? hcx
        have etk : cs.take (i + 1) = cs.take i ++ [c] := by rw [List.take_add_one, hcx]; rfl
        have hcn : c ∉ cs.take i := fun hm => by
          obtain ⟨j, hj, e⟩ := List.getElem_of_mem hm
          have hj' : j < i := by simp at hj; omega
          have e2 : cs[j]? = some c := by rw [← e, List.getElem_take]; simp
          have := nodup_at hnd e2 hcx
          omega
        obtain ⟨ra, hra, hrt⟩ := hrf c hcm
        have hr10 := hrl c hcm
        have hb1 := hps i
        (try ctx_has vcx true_and)
        refine ⟨by decide, fun m hm => ?_⟩
        have pm : p ≠ m := ne_of_none h2 hm
        refine ⟨_, by rw [upd_ne pm]; exact h2, ?_⟩
        refine for_g wlk_list (fun j σ H3 => ∃ (ys : List V) (v5 v6 v7 : Option V), σ = [some (.ref a), some (.ref r), some (.ref p), some (.str c), some (.ref m), v5, v6, v7] ∧ H3 m = some (.lst ys) ∧ FPs H3 ys (cs.take (i + 1)) (((prodS rm (cs.take i)).take j).flatMap fun p => (rm c).map fun v => p ++ [v]) ∧ ys.length ≤ 10 * j ∧ Same H2 H3)
          ⟨[], _, _, _, rfl, upd_same, by simp only [List.take_zero, List.flatMap_nil]; exact FPs.nil, by simp, Same.upd0 hm⟩ (fun j σ H' zq44 => by obtain ⟨_, _, _, _, _, _, _, _, sm⟩ := zq44; exact (.of (sm _ _ h2))) ?_ ?_
        · rintro j x σ H3 hj hxj ⟨ys, v5, v6, v7, rfl, h3, hfp, hyl, sm3⟩
          have hjl : j < (prodS rm (cs.take i)).length := by rw [← fa.1]; exact hj
          obtain ⟨pj, hpj⟩ : ∃ pj, (prodS rm (cs.take i))[j]? = some pj := ⟨(prodS rm (cs.take i))[j], by simp⟩
          have epj : (prodS rm (cs.take i)).take (j + 1) = (prodS rm (cs.take i)).take j ++ [pj] := by rw [List.take_add_one, hpj]; rfl
          obtain ⟨ax, kx, rfl, hax, hpl0, hkx, hkl⟩ := fa.2 j x pj hxj hpj
          have hr3 := sm3 _ _ (sm2 _ _ hrd)
          have hrt3 := sm3 _ _ (sm2 _ _ hrt)
          (try ctx_has vcx true_and hr3 hra hrt3)
          refine for_g wlk_tup (fun e σ H4 => ∃ (ys : List V) (v6 v7 : Option V), σ = [some (.ref a), some (.ref r), some (.ref p), some (.str c), some (.ref m), some (.ref ax), v6, v7] ∧ H4 m = some (.lst ys) ∧ FPs H4 ys (cs.take (i + 1)) ((((prodS rm (cs.take i)).take j).flatMap fun p => (rm c).map fun v => p ++ [v]) ++ ((rm c).take e).map fun v => pj ++ [v]) ∧ ys.length ≤ 10 * j + e ∧ Same H2 H4)
            ⟨ys, _, _, rfl, h3, by simpa using hfp, hyl, sm3⟩ (fun e σ H' zq45 => by obtain ⟨_, _, _, _, _, _, _, sm⟩ := zq45; exact (.of (sm _ _ (sm2 _ _ hrt)))) ?_ ?_
          · rintro e y σ H4 he hye ⟨ys, v6, v7, rfl, h4m, hfp, hyl, sm4⟩
            rw [List.length_map] at he
            obtain ⟨v, hve, rfl⟩ : ∃ v, (rm c)[e]? = some v ∧ V.int v = y := by
              rw [List.getElem?_map] at hye
              cases e1 : (rm c)[e]? with
              | none => rw [e1] at hye; cases hye
              | some nm => rw [e1] at hye; exact ⟨nm, rfl, Option.some.inj hye⟩
            have hax4 := sm4 _ _ hax
            have hkl2 : kx.length ≤ 45 := by have := hkl.1; simp at this; omega
            (try ctx_has vcx true_and hax4)
            intro q hq
            have mq : m ≠ q := ne_of_none h4m hq
            refine ⟨_, upd_same, small1000 (by omega), ?_⟩
            have hM : upd (upd H4 q (HO.dK kx)) q (HO.dK (putK kx (Sum.inr c) (V.int v))) m = some (HO.lst ys) := by rw [upd_ne mq, upd_ne mq]; exact h4m
            have kk : ∀ b kvs', H4 b = some (.dK kvs') → upd (upd (upd H4 q (HO.dK kx)) q (HO.dK (putK kx (Sum.inr c) (V.int v)))) m (HO.lst (ys ++ [V.ref q])) b = some (.dK kvs') := fun b kvs' eb => by
              rw [upd_ne (ne_of eb h4m (by intro z; cases z)), upd_ne (ne_of_none eb hq), upd_ne (ne_of_none eb hq)]; exact eb
            have hQ : upd (upd (upd H4 q (HO.dK kx)) q (HO.dK (putK kx (Sum.inr c) (V.int v)))) m (HO.lst (ys ++ [V.ref q])) q = some (.dK (putK kx (Sum.inr c) (V.int v))) := by rw [upd_ne mq.symm]; exact upd_same
            refine ⟨⟨_, hM⟩, ys, hM, Nat.lt_of_le_of_lt (show ys.length ≤ 60000 by omega) (by decide), ys ++ [V.ref q], upd_same, ?_, by simp; omega, ?_⟩
            · have ee : (rm c).take (e + 1) = (rm c).take e ++ [v] := by rw [List.take_add_one, hve]; rfl
              rw [ee, List.map_append, ← List.append_assoc]
              refine FPs.snoc (hfp.keep kk) ?_
              rw [etk]
              exact IsFP.put hpl0 hkx hkl hcn hQ
            · intro b o eb
              rw [upd_ne (ne_of_none eb hm), upd_ne (ne_of_none (sm4 _ _ eb) hq), upd_ne (ne_of_none (sm4 _ _ eb) hq)]
              exact sm4 _ _ eb
          · rintro σ H4 ⟨ys, v6, v7, rfl, h4m, hfp, hyl, sm4⟩
            rw [List.length_map, List.take_length] at hfp
            rw [List.length_map] at hyl
            refine ⟨ys, _, _, _, rfl, h4m, ?_, by omega, sm4⟩
            rw [epj, List.flatMap_append, List.flatMap_cons, List.flatMap_nil, List.append_nil]
            exact hfp
        · rintro σ H3 ⟨ys, v5, v6, v7, rfl, h3, hfp, hyl, sm3⟩
          (try ctx_has vcx true_and)
          rw [fa.1, List.take_length, ← prodS_snoc, ← etk] at hfp
          exact ⟨sm2.free hm, _, h3, hfp, sm2.trans sm3⟩
      · rintro σ H2 ⟨p, xs, v3, v4, v5, v6, v7, rfl, fp, h2, fa, sm2⟩
        rw [List.length_map, List.take_length] at fa
        (try ctx_has vcx true_and)
        exact k p xs H2 fp h2 fa sm2
noncomputable def chB (gap : Int) (vs : List Int) : Bool := (List.zipWith (fun a b => decide (a + gap ≤ b)) vs (vs.drop 1)).all id
theorem chB_range (gap : Int) (vs : List Int) : ((List.range (vs.length - 1)).map fun k => decide (vs.getD k 0 + gap ≤ vs.getD (k + 1) 0)).all id = chB gap vs := by
  unfold chB
  congr 1
  apply List.ext_getElem
  · simp
  · intro i h1 h2
    simp at h1 h2 ⊢
    have h3 : i < vs.length := by omega
    have h4 : i + 1 < vs.length := by omega
    rw [List.getElem?_eq_getElem h3, List.getElem?_eq_getElem h4]
    simp [Nat.add_comm]
noncomputable def bV : Option Int → V | none => .non | some i => .int i
noncomputable def btwB (n : Int) (lo hi : Option Int) : Bool := (match lo with | none => true | some a => decide (a ≤ n)) && (match hi with | none => true | some b => decide (n ≤ b))
structure FillAt (H : Hp) (f : Addr) (cs : List Str) (g : Str → Int) : Prop where
  ex : ∃ kvs, H f = some (.dK kvs) ∧ (∀ c ∈ cs, valV kvs (Sum.inr c) = some (.int (g c))) ∧ (∀ x ∈ kvs, plainV x.2 = true) ∧ kvs.length ≤ 40
  bd : ∀ c ∈ cs, -2000000 ≤ g c ∧ g c ≤ 2000000
theorem FillAt.same {H H' : Hp} {f : Addr} {cs : List Str} {g : Str → Int} (h : FillAt H f cs g) (s : Same H H') : FillAt H' f cs g := by
  obtain ⟨kvs, h1, r⟩ := h.ex
  exact ⟨⟨kvs, s _ _ h1, r⟩, h.bd⟩
theorem FillAt.sub {H : Hp} {f : Addr} {cs ds : List Str} {g : Str → Int} (h : FillAt H f cs g) (s : ∀ c ∈ ds, c ∈ cs) : FillAt H f ds g := by
  obtain ⟨kvs, h1, h2, r⟩ := h.ex
  exact ⟨⟨kvs, h1, fun c hc => h2 c (s c hc), r⟩, fun c hc => h.bd c (s c hc)⟩
noncomputable def TermsAt (H : Hp) (t : Addr) (ts : List (Int × Str)) : Prop := ∃ as : List (Addr × Int × Str), H t = some (.tup (as.map fun x => V.ref x.1)) ∧ as.map (·.2) = ts ∧ ∀ x ∈ as, H x.1 = some (.tup [.int x.2.1, .str x.2.2])
theorem TermsAt.keep {H H' : Hp} {t : Addr} {ts : List (Int × Str)} (h : TermsAt H t ts) (k : ∀ a xs, H a = some (.tup xs) → H' a = some (.tup xs)) : TermsAt H' t ts := by
  obtain ⟨as, h1, h2, h3⟩ := h
  exact ⟨as, k _ _ h1, h2, fun x hx => k _ _ (h3 x hx)⟩
noncomputable def StepsAt (H : Hp) (vs : List V) (ps : List (Int × Int × Int)) : Prop := ∃ as : List (Addr × Int × Int × Int), vs = as.map (fun x => V.ref x.1) ∧ as.map (·.2) = ps ∧ ∀ x ∈ as, H x.1 = some (.tup [.int x.2.1, .int x.2.2.1, .int x.2.2.2])
theorem StepsAt.keep {H H' : Hp} {vs : List V} {ps : List (Int × Int × Int)} (h : StepsAt H vs ps) (k : ∀ a xs, H a = some (.tup xs) → H' a = some (.tup xs)) : StepsAt H' vs ps := by
  obtain ⟨as, h1, h2, h3⟩ := h
  exact ⟨as, h1, h2, fun x hx => k _ _ (h3 x hx)⟩
noncomputable def runW (ps : List (Int × Int × Int)) (st : Option Int) (vs : List Int) : Option Int := vs.foldl (fun st v => getO ps st v) st
noncomputable def endB (es : List Int) : Option Int → Bool | none => false | some s => decide (s ∈ es)
inductive Wi | un (cs : List Str) | mn (av : List Int) (cs : List Str) (lo hi : Int) | sm (ts : List (Int × Str)) (lo hi : Option Int) | tb (cs : List Str) (rows : List (List Int)) | wy (cs : List Str) (ps : List (Int × Int × Int)) (es : List Int) | bh (cs : List Str) (gap : Int)
inductive Wx | pl (W : Wi) | sa (c : Str) (vs : List Int) (W : Wi)
noncomputable def WS (H : Hp) (w : Addr) : Wi → Prop
  | .un cs => ∃ c, H w = some (.tup [.str "unlike", .ref c]) ∧ H c = some (.tup (cs.map V.str))
  | .mn av cs lo hi => ∃ a c, H w = some (.tup [.str "many", .ref a, .ref c, .int lo, .int hi]) ∧ H a = some (.tup (av.map V.int)) ∧ H c = some (.tup (cs.map V.str))
  | .sm ts lo hi => ∃ t, H w = some (.tup [.str "sum", .ref t, bV lo, bV hi]) ∧ TermsAt H t ts
  | .tb cs rows => ∃ c t vs, H w = some (.tup [.str "table", .ref c, .ref t]) ∧ H c = some (.tup (cs.map V.str)) ∧ H t = some (.tup vs) ∧ RowsV H vs rows
  | .wy cs ps es => ∃ c t e vs, H w = some (.tup [.str "way", .ref c, .ref t, .ref e]) ∧ H c = some (.tup (cs.map V.str)) ∧ H t = some (.tup vs) ∧ StepsAt H vs ps ∧ H e = some (.tup (es.map V.int))
  | .bh cs gap => ∃ c, H w = some (.tup [.str "behind", .ref c, .int gap]) ∧ H c = some (.tup (cs.map V.str))
noncomputable def WX (H : Hp) (w : Addr) : Wx → Prop
  | .pl W => WS H w W
  | .sa c vs W => ∃ t u, H w = some (.tup [.str "same", .str c, .ref t, .ref u]) ∧ H t = some (.tup (vs.map V.int)) ∧ WS H u W
theorem WS_keep {H H' : Hp} {w : Addr} {W : Wi} (h : WS H w W) (k : ∀ a xs, H a = some (.tup xs) → H' a = some (.tup xs)) : WS H' w W := by
  cases W with
  | un cs => obtain ⟨c, h1, h2⟩ := h; exact ⟨c, k _ _ h1, k _ _ h2⟩
  | mn av cs lo hi => obtain ⟨a, c, h1, h2, h3⟩ := h; exact ⟨a, c, k _ _ h1, k _ _ h2, k _ _ h3⟩
  | sm ts lo hi => obtain ⟨t, h1, h2⟩ := h; exact ⟨t, k _ _ h1, h2.keep k⟩
  | tb cs rows => obtain ⟨c, t, vs, h1, h2, h3, h4⟩ := h; exact ⟨c, t, vs, k _ _ h1, k _ _ h2, k _ _ h3, h4.keep k⟩
  | wy cs ps es => obtain ⟨c, t, e, vs, h1, h2, h3, h4, h5⟩ := h; exact ⟨c, t, e, vs, k _ _ h1, k _ _ h2, k _ _ h3, h4.keep k, k _ _ h5⟩
  | bh cs gap => obtain ⟨c, h1, h2⟩ := h; exact ⟨c, k _ _ h1, k _ _ h2⟩
theorem WX_keep {H H' : Hp} {w : Addr} {W : Wx} (h : WX H w W) (k : ∀ a xs, H a = some (.tup xs) → H' a = some (.tup xs)) : WX H' w W := by
  cases W with
  | pl W => exact WS_keep h k
  | sa c vs W => obtain ⟨t, u, h1, h2, h3⟩ := h; exact ⟨t, u, k _ _ h1, k _ _ h2, WS_keep h3 k⟩
noncomputable def cellsW : Wi → List Str
  | .un cs => cs
  | .mn _ cs _ _ => cs
  | .sm ts _ _ => ts.map (·.2)
  | .tb cs _ => cs
  | .wy cs _ _ => cs
  | .bh cs _ => cs
noncomputable def cellsX : Wx → List Str
  | .pl W => cellsW W
  | .sa c _ W => c :: cellsW W
noncomputable def szW : Wi → Prop
  | .un cs => cs.length ≤ 12
  | .mn av cs _ _ => av.length ≤ 20 ∧ cs.length ≤ 12
  | .sm ts _ _ => ts.length ≤ 12
  | .tb cs _ => cs.length ≤ 12
  | .wy cs ps es => cs.length ≤ 12 ∧ (ps.map fun x => (x.1, x.2.1)).Nodup ∧ ps.length ≤ 60
  | .bh cs _ => cs ≠ [] ∧ cs.length ≤ 12
noncomputable def szX : Wx → Prop
  | .pl W => szW W
  | .sa _ _ W => szW W
noncomputable def keptW (W : Wi) (g : Str → Int) : Bool := match W with
  | .un cs => decide (cs.map g).Nodup
  | .mn av cs lo hi => btwB ((cs.filter fun c => decide (g c ∈ av)).length : Nat) (some lo) (some hi)
  | .sm ts lo hi => btwB ((ts.map fun x => x.1 * g x.2).sum) lo hi
  | .tb cs rows => decide (cs.map g ∈ rows)
  | .wy cs ps es => endB es (runW ps (some 0) (cs.map g))
  | .bh cs gap => chB gap (cs.map g)
noncomputable def keptX (W : Wx) (g : Str → Int) : Bool := match W with
  | .pl W => keptW W g
  | .sa c vs W => decide (decide (g c ∈ vs) = keptW W g)
noncomputable def spSame : Sp := fun vs H Q _ => ∃ (w f : Addr) (c : Str) (us : List Int) (W : Wi) (g : Str → Int), vs = [.ref w, .ref f] ∧ WX H w (.sa c us W) ∧ szW W ∧ FillAt H f (c :: cellsW W) g ∧ ∀ H', Same H H' → Q (.bl (keptX (.sa c us W) g)) H'
noncomputable def spKeptP : Sp := fun vs H Q _ => ∃ (w f : Addr) (W : Wi) (g : Str → Int), vs = [.ref w, .ref f] ∧ WS H w W ∧ szW W ∧ FillAt H f (cellsW W) g ∧ ∀ H', Same H H' → Q (.bl (keptW W g)) H'
section
variable {X : Cx} {k k2 : Nat} {ps ps2 : List Str} {sp sp2 : Sp} {x : Str} {p pos : Pos} {e : Expr} {es : List Expr} {t : TA}
theorem pe_callF2 (F : Fn X.prog X.w X.K X.mg X.base x k ps sp) (G : Fn X.prog X.w X.K X.mg X.base x k2 ps2 sp2) (hr : Room k X.A) (hr2 : Room k2 X.A) (hg : Gl X x) (ha : PA X (e :: es) t) (hdb : (x == ("__debug__" : Str)) = false := by decide)
    (he : starEach (e :: es) X.env = (false, eval e X.env) :: starEach es X.env := by rfl) (hpl : (backTo pos (starEach es X.env)).any (·.1) = false := by rfl) :
    PE X (.Call (.Name x p) (e :: es) [] pos) (tCall (fun vs H Q E => sp vs H Q E ∨ sp2 vs H Q E) [] E0 t) := by
  obtain ⟨f, fd, F, m, kp, b⟩ := F
  obtain ⟨f2, fd2, G, m2, kp2, b2⟩ := G
  have ef : f2 = f := by rw [m] at m2; cases m2; rfl
  subst ef
  intro pins s σ H Q I h
  refine wpAny_Call_Name_kw (ld_glob I hg m ?_ hdb)
  refine PySem.W.callWith_K (h₀ := X.base) I.ok.mod.kin kp (thn (ha pos pins s σ H _ I h) fun us s1 ⟨vs, H1, I1, r, q⟩ => ⟨I1.kIn, ?_⟩) he hpl
  rcases q with q | q
  · exact run_fn F hr b .nil pass0 I1 r q
  · exact run_fn G hr2 b2 .nil pass0 I1 r q
theorem fn_false {P : Program} {w : World} {K : PySem.W.Frag} {mg : Str → Option Value} {base : Heap} {st : Stmt} (L : FnL K mg x st ps) : Fn P w K mg base x k ps (fun _ _ _ _ => False) := by
  obtain ⟨f, fd, F, m, b⟩ := L
  exact ⟨f, fd, ⟨fun _ _ _ _ h => h.elim, fun _ _ _ _ _ _ _ _ _ _ _ _ _ h => h.elim⟩, m, F.kp, b⟩
end
theorem runW_none (ps : List (Int × Int × Int)) : ∀ l : List Int, runW ps none l = none
  | [] => rfl
  | v :: l => runW_none ps l
theorem runW_app (ps : List (Int × Int × Int)) (st : Option Int) (a b : List Int) : runW ps st (a ++ b) = runW ps (runW ps st a) b := by unfold runW; rw [List.foldl_append]
theorem runW_step {ps : List (Int × Int × Int)} {l : List Int} {i : Nat} {v st : Int} (hv : l[i]? = some v) (h : runW ps (some 0) (l.take i) = some st) : runW ps (some 0) (l.take (i + 1)) = getO ps (some st) v := by
  rw [List.take_add_one, hv, runW_app, h]
  rfl
theorem runW_dead {ps : List (Int × Int × Int)} {l : List Int} {i : Nat} (h : runW ps (some 0) (l.take i) = none) : runW ps (some 0) l = none := by
  rw [← List.take_append_drop i l, runW_app, h, runW_none]
noncomputable def stepF (st v : Int) (x : Int × Int × Int) : Option Int := if x.1 = st ∧ x.2.1 = v then some x.2.2 else none
theorem head_get (st v : Int) : ∀ ps : List (Int × Int × Int), (ps.filterMap (stepF st v)).head? = getO ps (some st) v
  | [] => rfl
  | p :: ps => by
    have ih := head_get st v ps
    unfold getO at ih ⊢
    dsimp only at ih ⊢
    rw [List.find?_cons]
    by_cases h : p.1 = st ∧ p.2.1 = v
    · rw [List.filterMap_cons_some (b := p.2.2) (by simp [stepF, h]), decide_eq_true h]
      rfl
    · rw [List.filterMap_cons_none (by simp [stepF, h]), decide_eq_false h]
      exact ih
theorem after17 {K : PySem.W.Frag} {H' : Hp} {t D : Addr} {as : List (Addr × Int × Int × Int)} {st v : Int} {Qf : VK} (h3 : H' t = some (.tup (as.map fun x => V.ref x.1))) (has : ∀ x ∈ as, H' x.1 = some (.tup [.int x.2.1, .int x.2.2.1, .int x.2.2.2])) (hl : as.length ≤ 60) (hD : H' D = none)
    (hQ : ∀ H1 (zs : List Int), Same H' H1 → H1 D = some (.lst (zs.map V.int)) → zs.head? = getO (as.map (·.2)) (some st) v → Qf (.ref D) H1) :
    CompG (Itt K t) [none, some (V.int st), some (V.int v)] (gName 0) (tTest (tOp (rEqD K) (tSl rSTs (tVarM 0) tNoPart (tPart (tC (V.int 2)))) (tTup (tCons (tVarM 1) (tCons (tVarM 2) tNil))))) (tOp rIT (tVarM 0) (tC (V.int 2))) Qf H' D := by
  refine comp_g wlk_tup (fun j zs H1 => zs = (((as.map (·.2)).take j).filterMap (stepF st v)).map V.int ∧ Same H' H1 ∧ H1 D = some (.lst zs)) ⟨rfl, Same.upd0 hD, upd_same⟩ (fun i ys H1 h => .of (h.2.1 _ _ h3)) ?_ ?_
  · rintro j x ys H1 hj hx ⟨rfl, sm, hd⟩
    obtain ⟨y, hy, rfl⟩ : ∃ y, as[j]? = some y ∧ V.ref y.1 = x := by
      rw [List.getElem?_map] at hx
      cases e : as[j]? with
      | none => rw [e] at hx; cases hx
      | some nm => rw [e] at hx; exact ⟨nm, rfl, Option.some.inj hx⟩
    have hc := sm _ _ (has y (List.mem_of_getElem? hy))
    have et : (as.map (·.2)).take (j + 1) = (as.map (·.2)).take j ++ [y.2] := by rw [List.take_add_one, List.getElem?_map, hy]; rfl
    rw [et, List.filterMap_append, List.map_append]
    have hl2 : ((((as.map (·.2)).take j).filterMap (stepF st v)).map V.int).length < sizeLine := by
      rw [List.length_map]
      refine Nat.lt_of_le_of_lt (List.length_filterMap_le _ _) (Nat.lt_of_le_of_lt (List.length_take_le' _ _) ?_)
      exact Nat.lt_of_lt_of_le (show (as.map (·.2)).length < 1000 by simp; omega) (by decide)
    (try ctx_has vcx true_and hc)
    intro p H2 hp s2
    refine ⟨by decide, fun p2 hp2 => ?_⟩
    have s3 := s2.trans (Same.upd0 (o := .tup [.int st, .int v]) hp2)
    refine ⟨dRow [y.2.1, y.2.2.1], dRow [st, v], .tup (.of ((Same.upd0 hp2) _ _ hp)) (Reps.ints [y.2.1, y.2.2.1]), .tup (.of upd_same) (Reps.ints [st, v]), lay_row _, lay_row _, Nat.le_trans (depth_row _) (by decide), ?_⟩
    rw [eqv_row]
    refine ⟨_, rfl, ?_⟩
    by_cases h : y.2.1 = st ∧ y.2.2.1 = v
    · rw [decide_eq_true (show [y.2.1, y.2.2.1] = [st, v] by rw [h.1, h.2]), if_pos rfl]
      refine ⟨_, s3 _ _ hc, _, rfl, s3 _ _ hd, hl2, by simp [stepF, h], fun b o e => ?_, upd_same⟩
      rw [upd_ne (ne_of_none e hD)]
      exact s3 _ _ (sm b o e)
    · rw [decide_eq_false (show ¬ [y.2.1, y.2.2.1] = [st, v] from fun z => h (by cases z; exact ⟨rfl, rfl⟩)), if_neg Bool.false_ne_true]
      exact ⟨by simp [stepF, h], sm.trans s3, s3 _ _ hd⟩
  · rintro zs H1 ⟨rfl, sm, hd⟩
    rw [List.length_map, show (as.map (·.2)).take as.length = as.map (·.2) from List.take_of_length_le (by simp)] at hd
    exact hQ H1 _ sm hd (head_get st v _)
theorem ok__law_keptB {P : Program} {w : World} {K : PySem.W.Frag} {mg : Str → Option Value} {base : Heap}  (T : Txt mg base) (L : FnL K mg "_law_kept" s__law_kept ["_law_wish_here", "_law_filling"])  : Fn P w K mg base "_law_kept" 3 ["_law_wish_here", "_law_filling"] (spKeptP) := by
  have nd := sc__law_kept.nd
  refine L.ok sc__law_kept (fun vs H Q E h => ?_) (fun f cdv A outer s H vs Q E hr h => ?_)
  · obtain ⟨w, f, W, g, rfl, hW, hk, F, k⟩ := h
    rfl
  · obtain ⟨w, f, W, g, rfl, hW, hk, F, k⟩ := h
    have hu := hu_of hr
    refine ⟨_, (pss_cons (ps_if (pt_cmpR op_eq (pe_ix ix_T (pvM 0) pe_int (fun _ _ => rfl)) pe_str (nomark _)) (pss_one ps_never) pss_nil)
      (pss_cons (ps_if (pt_cmpR op_eq (pe_ix ix_T (pvM 0) pe_int (fun _ _ => rfl)) pe_str (nomark _)) (pss_cons (ps_set (i := 2) nd rfl (by first | exact Or.inl rfl | exact Or.inr rfl) (pe_callB (call_sum_l rfl) rfl T.b_sum (show bootBuiltins "sum" = some (.builtin "sum") by decide +kernel) (pa_cons (pe_comp (N := ["_law_a", "_law_name", "_law_filling"]) (nt := 2) (js := [1]) rfl (compOk_of ["_law_wish_here", "_law_filling", "_law_total", "_law_values", "_law_state", "_law_value", "_law_after"] (defScope s__law_kept).names rfl rfl rfl (by decide +kernel)) (pi_TK (K := K) rfl (pe_ix ix_T (pvM 0) pe_int (fun _ _ => rfl))) (fun _ _ _ _ _ _ => (pg_tupT (n := 2) rfl (pgs_cons (pg_name (i := 0) (show List.Nodup [("_law_a" : Str), ("_law_name" : Str), ("_law_filling" : Str)] by decide +kernel) rfl (Or.inl rfl)) (pgs_cons (pg_name (i := 1) (show List.Nodup [("_law_a" : Str), ("_law_name" : Str), ("_law_filling" : Str)] by decide +kernel) rfl (Or.inl rfl)) pgs_nil)))) (tgOk_tupT2 (by decide) (by decide) (by decide)) (fun _ _ _ _ _ _ => pts_nil) (fun _ _ _ _ _ _ => (pe_op op_mul (pvM 0) (pe_dg hu (pvM 2) (pvM 1) (fun _ _ => rfl))))) pa_nil)))
      (pss_one (ps_ret (pe_and (pe_or (pe_cmp (pc_isN (pe_ix ix_T (pvM 0) pe_int (fun _ _ => rfl)))) (pe_one (pe_cmpR op_ge (pvM 2) (pe_ix ix_T (pvM 0) pe_int (fun _ _ => rfl)) (nomark _)))) (pe_one (pe_or (pe_cmp (pc_isN (pe_ix ix_T (pvM 0) pe_int (fun _ _ => rfl)))) (pe_one (pe_cmpR op_le (pvM 2) (pe_ix ix_T (pvM 0) pe_int (fun _ _ => rfl)) (nomark _))))))))) pss_nil)
      (pss_cons (ps_if (pt_cmpR op_eq (pe_ix ix_T (pvM 0) pe_int (fun _ _ => rfl)) pe_str (nomark _)) (pss_one (ps_ret (pe_chain op_le op_le (pe_ix ix_T (pvM 0) pe_int (fun _ _ => rfl)) (pe_callB call_lenL rfl T.b_len PySem.boot_len (pa_cons (pe_comp (N := ["_law_name", "_law_filling", "_law_wish_here"]) (nt := 1) (js := [1, 0]) rfl (compOk_of ["_law_wish_here", "_law_filling", "_law_total", "_law_values", "_law_state", "_law_value", "_law_after"] (defScope s__law_kept).names rfl rfl rfl (by decide +kernel)) (pi_TK (K := K) rfl (pe_ix ix_T (pvM 0) pe_int (fun _ _ => rfl))) (fun _ _ _ _ _ _ => (pg_name (i := 0) (show List.Nodup [("_law_name" : Str), ("_law_filling" : Str), ("_law_wish_here" : Str)] by decide +kernel) rfl (Or.inl rfl))) (tgOk_name (by decide)) (fun _ _ _ _ _ _ => pts_one (pt_cmpR op_inT (pe_dg hu (pvM 1) (pvM 0) (fun _ _ => rfl)) (pe_ix ix_T (pvM 2) pe_int (fun _ _ => rfl)) (by with_unfolding_all rfl))) (fun _ _ _ _ _ _ => (pvM 0))) pa_nil)) (pe_ix ix_T (pvM 0) pe_int (fun _ _ => rfl))))) pss_nil)
      (pss_cons (ps_set (i := 3) nd rfl (by first | exact Or.inl rfl | exact Or.inr rfl) (pe_comp (N := ["_law_name", "_law_filling"]) (nt := 1) (js := [1]) rfl (compOk_of ["_law_wish_here", "_law_filling", "_law_total", "_law_values", "_law_state", "_law_value", "_law_after"] (defScope s__law_kept).names rfl rfl rfl (by decide +kernel)) (pi_TK (K := K) rfl (pe_ix ix_T (pvM 0) pe_int (fun _ _ => rfl))) (fun _ _ _ _ _ _ => (pg_name (i := 0) (show List.Nodup [("_law_name" : Str), ("_law_filling" : Str)] by decide +kernel) rfl (Or.inl rfl))) (tgOk_name (by decide)) (fun _ _ _ _ _ _ => pts_nil) (fun _ _ _ _ _ _ => (pe_dg hu (pvM 1) (pvM 0) (fun _ _ => rfl)))))
      (pss_cons (ps_if (pt_cmpR op_eq (pe_ix ix_T (pvM 0) pe_int (fun _ _ => rfl)) pe_str (nomark _)) (pss_one (ps_ret (pe_cmpR op_eq (pe_callB call_lenSet rfl T.b_len PySem.boot_len (pa_cons (pe_callTy (call_setI rfl) rfl T.b_set (show bootBuiltins "set" = some (.type "set") by decide +kernel) (pa_cons (pvM 3) pa_nil)) pa_nil)) (pe_callB call_lenL rfl T.b_len PySem.boot_len (pa_cons (pvM 3) pa_nil)) (nomark _)))) pss_nil)
      (pss_cons (ps_if (pt_cmpR op_eq (pe_ix ix_T (pvM 0) pe_int (fun _ _ => rfl)) pe_str (nomark _)) (pss_one (ps_ret (pe_cmpR (op_inTD (hu102 hr)) (pe_callTy call_tupL rfl T.b_tuple (show bootBuiltins "tuple" = some (.type "tuple") by decide +kernel) (pa_cons (pvM 3) pa_nil)) (pe_ix ix_T (pvM 0) pe_int (fun _ _ => rfl)) (by with_unfolding_all rfl)))) pss_nil)
      (pss_cons (ps_if (pt_cmpR op_eq (pe_ix ix_T (pvM 0) pe_int (fun _ _ => rfl)) pe_str (nomark _)) (pss_one (ps_ret (pe_callB (call_allL rfl) rfl T.b_all (show bootBuiltins "all" = some (.builtin "all") by decide +kernel) (pa_cons (pe_comp (N := ["_law_k", "_law_values", "_law_wish_here"]) (nt := 1) (js := [3, 0]) rfl (compOk_of ["_law_wish_here", "_law_filling", "_law_total", "_law_values", "_law_state", "_law_value", "_law_after"] (defScope s__law_kept).names rfl rfl rfl (by decide +kernel)) (pi_range1 rfl T.b_range (pa_cons (pe_op op_sub (pe_callB call_lenL rfl T.b_len PySem.boot_len (pa_cons (pvM 3) pa_nil)) pe_int) pa_nil)) (fun _ _ _ _ _ _ => (pg_name (i := 0) (show List.Nodup [("_law_k" : Str), ("_law_values" : Str), ("_law_wish_here" : Str)] by decide +kernel) rfl (Or.inl rfl))) (tgOk_name (by decide)) (fun _ _ _ _ _ _ => pts_nil) (fun _ _ _ _ _ _ => (pe_cmpR op_le (pe_op op_add (pe_ix ix_L (pvM 1) (pvM 0) (fun _ _ => rfl)) (pe_ix ix_T (pvM 2) pe_int (fun _ _ => rfl))) (pe_ix ix_L (pvM 1) (pe_op op_add (pvM 0) pe_int) (fun _ _ => rfl)) (nomark _)))) pa_nil)))) pss_nil)
      (pss_cons (ps_set (i := 4) nd rfl (by first | exact Or.inl rfl | exact Or.inr rfl) pe_int)
      (pss_cons (ps_for PassesOwn.never rfl (pi_LK (K := K) rfl (pvM 3)) (pg_name (i := 5) nd rfl (by first | exact Or.inl rfl | exact Or.inr rfl)) (pss_cons (ps_setC (i := 6) (N := ["_law_step", "_law_state", "_law_value"]) (nt := 1) (js := [4, 5]) nd rfl (by first | exact Or.inl rfl | exact Or.inr rfl) rfl (compOk_of ["_law_wish_here", "_law_filling", "_law_total", "_law_values", "_law_state", "_law_value", "_law_after"] (defScope s__law_kept).names rfl rfl rfl (by decide +kernel)) (pi_TK (K := K) rfl (pe_ix ix_T (pvM 0) pe_int (fun _ _ => rfl))) (fun _ _ _ _ _ _ => (pg_name (i := 0) (show List.Nodup [("_law_step" : Str), ("_law_state" : Str), ("_law_value" : Str)] by decide +kernel) rfl (Or.inl rfl))) (tgOk_name (by decide)) (fun _ _ _ _ _ _ => pts_one (pt_cmpR (op_eqDK (K := K) rfl (hu100 hr)) (pe_slice sl_Ts (pvM 0) po_none (po_some pe_int)) (pe_tup (pa_cons (pvM 1) (pa_cons (pvM 2) pa_nil))) (nomark _))) (fun _ _ _ _ _ _ => (pe_ix ix_T (pvM 0) pe_int (fun _ _ => rfl))))
      (pss_cons (ps_if (pt_cmpR (op_eqD (hu100 hr)) (pvM 6) (pe_lst pa_nil) (nomark _)) (pss_one (ps_ret pe_bl)) pss_nil)
      (pss_one (ps_set (i := 4) nd rfl (by first | exact Or.inl rfl | exact Or.inr rfl) (pe_ix ix_L (pvM 6) pe_int (fun _ _ => rfl)))))))
      (pss_one (ps_ret (pe_cmpR op_inT (pvM 4) (pe_ix ix_T (pvM 0) pe_int (fun _ _ => rfl)) (by with_unfolding_all rfl))))))))))))), ?_⟩
    obtain ⟨kvs, f1, f2, f3, f4⟩ := F.ex
    cases W with
    | un cs =>
      obtain ⟨c, h1, h2⟩ := hW
      have hk' : cs.length ≤ 12 := hk
      (try ctx_has vcx true_and h1 h2)
      intro q hq
      refine comp_mapS wlk_tup (fun v => match v with | .str c => .int (g c) | _ => .non) hq (fun H' s => .of (s _ _ h2)) (by simp; omega) ?_ ?_
      · intro x H2 Q2 hx sm q2
        obtain ⟨y, hy, rfl⟩ := List.mem_map.mp hx
        have e2 := sm _ _ f1
        have e3 := f2 y hy
        (try ctx_has vcx true_and e2 e3)
        exact q2 H2 (Same.refl _)
      · intro H2 sm e2
        have e2' : H2 q = some (.lst ((cs.map g).map V.int)) := by rw [e2, List.map_map, List.map_map]; rfl
        have h12 := sm _ _ h1
        (try ctx_has vcx true_and h12)
        refine ⟨cs.map g, e2', by simp; omega, fun y S hy => ?_⟩
        refine ⟨S, _, upd_same, _, by rw [upd_ne (ne_of_none e2' hy)]; exact e2', ?_⟩
        have hk := k _ (sm.upd_new (o := .set S (dedupN (cs.map g))) hy)
        have e3 : keptW (.un cs) g = decide ((dedupN (cs.map g) : Int) = (((cs.map g).map V.int).length : Int)) := by
          unfold keptW
          dsimp only
          rw [Bool.eq_iff_iff, decide_eq_true_eq, decide_eq_true_eq, ← dedup_iff, List.length_map (as := cs.map g)]
          omega
        rw [e3] at hk
        exact hk
    | mn av cs lo hi =>
      obtain ⟨am, ce, hw1, ham, hce⟩ := hW
      have hcl : cs.length ≤ 12 := hk.2
      (try ctx_has vcx true_and hw1 hce)
      intro q hq
      refine comp_filterS wlk_tup (fun v => match v with | .str c => decide (g c ∈ av) | _ => false) id hq (fun H' s => .of (s _ _ hce)) (by simp; omega) ?_ ?_ ?_
      · intro x H2 Q2 hx sm q2
        obtain ⟨c, hcm, rfl⟩ := List.mem_map.mp hx
        have hw2 := sm _ _ hw1
        have hf2 := sm _ _ f1
        have ha2 := sm _ _ ham
        have hv := f2 c hcm
        (try ctx_has vcx true_and hf2 hv hw2 ha2)
        refine ⟨rfl, flat_ints _, ?_⟩
        rw [inV_ints]
        exact q2 H2 (Same.refl _)
      · intro x H2 Q2 hx _ sm q2
        (try ctx_has vcx true_and)
        exact q2 H2 (Same.refl _)
      · intro H2 sm h2
        have hw2 := sm _ _ hw1
        (try ctx_has vcx true_and h2 hw2)
        have hk := k H2 sm
        unfold keptW btwB at hk
        dsimp only at hk
        have el : (List.map id (List.filter (fun v => match v with | .str c => decide (g c ∈ av) | _ => false) (cs.map V.str))).length = (cs.filter fun c => decide (g c ∈ av)).length := by
          rw [List.length_map, List.filter_map, List.length_map]; rfl
        rw [el]
        refine ite2 (fun h => ?_) (fun h => ?_)
        · rw [decide_eq_true h, Bool.true_and] at hk; exact hk
        · rw [decide_eq_false h, Bool.false_and] at hk; exact hk
    | sm ts lo hi =>
      obtain ⟨t, hw1, as, hat, rfl, has⟩ := hW
      have hcl : as.length ≤ 12 := by have : (as.map (·.2)).length ≤ 12 := hk; simpa using this
      (try ctx_has vcx true_and hw1 hat)
      intro q hq
      refine comp_g wlk_tup (fun j ys H2 => ys = ((as.take j).map fun x => x.2.1 * g x.2.2).map V.int ∧ H2 q = some (.lst ys) ∧ Same H H2) ⟨by simp, upd_same, Same.upd0 hq⟩ (fun j ys H2 zq46 => by obtain ⟨_, _, sm⟩ := zq46; exact (.of (sm _ _ hat))) ?_ ?_
      · rintro j x ys H2 hj hx ⟨rfl, h2, sm⟩
        rw [List.length_map] at hj
        obtain ⟨y, hy, rfl⟩ : ∃ y, as[j]? = some y ∧ V.ref y.1 = x := by
          rw [List.getElem?_map] at hx
          cases e : as[j]? with
          | none => rw [e] at hx; cases hx
          | some nm => rw [e] at hx; exact ⟨nm, rfl, Option.some.inj hx⟩
        have hym : y ∈ as := List.mem_of_getElem? hy
        have e3 := sm _ _ (has y hym)
        have e4 := sm _ _ f1
        have e5 := f2 y.2.2 (List.mem_map.mpr ⟨y.2, List.mem_map.mpr ⟨y, hym, rfl⟩, rfl⟩)
        have e6 := F.bd y.2.2 (List.mem_map.mpr ⟨y.2, List.mem_map.mpr ⟨y, hym, rfl⟩, rfl⟩)
        (try ctx_has vcx true_and e3 e4 e5)
        refine ⟨.inr ⟨by omega, by omega⟩, h2, by simp; exact small1000 (by omega), ?_, upd_same, fun b o e => ?_⟩
        · rw [List.take_add_one, hy]; simp
        · rw [upd_ne (ne_of_none e hq)]; exact sm _ _ e
      · rintro ys H2 ⟨rfl, h2, sm⟩
        rw [List.length_map, List.take_length] at h2
        have hw2 := sm _ _ hw1
        have ek : (((as.map (·.2)).map fun x => x.1 * g x.2).sum) = (as.map fun x => x.2.1 * g x.2.2).sum := by rw [List.map_map]; rfl
        have hk := k H2 sm
        unfold keptW at hk
        dsimp only at hk
        rw [ek] at hk
        (try ctx_has vcx true_and)
        refine ⟨as.map fun x => x.2.1 * g x.2.2, .of h2, ?_⟩
        generalize (as.map fun x => x.2.1 * g x.2.2).sum = tot at hk ⊢
        cases lo with
        | none =>
          cases hi with
          | none => (try ctx_has vcx true_and hw2 bV decide_true decide_false Bool.false_eq_true); exact hk
          | some b => (try ctx_has vcx true_and hw2 bV decide_true decide_false Bool.false_eq_true); simpa [btwB] using hk
        | some a =>
          cases hi with
          | none =>
            (try ctx_has vcx true_and hw2 bV decide_true decide_false Bool.false_eq_true)
            refine ite2 (fun h => ?_) (fun h => ?_)
            · simpa [btwB, h] using hk
            · simpa [btwB, h] using hk
          | some b =>
            (try ctx_has vcx true_and hw2 bV decide_true decide_false Bool.false_eq_true)
            refine ite2 (fun h => ?_) (fun h => ?_)
            · simpa [btwB, h] using hk
            · simpa [btwB, h] using hk
    | tb cs rows =>
      obtain ⟨c, tr, vs, h1, h2, h3, h4⟩ := hW
      have hk' : cs.length ≤ 12 := hk
      (try ctx_has vcx true_and h1 h2)
      intro q hq
      refine comp_mapS wlk_tup (fun v => match v with | .str c => .int (g c) | _ => .non) hq (fun H' s => .of (s _ _ h2)) (by simp; omega) ?_ ?_
      · intro x H2 Q2 hx sm q2
        obtain ⟨y, hy, rfl⟩ := List.mem_map.mp hx
        have e2 := sm _ _ f1
        have e3 := f2 y hy
        (try ctx_has vcx true_and e2 e3)
        exact q2 H2 (Same.refl _)
      · intro H2 sm e2
        have e2' : H2 q = some (.lst ((cs.map g).map V.int)) := by rw [e2, List.map_map, List.map_map]; rfl
        have h12 := sm _ _ h1
        (try ctx_has vcx true_and e2' h12)
        intro tt htt
        have s3 : Same H2 (upd H2 tt (.tup ((cs.map g).map V.int))) := Same.upd0 htt
        refine ⟨_, s3 _ _ h12, ?_⟩
        (try ctx_has vcx true_and)
        exact rowT_in upd_same (s3 _ _ (sm _ _ h3)) (h4.keep fun a xs e => s3 _ _ (sm _ _ e)) (k _ (sm.trans s3))
    | wy cs ps es =>
      obtain ⟨c, t, e, vs, h1, h2, h3, h4, h5⟩ := hW
      obtain ⟨as, rfl, rfl, has⟩ := h4
      (try ctx_has vcx true_and h1 h2)
      intro q hq
      refine comp_mapS wlk_tup (fun v => match v with | .str c => .int (g c) | _ => .non) hq (fun H' s => .of (s _ _ h2)) (by have := hk.1; simp; omega) ?_ ?_
      · intro x H2 Q2 hx sm q2
        obtain ⟨y, hy, rfl⟩ := List.mem_map.mp hx
        have e2 := sm _ _ f1
        have e3 := f2 y hy
        (try ctx_has vcx true_and e2 e3)
        exact q2 H2 (Same.refl _)
      · intro H2 sm e2
        have e2' : H2 q = some (.lst ((cs.map g).map V.int)) := by rw [e2, List.map_map, List.map_map]; rfl
        have h12 := sm _ _ h1
        (try ctx_has vcx true_and e2' h12)
        have hk5 := hk.2.2
        refine for_g wlk_list (fun i σ H3 => ∃ v5 v6 st, σ = [some (.ref w), some (.ref f), none, some (.ref q), some (.int st), v5, v6] ∧ runW (as.map (·.2)) (some 0) ((cs.map g).take i) = some st ∧ Same H2 H3) ⟨_, _, 0, rfl, rfl, Same.refl _⟩ (fun i σ H' zq47 => by obtain ⟨_, _, _, _, _, s3⟩ := zq47; exact (.of (s3 _ _ e2'))) ?_ ?_
        · rintro i x σ H3 hi hx ⟨v5, v6, st, rfl, hrun, s3⟩
          obtain ⟨v, hv, rfl⟩ : ∃ v, (cs.map g)[i]? = some v ∧ V.int v = x := by
            rw [List.getElem?_map] at hx
            cases e : (cs.map g)[i]? with
            | none => rw [e] at hx; cases hx
            | some nm => rw [e] at hx; exact ⟨nm, rfl, Option.some.inj hx⟩
          have h13 := s3 _ _ h12
          have h33 := s3 _ _ (sm _ _ h3)
          (try ctx_has vcx true_and h13 h33)
          intro D hD
          refine after17 h33 (fun x hx => s3 _ _ (sm _ _ (has x hx))) (by simpa using hk5) hD fun H4 zs s4 hz hh => ?_
          have hst := runW_step hv hrun
          refine ⟨by decide, fun p5 hp5 => ?_⟩
          have s5 := Same.upd0 (o := .lst []) hp5
          refine ⟨.list (zs.map PyData.int), .list [], .lst (.of (s5 _ _ hz)) (Reps.ints zs), .lst (.of upd_same) .nil, by unfold PyData.canLay0; exact lay_ints zs, rfl, by unfold PyData.depth; rw [depth_ints]; decide, _, rfl, ?_⟩
          cases zs with
          | nil =>
            rw [show PyData.eqv (.list (([] : List Int).map PyData.int)) (.list []) = true by rfl, if_pos rfl]
            rw [← hh] at hst
            have hkf : keptW (.wy cs (as.map (·.2)) es) g = false := by unfold keptW; dsimp only; rw [show runW (as.map (·.2)) (some 0) (cs.map g) = none from runW_dead hst]; rfl
            have := k _ (sm.trans (s3.trans (s4.trans s5)))
            rw [hkf] at this
            exact this
          | cons n zs =>
            rw [show PyData.eqv (.list ((n :: zs).map PyData.int)) (.list []) = false by simp [PyData.eqv, PyData.eqvAll], if_neg Bool.false_ne_true]
            rw [← hh] at hst
            exact ⟨D, rfl, _, s5 _ _ hz, V.int n, atI_nat (j := 0) (by simp), _, _, n, rfl, rfl, rfl, hst, s3.trans (s4.trans s5)⟩
        · rintro σ H3 ⟨v5, v6, st, rfl, hrun, s3⟩
          have h13 := s3 _ _ h12
          (try ctx_has vcx true_and h13)
          rw [show (cs.map g).take ((cs.map g).map V.int).length = cs.map g from List.take_of_length_le (by simp)] at hrun
          refine ⟨_, s3 _ _ (sm _ _ h5), rfl, flat_ints es, ?_⟩
          have hkt : keptW (.wy cs (as.map (·.2)) es) g = decide (st ∈ es) := by unfold keptW; dsimp only; rw [show runW (as.map (·.2)) (some 0) (cs.map g) = some st from hrun]; rfl
          rw [show inV (V.int st) (es.map V.int) = decide (st ∈ es) from inV_ints st es, ← hkt]
          exact k _ (sm.trans s3)
    | bh cs gap =>
      obtain ⟨c, h1, h2⟩ := hW
      have hl : cs ≠ [] ∧ cs.length ≤ 12 := hk
      (try ctx_has vcx true_and h1 h2)
      intro q hq
      refine comp_mapS wlk_tup (fun v => match v with | .str c => .int (g c) | _ => .non) hq (fun H' s => .of (s _ _ h2)) (by have := hl.2; simp; omega) ?_ ?_
      · intro x H2 Q2 hx sm q2
        obtain ⟨y, hy, rfl⟩ := List.mem_map.mp hx
        have e2 := sm _ _ f1
        have e3 := f2 y hy
        (try ctx_has vcx true_and e2 e3)
        exact q2 H2 (Same.refl _)
      · intro H2 sm e2
        have e2' : H2 q = some (.lst ((cs.map g).map V.int)) := by rw [e2, List.map_map, List.map_map]; rfl
        have h12 := sm _ _ h1
        have lp := List.length_pos_iff.mpr hl.1
        (try ctx_has vcx true_and e2' h12)
        refine ⟨by simp; omega, by simp; omega, fun q2 hq2 => ?_⟩
        refine comp_mapS wlk_range (fun v => match v with | .int i => .bl (decide ((cs.map g).getD i.toNat 0 + gap ≤ (cs.map g).getD (i.toNat + 1) 0)) | _ => .non) hq2 (fun _ _ => True.intro) (by rw [rngV_length]; simp; omega) ?_ ?_
        · intro x H3 Q3 hx sm3 q3
          obtain ⟨i, hi, rfl⟩ : ∃ i : Nat, i < cs.length - 1 ∧ x = V.int i := by
            simp only [rngV, List.mem_map, List.mem_range] at hx
            obtain ⟨i, hi, e⟩ := hx
            refine ⟨i, by simp at hi; omega, by rw [← e]; simp⟩
          have h3 := sm3 _ _ e2'
          have h3w := sm3 _ _ h12
          have a1 : atI ((cs.map g).map V.int) (i : Int) = some (.int ((cs.map g).getD i 0)) := atI_nat (by simp [show i < cs.length by omega])
          have a2 : atI ((cs.map g).map V.int) ((i : Int) + 1) = some (.int ((cs.map g).getD (i + 1) 0)) := atI_nat (j := i + 1) (by simp [show i + 1 < cs.length by omega])
          (try ctx_has vcx true_and h3 h3w a1 a2)
          exact q3 H3 (Same.refl _)
        · intro H3 sm3 h3
          (try ctx_has vcx true_and)
          refine ⟨(List.range ((cs.map g).length - 1)).map fun k => decide ((cs.map g).getD k 0 + gap ≤ (cs.map g).getD (k + 1) 0), ?_, ?_⟩
          · rw [h3]
            congr 2
            simp only [rngV, List.map_map]
            rw [show (((cs.map (V.int ∘ g)).length : Int) - 1).toNat = (cs.map g).length - 1 by simp]
            refine List.map_congr_left fun i _ => ?_
            simp
          · rw [chB_range]
            exact k H3 (sm.trans sm3)
theorem ok__law_keptS {P : Program} {w : World} {K : PySem.W.Frag} {mg : Str → Option Value} {base : Heap}  (T : Txt mg base) (L : FnL K mg "_law_kept" s__law_kept ["_law_wish_here", "_law_filling"]) (F_law_kept : Fn P w K mg base "_law_kept" 3 ["_law_wish_here", "_law_filling"] (spKeptP)) : Fn P w K mg base "_law_kept" 4 ["_law_wish_here", "_law_filling"] (spSame) := by
  have nd := sc__law_kept.nd
  refine L.ok sc__law_kept (fun vs H Q E h => ?_) (fun f cdv A outer s H vs Q E hr h => ?_)
  · obtain ⟨w, f, c, us, W, g, rfl, hW, hk, F, k⟩ := h
    rfl
  · obtain ⟨w, f, c, us, W, g, rfl, hW, hk, F, k⟩ := h
    have hu := hu_of hr
    refine ⟨_, (pss_cons (ps_if (pt_cmpR op_eq (pe_ix ix_T (pvM 0) pe_int (fun _ _ => rfl)) pe_str (nomark _)) (pss_one (ps_ret (pe_cmpR op_eq (pe_cmpR op_inT (pe_dg hu (pvM 1) (pe_ix ix_T (pvM 0) pe_int (fun _ _ => rfl)) (fun _ _ => rfl)) (pe_ix ix_T (pvM 0) pe_int (fun _ _ => rfl)) (by with_unfolding_all rfl)) (pe_callF F_law_kept (hr.mono (by first | decide | omega)) rfl (pa_cons (pe_ix ix_T (pvM 0) pe_int (fun _ _ => rfl)) (pa_cons (pvM 1) pa_nil))) (nomark _)))) pss_nil)
      (pss_cons ps_never
      (pss_cons ps_never
      (pss_cons ps_never
      (pss_cons ps_never
      (pss_cons ps_never
      (pss_cons ps_never
      (pss_cons ps_never
      (pss_cons ps_never
      (pss_one ps_never)))))))))), ?_⟩
    obtain ⟨t, u, h1, h2, h3⟩ := hW
    obtain ⟨kvs, f1, f2, f3, f4⟩ := F.ex
    have e2 := f2 c List.mem_cons_self
    (try ctx_has vcx true_and h1 f1 e2 h2)
    refine ⟨rfl, flat_ints _, ?_⟩
    rw [inV_ints]
    refine ⟨u, f, W, g, rfl, h3, hk, F.sub fun c hc => List.mem_cons_of_mem _ hc, fun H' s => ⟨rfl, by rw [show decide (V.bl (decide (g c ∈ us)) = V.bl (keptW W g)) = keptX (.sa c us W) g by simp [keptX]]; exact k H' s⟩⟩
noncomputable def spBounds : Sp := fun vs H Q _ => ∃ (d l : Addr) (lo hi : Int), vs = [.ref d, .int lo, .int hi] ∧ DealAt H d l ∧ lo ≤ hi ∧ -10000000000000 ≤ lo ∧ hi ≤ 10000000000000 ∧ ∀ (p : Addr) (a b : Option Int) (H' : Hp), H p = none → H' p = some (.tup [bV a, bV b]) → DealAt H' d l → But d l H H' → Q (.ref p) H'
theorem mul_low {a v : Int} (a0 : -1000000 ≤ a) (a1 : a ≤ 1000000) (v0 : -1000000 ≤ v) (v1 : v ≤ 1000000) : -1000000000000 ≤ a * v := by
  have h1 : a.natAbs ≤ 1000000 := by omega
  have h2 : v.natAbs ≤ 1000000 := by omega
  have h3 : (a * v).natAbs ≤ 1000000 * 1000000 := by rw [Int.natAbs_mul]; exact Nat.mul_le_mul h1 h2
  omega
theorem mul_high {a v : Int} (a0 : -1000000 ≤ a) (a1 : a ≤ 1000000) (v0 : -1000000 ≤ v) (v1 : v ≤ 1000000) : a * v ≤ 1000000000000 := by
  have h1 : a.natAbs ≤ 1000000 := by omega
  have h2 : v.natAbs ≤ 1000000 := by omega
  have h3 : (a * v).natAbs ≤ 1000000 * 1000000 := by rw [Int.natAbs_mul]; exact Nat.mul_le_mul h1 h2
  omega
theorem times_comp {K : PySem.W.Frag} {H : Hp} {a D : Addr} {x : Int} {ns : List Int} {Q : VK} (h : H a = some (.tup (ns.map V.int))) (hx0 : -1000000 ≤ x) (hx1 : x ≤ 1000000) (hl : ns.length ≤ 20) (hD : H D = none) (q : ∀ H', Same H H' → H' D = some (.lst ((ns.map fun v => x * v).map V.int)) → Q (.ref D) H') :
    CompG (Itt K a) [none, some (V.int x)] (gName 0) tYes (tOp (rI CMul fun i j => V.int (i * j)) (tVarM 1) (tVarM 0)) Q H D := by
  refine comp_mapS wlk_tup (fun v => match v with | .int i => .int (x * i) | _ => .non) hD (fun H' s => .of (s _ _ h)) (by simp; omega) ?_ ?_
  · intro y H2 Q2 hy sm q2
    obtain ⟨z, hz, rfl⟩ := List.mem_map.mp hy
    (try ctx_has vcx true_and)
    exact ⟨.inl ⟨by omega, by omega⟩, q2 H2 (Same.refl _)⟩
  · intro H2 sm e2
    refine q H2 sm ?_
    rw [e2, List.map_map, List.map_map]
    rfl
noncomputable def spSumL : Sp := fun vs H Q _ => ∃ (d l sa ra : Addr) (cs : List Str) (kvs : List (Key × V)) (rm : Str → List Int), vs = [.ref d, .ref sa, .ref ra] ∧ DealAt H d l ∧ (ra ≠ d ∧ ra ≠ l) ∧ H sa = some (.tup (cs.map V.str)) ∧ H ra = some (.dK kvs) ∧ RoomsFor H kvs cs rm ∧ cs.length ≤ 12 ∧ (∀ c ∈ cs, rm c ≠ [] ∧ (rm c).length ≤ 20 ∧ ∀ v ∈ rm c, -1000000 ≤ v ∧ v ≤ 1000000) ∧
  ∀ (w : Addr) (ts : List (Int × Str)) (lo hi : Option Int) (H' : Hp), H w = none → WS H' w (.sm ts lo hi) → ts.map (·.2) = cs.take 4 → (∀ x ∈ ts, -1000000 ≤ x.1 ∧ x.1 ≤ 1000000 ∧ x.1 ≠ 0) → DealAt H' d l → But d l H H' → Q (.ref w) H'
theorem DealAt.tupN {H : Hp} {d l a : Addr} {vs : List V} (D : DealAt H d l) (h : H a = some (.tup vs)) : a ≠ d ∧ a ≠ l := by
  obtain ⟨m', sd, n', xs', hd', hl', _⟩ := D.ex
  exact ⟨ne_of h hd' (by intro z; cases z), ne_of h hl' (by intro z; cases z)⟩
theorem But.tup {H H' : Hp} {d l a : Addr} {vs : List V} (B : But d l H H') (D : DealAt H d l) (h : H a = some (.tup vs)) : H' a = some (.tup vs) := B a _ (D.tupN h).1 (D.tupN h).2 h
theorem ok__law_bounds {P : Program} {w : World} {K : PySem.W.Frag} {mg : Str → Option Value} {base : Heap}  (T : Txt mg base) (L : FnL K mg "_law_bounds" s__law_bounds ["_law_deal_here", "_law_low", "_law_high"]) (F_law_draw : Fn P w K mg base "_law_draw" 1 ["_law_deal_here", "_law_many"] (spDraw)) : Fn P w K mg base "_law_bounds" 2 ["_law_deal_here", "_law_low", "_law_high"] (spBounds) := by
  have nd := sc__law_bounds.nd
  refine L.ok sc__law_bounds (fun vs H Q E h => ?_) (fun f cdv A outer s H vs Q E hr h => ?_)
  · obtain ⟨d, l, lo, hi, rfl, D, hle, lo0, hi0, k⟩ := h
    rfl
  · obtain ⟨d, l, lo, hi, rfl, D, hle, lo0, hi0, k⟩ := h
    have hu := hu_of hr
    refine ⟨_, (pss_cons (ps_set (i := 3) nd rfl (by first | exact Or.inl rfl | exact Or.inr rfl) (pe_op op_add (pvM 1) (pe_callF F_law_draw (hr.mono (by first | decide | omega)) rfl (pa_cons (pvM 0) (pa_cons (pe_op op_add (pe_op op_sub (pvM 2) (pvM 1)) pe_int) pa_nil)))))
      (pss_cons (ps_set (i := 4) nd rfl (by first | exact Or.inl rfl | exact Or.inr rfl) (pe_op op_add (pvM 3) (pe_callF F_law_draw (hr.mono (by first | decide | omega)) rfl (pa_cons (pvM 0) (pa_cons (pe_op op_add (pe_op op_sub (pvM 2) (pvM 3)) pe_int) pa_nil)))))
      (pss_one (ps_ret (pe_ix ix_L (pe_lst (pa_cons (pe_tup (pa_cons (pvM 3) (pa_cons (pvM 4) pa_nil))) (pa_cons (pe_tup (pa_cons (pvM 3) (pa_cons (pvM 3) pa_nil))) (pa_cons (pe_tup (pa_cons (pvM 3) (pa_cons pe_non pa_nil))) (pa_cons (pe_tup (pa_cons pe_non (pa_cons (pvM 4) pa_nil))) pa_nil))))) (pe_callF F_law_draw (hr.mono (by first | decide | omega)) rfl (pa_cons (pvM 0) (pa_cons pe_int pa_nil))) (fun _ _ => rfl)))))), ?_⟩
    (try ctx_has vcx true_and)
    refine draw_rd D (by omega) (by omega) fun r1 H1 r10 r11 D1 B1 => ?_
    (try ctx_has vcx true_and)
    refine draw_rd D1 (by omega) (by omega) fun r2 H2 r20 r21 D2 B2 => ?_
    (try ctx_has vcx true_and)
    refine ⟨by decide, fun p1 g1 => ⟨by decide, fun p2 g2 => ⟨by decide, fun p3 g3 => ⟨by decide, fun p4 g4 => ⟨by decide, fun q gq => ?_⟩⟩⟩⟩⟩
    have s4 := (((Same.upd0 (o := .tup [.int (lo + r1), .int (lo + r1 + r2)]) g1).upd_new (o := .tup [.int (lo + r1), .int (lo + r1)]) g2).upd_new (o := .tup [.int (lo + r1), .non]) g3).upd_new (o := .tup [.non, .int (lo + r1 + r2)]) g4
    have e12 : p1 ≠ p2 := fun z => by rw [z, upd_same] at g2; cases g2
    have e13 : p1 ≠ p3 := fun z => by rw [← z, upd_ne e12, upd_same] at g3; cases g3
    have e23 : p2 ≠ p3 := fun z => by rw [← z, upd_same] at g3; cases g3
    have e14 : p1 ≠ p4 := fun z => by rw [← z, upd_ne e13, upd_ne e12, upd_same] at g4; cases g4
    have e24 : p2 ≠ p4 := fun z => by rw [← z, upd_ne e23, upd_same] at g4; cases g4
    have e34 : p3 ≠ p4 := fun z => by rw [← z, upd_same] at g4; cases g4
    have h1 : upd (upd (upd (upd H2 p1 (.tup [.int (lo + r1), .int (lo + r1 + r2)])) p2 (.tup [.int (lo + r1), .int (lo + r1)])) p3 (.tup [.int (lo + r1), .non])) p4 (.tup [.non, .int (lo + r1 + r2)]) p1 = some (.tup [.int (lo + r1), .int (lo + r1 + r2)]) := by rw [upd_ne e14, upd_ne e13, upd_ne e12, upd_same]
    have h2 : upd (upd (upd (upd H2 p1 (.tup [.int (lo + r1), .int (lo + r1 + r2)])) p2 (.tup [.int (lo + r1), .int (lo + r1)])) p3 (.tup [.int (lo + r1), .non])) p4 (.tup [.non, .int (lo + r1 + r2)]) p2 = some (.tup [.int (lo + r1), .int (lo + r1)]) := by rw [upd_ne e24, upd_ne e23, upd_same]
    have h3 : upd (upd (upd (upd H2 p1 (.tup [.int (lo + r1), .int (lo + r1 + r2)])) p2 (.tup [.int (lo + r1), .int (lo + r1)])) p3 (.tup [.int (lo + r1), .non])) p4 (.tup [.non, .int (lo + r1 + r2)]) p3 = some (.tup [.int (lo + r1), .non]) := by rw [upd_ne e34, upd_same]
    have h4 : upd (upd (upd (upd H2 p1 (.tup [.int (lo + r1), .int (lo + r1 + r2)])) p2 (.tup [.int (lo + r1), .int (lo + r1)])) p3 (.tup [.int (lo + r1), .non])) p4 (.tup [.non, .int (lo + r1 + r2)]) p4 = some (.tup [.non, .int (lo + r1 + r2)]) := upd_same
    have f1 : H p1 = none := (B1.trans B2).free D2 g1
    have f2 : H p2 = none := ((B1.trans B2).new g1).free (D2.new g1) g2
    have f3 : H p3 = none := (((B1.trans B2).new g1).new g2).free ((D2.new g1).new g2) g3
    have f4 : H p4 = none := ((((B1.trans B2).new g1).new g2).new g3).free (((D2.new g1).new g2).new g3) g4
    have D4 := D2.same s4
    have B4 := (B1.trans B2).same s4
    generalize upd (upd (upd (upd H2 p1 (.tup [.int (lo + r1), .int (lo + r1 + r2)])) p2 (.tup [.int (lo + r1), .int (lo + r1)])) p3 (.tup [.int (lo + r1), .non])) p4 (.tup [.non, .int (lo + r1 + r2)]) = H4 at gq h1 h2 h3 h4 D4 B4 ⊢
    refine draw_of D4 gq (by decide) (by decide) rfl fun r5 v H5 hv ha D5 B5 h5 => ?_
    (try ctx_has vcx true_and h5 ha)
    have nt : ∀ {p : Addr} {vs : List V}, H4 p = some (.tup vs) → H5 p = some (.tup vs) := fun h => B5 _ _ (D4.tupN h).1 (D4.tupN h).2 h
    have B05 := B4.trans B5
    simp only [List.mem_cons, List.not_mem_nil, or_false] at hv
    rcases hv with rfl | rfl | rfl | rfl
    · exact k p1 (some _) (some _) H5 f1 (nt h1) D5 B05
    · exact k p2 (some _) (some _) H5 f2 (nt h2) D5 B05
    · exact k p3 (some _) none H5 f3 (nt h3) D5 B05
    · exact k p4 none (some _) H5 f4 (nt h4) D5 B05
theorem ok__law_sum {P : Program} {w : World} {K : PySem.W.Frag} {mg : Str → Option Value} {base : Heap}  (T : Txt mg base) (L : FnL K mg "_law_sum" s__law_sum ["_law_deal_here", "_law_some_here", "_law_rooms_here"]) (F_law_draw : Fn P w K mg base "_law_draw" 1 ["_law_deal_here", "_law_many"] (spDraw)) (F_law_bounds : Fn P w K mg base "_law_bounds" 2 ["_law_deal_here", "_law_low", "_law_high"] (spBounds)) : Fn P w K mg base "_law_sum" 3 ["_law_deal_here", "_law_some_here", "_law_rooms_here"] (spSumL) := by
  have nd := sc__law_sum.nd
  refine L.ok sc__law_sum (fun vs H Q E h => ?_) (fun f cdv A outer s H vs Q E hr h => ?_)
  · obtain ⟨d, l, sa, ra, cs, kvs, rm, rfl, D, nra, hsa, hra, hrf, hcl, hgd, k⟩ := h
    rfl
  · obtain ⟨d, l, sa, ra, cs, kvs, rm, rfl, D, nra, hsa, hra, hrf, hcl, hgd, k⟩ := h
    have hu := hu_of hr
    refine ⟨_, (pss_cons (ps_set (i := 3) nd rfl (by first | exact Or.inl rfl | exact Or.inr rfl) (pe_lst pa_nil))
      (pss_cons (ps_set (i := 4) nd rfl (by first | exact Or.inl rfl | exact Or.inr rfl) pe_int)
      (pss_cons (ps_set (i := 5) nd rfl (by first | exact Or.inl rfl | exact Or.inr rfl) pe_int)
      (pss_cons (ps_for PassesOwn.never rfl (pi_TK (K := K) rfl (pe_slice sl_Ts (pvM 1) po_none (po_some pe_int))) (pg_name (i := 6) nd rfl (by first | exact Or.inl rfl | exact Or.inr rfl)) (pss_cons (ps_set (i := 7) nd rfl (by first | exact Or.inl rfl | exact Or.inr rfl) (pe_ix ix_L (pe_lst (pa_cons pe_int (pa_cons pe_int (pa_cons (pe_un un_neg pe_int) (pa_cons pe_int (pa_cons (pe_un un_neg pe_int) (pa_cons pe_int pa_nil))))))) (pe_callF F_law_draw (hr.mono (by first | decide | omega)) rfl (pa_cons (pvM 0) (pa_cons pe_int pa_nil))) (fun _ _ => rfl)))
      (pss_cons (ps_expr (pe_mL PySem.F.slot_list_append PySem.F.type_list_append ml_append (pvM 3) (pa_cons (pe_tup (pa_cons (pvM 7) (pa_cons (pvM 6) pa_nil))) pa_nil)))
      (pss_cons (ps_set (i := 4) nd rfl (by first | exact Or.inl rfl | exact Or.inr rfl) (pe_op op_add (pvM 4) (pe_callB (call_minL rfl) rfl T.b_min (show bootBuiltins "min" = some (.builtin "min") by decide +kernel) (pa_cons (pe_comp (N := ["_law_value", "_law_a"]) (nt := 1) (js := [7]) rfl (compOk_of ["_law_deal_here", "_law_some_here", "_law_rooms_here", "_law_terms", "_law_low", "_law_high", "_law_name", "_law_a"] (defScope s__law_sum).names rfl rfl rfl (by decide +kernel)) (pi_TK (K := K) rfl (pe_dg hu (pvM 2) (pvM 6) (fun _ _ => rfl))) (fun _ _ _ _ _ _ => (pg_name (i := 0) (show List.Nodup [("_law_value" : Str), ("_law_a" : Str)] by decide +kernel) rfl (Or.inl rfl))) (tgOk_name (by decide)) (fun _ _ _ _ _ _ => pts_nil) (fun _ _ _ _ _ _ => (pe_op op_mul (pvM 1) (pvM 0)))) pa_nil))))
      (pss_one (ps_set (i := 5) nd rfl (by first | exact Or.inl rfl | exact Or.inr rfl) (pe_op op_add (pvM 5) (pe_callB (call_maxL rfl) rfl T.b_max (show bootBuiltins "max" = some (.builtin "max") by decide +kernel) (pa_cons (pe_comp (N := ["_law_value", "_law_a"]) (nt := 1) (js := [7]) rfl (compOk_of ["_law_deal_here", "_law_some_here", "_law_rooms_here", "_law_terms", "_law_low", "_law_high", "_law_name", "_law_a"] (defScope s__law_sum).names rfl rfl rfl (by decide +kernel)) (pi_TK (K := K) rfl (pe_dg hu (pvM 2) (pvM 6) (fun _ _ => rfl))) (fun _ _ _ _ _ _ => (pg_name (i := 0) (show List.Nodup [("_law_value" : Str), ("_law_a" : Str)] by decide +kernel) rfl (Or.inl rfl))) (tgOk_name (by decide)) (fun _ _ _ _ _ _ => pts_nil) (fun _ _ _ _ _ _ => (pe_op op_mul (pvM 1) (pvM 0)))) pa_nil)))))))))
      (pss_cons (ps_asg (pe_callF F_law_bounds (hr.mono (by first | decide | omega)) rfl (pa_cons (pvM 0) (pa_cons (pvM 4) (pa_cons (pvM 5) pa_nil)))) (pg_tupT (n := 2) rfl (pgs_cons (pg_name (i := 4) nd rfl (by first | exact Or.inl rfl | exact Or.inr rfl)) (pgs_cons (pg_name (i := 5) nd rfl (by first | exact Or.inl rfl | exact Or.inr rfl)) pgs_nil))))
      (pss_one (ps_ret (pe_tup (pa_cons pe_str (pa_cons (pe_callTy call_tupL rfl T.b_tuple (show bootBuiltins "tuple" = some (.type "tuple") by decide +kernel) (pa_cons (pvM 3) pa_nil)) (pa_cons (pvM 4) (pa_cons (pvM 5) pa_nil)))))))))))), ?_⟩
    (try ctx_has vcx true_and)
    refine ⟨by decide, fun p hp => ?_⟩
    have np := D.ne hp
    refine ⟨_, by rw [upd_ne (ne_of_none hsa hp)]; exact hsa, fun q H1 hq s1 => ⟨_, hq, ?_⟩⟩
    rw [show cutV (cs.map V.str) none (some 4) = (cs.take 4).map V.str from cut_map V.str cs 4] at hq
    have s01 := (Same.upd0 (o := .lst []) hp).trans s1
    have D1 := D.same s01
    refine for_g wlk_tup (fun i σ H' => ∃ (as : List (Addr × Int × Str)) (lo hi : Int) (v6 v7 : Option V), σ = [some (.ref d), some (.ref sa), some (.ref ra), some (.ref p), some (.int lo), some (.int hi), v6, v7] ∧ H' p = some (.lst (as.map fun x => V.ref x.1)) ∧ (∀ x ∈ as, H' x.1 = some (.tup [.int x.2.1, .str x.2.2])) ∧ as.map (·.2.2) = (cs.take 4).take i ∧ (∀ x ∈ as, -1000000 ≤ x.2.1 ∧ x.2.1 ≤ 1000000 ∧ x.2.1 ≠ 0) ∧ lo ≤ hi ∧ -(1000000000000 * (i : Int)) ≤ lo ∧ hi ≤ 1000000000000 * (i : Int) ∧ H' q = some (.tup ((cs.take 4).map V.str)) ∧ DealAt H' d l ∧ But d l H H')
      ⟨[], 0, 0, _, _, rfl, s1 _ _ upd_same, by simp, by simp, by simp, by decide, by decide, by decide, hq, D1, (But.refl H).same s01⟩ (fun i σ H' zq48 => by obtain ⟨_, _, _, _, _, _, _, _, _, _, _, _, _, h, _⟩ := zq48; exact (.of h)) ?_ ?_
    · rintro i x σ H2 hi hx ⟨as, lo, hig, v6, v7, rfl, h2p, h2a, hnm, hbd, hlh, hl0, hh0, h2q, D2, B2⟩
      rw [List.length_map] at hi
      obtain ⟨c, hcx, rfl⟩ : ∃ c, (cs.take 4)[i]? = some c ∧ V.str c = x := by
        rw [List.getElem?_map] at hx
        cases e : (cs.take 4)[i]? with
        | none => rw [e] at hx; cases hx
        | some nm => rw [e] at hx; exact ⟨nm, rfl, Option.some.inj hx⟩
      have hcm : c ∈ cs := List.mem_of_mem_take (List.mem_of_getElem? hcx)
      have hi4 : i < 4 := by have : (cs.take 4).length ≤ 4 := by simp; omega
                             omega
      have hal : as.length ≤ i := by
        have := congrArg List.length hnm
        rw [List.length_map] at this
        rw [this]
        exact List.length_take_le _ _
      (try ctx_has vcx true_and)
      refine ⟨by decide, fun t ht => ?_⟩
      refine draw_of D2 ht (by decide) (by decide) rfl fun r v H3 hv ha D3 B3 h3 => ?_
      obtain ⟨a, rfl, a0, a1, an⟩ : ∃ a : Int, v = .int a ∧ -1000000 ≤ a ∧ a ≤ 1000000 ∧ a ≠ 0 := by
        simp only [List.mem_cons, List.not_mem_nil, or_false] at hv
        rcases hv with rfl | rfl | rfl | rfl | rfl | rfl
        · exact ⟨1, rfl, by decide, by decide, by decide⟩
        · exact ⟨1, rfl, by decide, by decide, by decide⟩
        · exact ⟨-1, rfl, by decide, by decide, by decide⟩
        · exact ⟨2, rfl, by decide, by decide, by decide⟩
        · exact ⟨-3, rfl, by decide, by decide, by decide⟩
        · exact ⟨1000000, rfl, by decide, by decide, by decide⟩
      have h3p := B3 p _ np.1 np.2 h2p
      (try ctx_has vcx true_and h3 ha)
      obtain ⟨ar, hva, har⟩ := hrf c hcm
      have hg := hgd c hcm
      have rp : ra ≠ p := ne_of_none hra hp
      refine ⟨⟨_, h3p⟩, by decide, fun tp htp => ⟨_, (Same.upd0 htp) _ _ h3p, by rw [List.length_map]; exact small1000 (by omega), ?_⟩⟩
      have pt : p ≠ tp := ne_of_none h3p htp
      have B3' := (B2.trans B3).new (o := .tup [.int a, .str c]) htp
      have B4 := B3'.put (o := .lst (as.map (fun x => V.ref x.1) ++ [.ref tp])) hp
      have D4 := (D3.new (o := .tup [.int a, .str c]) htp).put (o := .lst (as.map (fun x => V.ref x.1) ++ [.ref tp])) np.1 np.2
      have kt : ∀ b xs, H2 b = some (.tup xs) → upd (upd H3 tp (.tup [.int a, .str c])) p (.lst (as.map (fun x => V.ref x.1) ++ [.ref tp])) b = some (.tup xs) := fun b xs e => by
        rw [upd_ne (ne_of e h2p (by intro z; cases z))]
        exact (Same.upd0 htp) _ _ (B3.tup D2 e)
      have h4tp : upd (upd H3 tp (.tup [.int a, .str c])) p (.lst (as.map (fun x => V.ref x.1) ++ [.ref tp])) tp = some (.tup [.int a, .str c]) := by rw [upd_ne pt.symm]; exact upd_same
      have h4p : upd (upd H3 tp (.tup [.int a, .str c])) p (.lst (as.map (fun x => V.ref x.1) ++ [.ref tp])) p = some (.lst (as.map (fun x => V.ref x.1) ++ [.ref tp])) := upd_same
      have h4ra := B4 ra _ nra.1 nra.2 hra
      have h4ar := B4.tup D har
      generalize upd (upd H3 tp (.tup [.int a, .str c])) p (.lst (as.map (fun x => V.ref x.1) ++ [.ref tp])) = H4 at B4 D4 kt h4tp h4p h4ra h4ar ⊢
      have hne : (rm c).map (fun v => a * v) ≠ [] := by simp; exact hg.1
      refine ⟨kvs, h4ra, _, hva, ar, rfl, _, h4ar, fun D5 g5 => times_comp h4ar a0 a1 hg.2.1 g5 fun H5 s5 e5 => ⟨D5, rfl, _, e5, hne, fun m hm hmin => ⟨kvs, s5 _ _ h4ra, _, hva, ar, rfl, _, s5 _ _ h4ar, fun D6 g6 => times_comp (s5 _ _ h4ar) a0 a1 hg.2.1 g6 fun H6 s6 e6 => ⟨D6, rfl, _, e6, hne, fun M hM hmax => ?_⟩⟩⟩⟩
      have s46 := s5.trans s6
      obtain ⟨v1, hv1, em⟩ := List.mem_map.mp hm
      obtain ⟨v2, hv2, eM⟩ := List.mem_map.mp hM
      have b1 := hg.2.2 v1 hv1
      have b2 := hg.2.2 v2 hv2
      have hmb : -1000000000000 ≤ m := by rw [← em]; exact mul_low a0 a1 b1.1 b1.2
      have hMb : M ≤ 1000000000000 := by rw [← eM]; exact mul_high a0 a1 b2.1 b2.2
      have hmM := hmin M hM
      refine ⟨as ++ [(tp, a, c)], by rw [s46 _ _ h4p]; simp, fun x hx => ?_, ?_, fun x hx => ?_, by omega, by push_cast; omega, by push_cast; omega, s46 _ _ (kt _ _ h2q), D4.same s46, B4.same s46⟩
      · rcases List.mem_append.mp hx with z | z
        · exact s46 _ _ (kt _ _ (h2a x z))
        · rw [List.mem_singleton.mp z]; exact s46 _ _ h4tp
      · rw [List.take_add_one, hcx, List.map_append, hnm]; rfl
      · rcases List.mem_append.mp hx with z | z
        · exact hbd x z
        · rw [List.mem_singleton.mp z]; exact ⟨a0, a1, an⟩
    · rintro σ H2 ⟨as, lo, hig, v6, v7, rfl, h2p, h2a, hnm, hbd, hlh, hl0, hh0, h2q, D2, B2⟩
      have hil : ((cs.take 4).map V.str).length ≤ 4 := by simp; omega
      rw [List.take_of_length_le (Nat.le_of_eq (by simp) : (cs.take 4).length ≤ ((cs.take 4).map V.str).length)] at hnm
      (try ctx_has vcx true_and)
      refine ⟨d, l, lo, hig, rfl, D2, hlh, by omega, by omega, fun u b1 b2 H3 fu h3u D3 B3 => ?_⟩
      have h3p := B3 p _ np.1 np.2 h2p
      (try ctx_has vcx true_and h3u h3p)
      intro t ht
      have s4 := Same.upd0 (o := .tup (as.map fun x => V.ref x.1)) ht
      refine ⟨by decide, fun w hw => ?_⟩
      have s5 := s4.upd_new (o := .tup [.str "sum", .ref t, bV b1, bV b2]) hw
      have tw : t ≠ w := fun z => by rw [← z, upd_same] at hw; cases hw
      refine k w (as.map (·.2)) b1 b2 _ ?_ ⟨t, upd_same, as, by rw [upd_ne tw, upd_same], rfl, fun x hx => s5 _ _ (B3.tup D2 (h2a x hx))⟩ ?_ (fun x hx => ?_) (D3.same s5) ((B2.trans B3).same s5)
      · exact ((B2.trans B3).same s4).free (D3.same s4) hw
      · rw [List.map_map]; exact hnm
      · obtain ⟨y, hy, rfl⟩ := List.mem_map.mp hx
        exact hbd y hy
noncomputable def spRowsL : Sp := fun vs H Q _ => ∃ (d l sa pa : Addr) (cs : List Str) (ns : List Int), vs = [.ref d, .ref sa, .ref pa] ∧ DealAt H d l ∧ (pa ≠ d ∧ pa ≠ l) ∧ H sa = some (.tup (cs.map V.str)) ∧ H pa = some (.lst (ns.map V.int)) ∧ ns.length = 5 ∧ cs.length ≤ 12 ∧
  ∀ (p : Addr) (us : List V) (rows : List (List Int)) (H' : Hp), H p = none → H' p = some (.tup us) → RowsV H' us rows → rows.Nodup → (∀ r ∈ rows, r.length = cs.length) → rows.length ≤ 7 → DealAt H' d l → But d l H H' → Q (.ref p) H'
theorem draw_at {α : Type} {xs : List α} {r : Int} (r0 : 0 ≤ r) (r1 : r < (xs.length : Int)) (f : α → V) : ∃ x ∈ xs, atI (xs.map f) r = some (f x) := by
  obtain ⟨n, rfl⟩ := Int.eq_ofNat_of_zero_le r0
  have hn : n < xs.length := by omega
  exact ⟨xs[n], List.getElem_mem hn, atI_nat (by simp [hn])⟩
theorem ok__law_rows {P : Program} {w : World} {K : PySem.W.Frag} {mg : Str → Option Value} {base : Heap}  (T : Txt mg base) (L : FnL K mg "_law_rows" s__law_rows ["_law_deal_here", "_law_some_here", "_law_pool_here"]) (F_law_draw : Fn P w K mg base "_law_draw" 1 ["_law_deal_here", "_law_many"] (spDraw)) : Fn P w K mg base "_law_rows" 2 ["_law_deal_here", "_law_some_here", "_law_pool_here"] (spRowsL) := by
  have nd := sc__law_rows.nd
  refine L.ok sc__law_rows (fun vs H Q E h => ?_) (fun f cdv A outer s H vs Q E hr h => ?_)
  · obtain ⟨d, l, sa, pa, cs, ns, rfl, D, npa, hsa, hpa, hn5, hcl, k⟩ := h
    rfl
  · obtain ⟨d, l, sa, pa, cs, ns, rfl, D, npa, hsa, hpa, hn5, hcl, k⟩ := h
    have hu := hu_of hr
    refine ⟨_, (pss_cons (ps_set (i := 3) nd rfl (by first | exact Or.inl rfl | exact Or.inr rfl) (pe_lst pa_nil))
      (pss_cons (ps_for PassesOwn.never rfl (pi_range1 rfl T.b_range (pa_cons (pe_callF F_law_draw (hr.mono (by first | decide | omega)) rfl (pa_cons (pvM 0) (pa_cons pe_int pa_nil))) pa_nil)) (pg_name (i := 4) nd rfl (by first | exact Or.inl rfl | exact Or.inr rfl)) (pss_cons (ps_set (i := 5) nd rfl (by first | exact Or.inl rfl | exact Or.inr rfl) (pe_callTy call_tupL rfl T.b_tuple (show bootBuiltins "tuple" = some (.type "tuple") by decide +kernel) (pa_cons (pe_comp (N := ["_law_name", "_law_pool_here", "_law_deal_here"]) (nt := 1) (js := [2, 0]) rfl (compOk_of ["_law_deal_here", "_law_some_here", "_law_pool_here", "_law_rows_here", "_law_k", "_law_row"] (defScope s__law_rows).names rfl rfl rfl (by decide +kernel)) (pi_TK (K := K) rfl (pvM 1)) (fun _ _ _ _ _ _ => (pg_name (i := 0) (show List.Nodup [("_law_name" : Str), ("_law_pool_here" : Str), ("_law_deal_here" : Str)] by decide +kernel) rfl (Or.inl rfl))) (tgOk_name (by decide)) (fun _ _ _ _ _ _ => pts_nil) (fun _ _ _ _ _ _ => (pe_ix ix_L (pvM 1) (pe_callF F_law_draw (hr.mono (by first | decide | omega)) rfl (pa_cons (pvM 2) (pa_cons pe_int pa_nil))) (fun _ _ => rfl)))) pa_nil)))
      (pss_one (ps_if (pt_cmpR (op_notInLD (hu102 hr)) (pvM 5) (pvM 3) (by with_unfolding_all rfl)) (pss_one (ps_expr (pe_mL PySem.F.slot_list_append PySem.F.type_list_append ml_append (pvM 3) (pa_cons (pvM 5) pa_nil)))) pss_nil))))
      (pss_one (ps_ret (pe_callTy call_tupL rfl T.b_tuple (show bootBuiltins "tuple" = some (.type "tuple") by decide +kernel) (pa_cons (pvM 3) pa_nil)))))), ?_⟩
    (try ctx_has vcx true_and)
    refine ⟨by decide, fun g hg => ?_⟩
    have ng := D.ne hg
    refine draw_rd (D.new hg) (by decide) (by decide) fun n H1 n0 n1 D1 B1 => ⟨_, rfl, by omega, by omega, ?_⟩
    have B1' := ((But.refl H).new (o := .lst []) hg).trans B1
    refine for_g wlk_range (fun i σ H' => ∃ (us : List V) (rows : List (List Int)) (v4 v5 : Option V), σ = [some (.ref d), some (.ref sa), some (.ref pa), some (.ref g), v4, v5] ∧ H' g = some (.lst us) ∧ RowsV H' us rows ∧ rows.Nodup ∧ (∀ r ∈ rows, r.length = cs.length) ∧ rows.length ≤ i ∧ DealAt H' d l ∧ But d l H H')
      ⟨[], [], _, _, rfl, B1 g _ ng.1 ng.2 upd_same, RowsV.nil, by simp, by simp, by simp, D1, B1'⟩ (fun _ _ _ _ => True.intro) ?_ ?_
    · rintro i x σ H2 hi hx ⟨us, rows, v4, v5, rfl, h2, hrv, hnd, hrl, hlen, D2, B2⟩
      rw [rngV_length] at hi
      have h2s := (But.keepTI B2 D).tup _ _ hsa
      (try ctx_has vcx true_and h2s)
      intro q hq
      have nq := D2.ne hq
      refine comp_g wlk_tup (fun j ys H3 => ∃ vs : List Int, ys = vs.map V.int ∧ vs.length = j ∧ H3 q = some (.lst ys) ∧ (∀ b o, b ≠ d → b ≠ l → b ≠ q → H2 b = some o → H3 b = some o) ∧ DealAt H3 d l)
        ⟨[], rfl, rfl, upd_same, fun b o _ _ hb e => by rw [upd_ne hb]; exact e, D2.new hq⟩ (fun j ys H3 ⟨_, _, _, h, kk, _⟩ => .of (by
          obtain ⟨m', sd, n', xs', hd', hl', _⟩ := D2.ex
          exact kk sa _ (ne_of h2s hd' (by intro z; cases z)) (ne_of h2s hl' (by intro z; cases z)) (ne_of_none h2s hq) h2s)) ?_ ?_
      · rintro j y ys H3 hj hy ⟨vs, rfl, hvl, h3, k3, D3⟩
        rw [List.length_map] at hj
        (try ctx_has vcx true_and)
        refine draw_rd D3 (by decide) (by decide) fun r4 H4 r40 r41 D4 B4 => ?_
        have h4p := B4 pa _ npa.1 npa.2 (k3 pa _ npa.1 npa.2 (ne_of_none (B2 pa _ npa.1 npa.2 hpa) hq) (B2 pa _ npa.1 npa.2 hpa))
        obtain ⟨z, _, hz⟩ := draw_at (xs := ns) r40 (by omega) V.int
        refine ⟨r4, rfl, _, h4p, _, hz, B4 q _ nq.1 nq.2 h3, by rw [List.length_map]; exact small1000 (by omega), vs ++ [z], by simp, by simp; omega, upd_same, fun b o h1 h2 h3 e => by rw [upd_ne h3]; exact B4 b o h1 h2 (k3 b o h1 h2 h3 e), D4.put nq.1 nq.2⟩
      · rintro ys H3 ⟨vs, rfl, hvl, h3, k3, D3⟩
        rw [List.length_map] at hvl
        (try ctx_has vcx true_and h3)
        intro t ht
        have s4 : Same H3 (upd H3 t (.tup (vs.map V.int))) := Same.upd0 ht
        have B3 : But d l H2 H3 := fun b o h1 h2 e => k3 b o h1 h2 (ne_of_none e hq) e
        have B34 := (B2.trans B3).same s4
        have D4 := D3.same s4
        have h4g := s4 _ _ (B3 g _ ng.1 ng.2 h2)
        have hrv4 := hrv.keep fun a xs e => s4 _ _ ((But.keepTI B3 D2).tup _ _ e)
        refine rowL_notIn upd_same h4g hrv4 ⟨_, rfl, ?_⟩
        refine ite2 (fun hin => ?_) (fun hin => ?_)
        · have hni : vs ∉ rows := by simpa using hin
          have hk : ∀ a xs, upd H3 t (.tup (vs.map V.int)) a = some (.tup xs) → upd (upd H3 t (.tup (vs.map V.int))) g (.lst (us ++ [.ref t])) a = some (.tup xs) := fun a xs e => by rw [upd_ne (ne_of e h4g (by intro z; cases z))]; exact e
          refine ⟨⟨_, h4g⟩, us, h4g, by rw [hrv.length]; exact small1000 (by omega), us ++ [.ref t], upd_same, rows ++ [vs], (hrv4.keep hk).snoc (hk _ _ upd_same), List.nodup_append.mpr ⟨hnd, by simp, fun a ha b hb e => hni (by rw [List.mem_singleton.mp hb] at e; exact e ▸ ha)⟩, fun r hr => ?_, by simp; omega, D4.put ng.1 ng.2, B34.put hg⟩
          rcases List.mem_append.mp hr with z | z
          · exact hrl r z
          · rw [List.mem_singleton.mp z]; exact hvl
        · exact ⟨us, h4g, rows, hrv4, hnd, hrl, by omega, D4, B34⟩
    · rintro σ H2 ⟨us, rows, v4, v5, rfl, h2, hrv, hnd, hrl, hlen, D2, B2⟩
      rw [rngV_length] at hlen
      (try ctx_has vcx true_and h2)
      intro t ht
      have s3 : Same H2 (upd H2 t (.tup us)) := Same.upd0 ht
      exact k t us rows _ (B2.free D2 ht) upd_same (hrv.keep fun a xs e => s3 _ _ e) hnd hrl (by omega) (D2.same s3) (B2.same s3)
noncomputable def prodK (pool : List Int) (n : Nat) : List (Int × Int) := List.flatMap (fun s : Nat => pool.map fun v => ((s : Int), v)) (List.range n)
theorem prodK_succ (pool : List Int) (n : Nat) : prodK pool (n + 1) = prodK pool n ++ pool.map fun v => ((n : Int), v) := by
  unfold prodK
  rw [List.range_succ, List.flatMap_append]
  simp
theorem prodK_lt {pool : List Int} {n : Nat} {x : Int × Int} (h : x ∈ prodK pool n) : x.1 < (n : Int) := by
  unfold prodK at h
  obtain ⟨s, hs, hx⟩ := List.mem_flatMap.mp h
  obtain ⟨v, _, rfl⟩ := List.mem_map.mp hx
  have := List.mem_range.mp hs
  show (s : Int) < n
  omega
theorem prodK_nodup {pool : List Int} (h : pool.Nodup) : ∀ n, (prodK pool n).Nodup
  | 0 => by simp [prodK]
  | n + 1 => by
    rw [prodK_succ, List.nodup_append]
    refine ⟨prodK_nodup h n, List.pairwise_map.mpr (h.imp fun hne z => hne (by cases z; rfl)), fun a ha b hb e => ?_⟩
    subst e
    obtain ⟨v, _, rfl⟩ := List.mem_map.mp hb
    have := prodK_lt ha
    simp at this
theorem prodK_len (pool : List Int) : ∀ n, (prodK pool n).length = n * pool.length
  | 0 => by simp [prodK]
  | n + 1 => by rw [prodK_succ, List.length_append, prodK_len pool n, List.length_map, Nat.succ_mul]
noncomputable def keyOf (x : Addr × Int × Int × Int) : Int × Int := (x.2.1, x.2.2.1)
noncomputable def AsAt (H : Hp) (as : List (Addr × Int × Int × Int)) : Prop := ∀ x ∈ as, H x.1 = some (.tup [.int x.2.1, .int x.2.2.1, .int x.2.2.2])
noncomputable def spWay : Sp := fun vs H Q _ => ∃ (d l sa pa : Addr) (cs : List Str) (pool : List Int), vs = [.ref d, .ref sa, .ref pa] ∧ DealAt H d l ∧ H sa = some (.tup (cs.map V.str)) ∧ (pa ≠ d ∧ pa ≠ l) ∧ H pa = some (.lst (pool.map V.int)) ∧ pool.length = 5 ∧ pool.Nodup ∧
  ∀ (wa : Addr) (ps : List (Int × Int × Int)) (es : List Int) H', H wa = none → (ps.map fun x => (x.1, x.2.1)).Nodup → ps.length ≤ 60 → es.length ≤ 60 → WS H' wa (.wy cs ps es) → DealAt H' d l → But d l H H' → Q (.ref wa) H'
theorem ok__law_way {P : Program} {w : World} {K : PySem.W.Frag} {mg : Str → Option Value} {base : Heap}  (T : Txt mg base) (L : FnL K mg "_law_way" s__law_way ["_law_deal_here", "_law_some_here", "_law_pool_here"]) (F_law_draw : Fn P w K mg base "_law_draw" 1 ["_law_deal_here", "_law_many"] (spDraw)) : Fn P w K mg base "_law_way" 2 ["_law_deal_here", "_law_some_here", "_law_pool_here"] (spWay) := by
  have nd := sc__law_way.nd
  refine L.ok sc__law_way (fun vs H Q E h => ?_) (fun f cdv A outer s H vs Q E hr h => ?_)
  · obtain ⟨d, l, sa, pa, cs, pool, rfl, D, hsa, npa, hpa, hpl, hpn, k⟩ := h
    rfl
  · obtain ⟨d, l, sa, pa, cs, pool, rfl, D, hsa, npa, hpa, hpl, hpn, k⟩ := h
    have hu := hu_of hr
    refine ⟨_, (pss_cons (ps_set (i := 3) nd rfl (by first | exact Or.inl rfl | exact Or.inr rfl) (pe_op op_add pe_int (pe_callF F_law_draw (hr.mono (by first | decide | omega)) rfl (pa_cons (pvM 0) (pa_cons pe_int pa_nil)))))
      (pss_cons (ps_set (i := 4) nd rfl (by first | exact Or.inl rfl | exact Or.inr rfl) (pe_lst pa_nil))
      (pss_cons (ps_for PassesOwn.never rfl (pi_range1 rfl T.b_range (pa_cons (pvM 3) pa_nil)) (pg_name (i := 5) nd rfl (by first | exact Or.inl rfl | exact Or.inr rfl)) (pss_one (ps_for PassesOwn.never rfl (pi_LK (K := K) rfl (pvM 2)) (pg_name (i := 6) nd rfl (by first | exact Or.inl rfl | exact Or.inr rfl)) (pss_one (ps_if (pt_cmpR op_gt (pe_callF F_law_draw (hr.mono (by first | decide | omega)) rfl (pa_cons (pvM 0) (pa_cons pe_int pa_nil))) pe_int (nomark _)) (pss_one (ps_expr (pe_mL PySem.F.slot_list_append PySem.F.type_list_append ml_append (pvM 4) (pa_cons (pe_tup (pa_cons (pvM 5) (pa_cons (pvM 6) (pa_cons (pe_callF F_law_draw (hr.mono (by first | decide | omega)) rfl (pa_cons (pvM 0) (pa_cons (pvM 3) pa_nil))) pa_nil)))) pa_nil)))) pss_nil)))))
      (pss_cons (ps_setC (i := 7) (N := ["_law_state", "_law_deal_here"]) (nt := 1) (js := [0]) nd rfl (by first | exact Or.inl rfl | exact Or.inr rfl) rfl (compOk_of ["_law_deal_here", "_law_some_here", "_law_pool_here", "_law_many", "_law_steps", "_law_state", "_law_value", "_law_ends"] (defScope s__law_way).names rfl rfl rfl (by decide +kernel)) (pi_range1 rfl T.b_range (pa_cons (pvM 3) pa_nil)) (fun _ _ _ _ _ _ => (pg_name (i := 0) (show List.Nodup [("_law_state" : Str), ("_law_deal_here" : Str)] by decide +kernel) rfl (Or.inl rfl))) (tgOk_name (by decide)) (fun _ _ _ _ _ _ => pts_one (pt_cmpR op_eq (pe_callF F_law_draw (hr.mono (by first | decide | omega)) rfl (pa_cons (pvM 1) (pa_cons pe_int pa_nil))) pe_int (nomark _))) (fun _ _ _ _ _ _ => (pvM 0)))
      (pss_one (ps_ret (pe_tup (pa_cons pe_str (pa_cons (pvM 1) (pa_cons (pe_callTy call_tupL rfl T.b_tuple (show bootBuiltins "tuple" = some (.type "tuple") by decide +kernel) (pa_cons (pvM 4) pa_nil)) (pa_cons (pe_callTy call_tupL rfl T.b_tuple (show bootBuiltins "tuple" = some (.type "tuple") by decide +kernel) (pa_cons (pvM 7) pa_nil)) pa_nil))))))))))), ?_⟩
    (try ctx_has vcx true_and)
    refine draw_rd D (by decide) (by decide) fun r1 H1 r10 r11 D1 B1 => ?_
    (try ctx_has vcx true_and)
    refine ⟨by decide, fun p hp => ⟨by omega, by omega, ?_⟩⟩
    have np := D1.ne hp
    have hpH : H p = none := by
      cases e : H p with
      | none => rfl
      | some o => rw [B1 p o np.1 np.2 e] at hp; cases hp
    obtain ⟨n, hn⟩ : ∃ n : Nat, (1 + r1).toNat = n := ⟨_, rfl⟩
    have hn3 : n ≤ 3 := by omega
    rw [hn]
    refine for_g wlk_range (fun i σ H2 => ∃ as v5 v6, σ = [some (.ref d), some (.ref sa), some (.ref pa), some (.int (1 + r1)), some (.ref p), v5, v6, none] ∧ DealAt H2 d l ∧ But d l H H2 ∧ H2 p = some (.lst (as.map fun x => V.ref x.1)) ∧ AsAt H2 as ∧ (as.map keyOf).Sublist (prodK pool i)) ⟨[], _, _, rfl, D1.put np.1 np.2, B1.put hpH, upd_same, (fun x hx => by simp at hx), by simp⟩ (fun i σ H' h => True.intro) ?_ ?_
    · rintro i x σ H2 hi hx ⟨as, v5, v6, rfl, D2, B2, hpl2, hA, hsb⟩
      rw [rngV_length] at hi
      rw [rngV_get hi] at hx
      cases hx
      have hpa2 := B2 pa _ npa.1 npa.2 hpa
      (try ctx_has vcx true_and hpa2)
      refine for_g wlk_list (fun j σ H3 => ∃ as v6, σ = [some (.ref d), some (.ref sa), some (.ref pa), some (.int (1 + r1)), some (.ref p), some (.int (0 + (i : Int))), v6, none] ∧ DealAt H3 d l ∧ But d l H H3 ∧ H3 p = some (.lst (as.map fun x => V.ref x.1)) ∧ AsAt H3 as ∧ (as.map keyOf).Sublist (prodK pool i ++ (pool.take j).map fun v => ((i : Int), v))) ⟨as, _, rfl, D2, B2, hpl2, hA, by simpa using hsb⟩ (fun j σ H' zq49 => by obtain ⟨_, _, _, _, B, _⟩ := zq49; exact (.of (B pa _ npa.1 npa.2 hpa))) ?_ ?_
      · rintro j x σ H3 hj hx ⟨as, v6, rfl, D3, B3, hpl3, hA3, hsb3⟩
        obtain ⟨v, hv, rfl⟩ : ∃ v, pool[j]? = some v ∧ V.int v = x := by
          rw [List.getElem?_map] at hx
          cases e : pool[j]? with
          | none => rw [e] at hx; cases hx
          | some nm => rw [e] at hx; exact ⟨nm, rfl, Option.some.inj hx⟩
        (try ctx_has vcx true_and)
        refine draw_rd D3 (by decide) (by decide) fun r4 H4 r40 r41 D4 B4 => ?_
        (try ctx_has vcx true_and)
        have hpl4 := B4 p _ np.1 np.2 hpl3
        have hA4 : AsAt H4 as := fun x hx => (But.keepTI B4 D3).tup _ _ (hA3 x hx)
        have ek : pool.take (j + 1) = pool.take j ++ [v] := by rw [List.take_add_one, hv]; rfl
        have hln : (as.map fun x => V.ref x.1).length < sizeLine := by
          have h1 := hsb3.length_le
          rw [List.length_map, List.length_append, prodK_len, hpl, List.length_map] at h1
          have h2 : (pool.take j).length ≤ 5 := by rw [← hpl]; exact List.length_take_le' _ _
          exact Nat.lt_of_lt_of_le (show (as.map fun x => V.ref x.1).length < 1000 by rw [List.length_map]; omega) (by decide)
        refine ite2 (fun h => ?_) (fun h => ?_)
        · refine ⟨⟨_, hpl4⟩, draw_rd D4 (by omega) (by omega) fun r5 H5 r50 r51 D5 B5 => ⟨by decide, fun tp htp => ?_⟩⟩
          have hpl5 := B5 p _ np.1 np.2 hpl4
          have hA5 : AsAt H5 as := fun x hx => (But.keepTI B5 D4).tup _ _ (hA4 x hx)
          refine ⟨_, (Same.upd0 htp) _ _ hpl5, hln, (D5.new htp).put np.1 np.2, (((B3.trans B4).trans B5).new htp).put hpH, as ++ [(tp, (i : Int), v, r5)], by rw [upd_same]; simp, fun x hx => ?_, ?_⟩
          · rcases List.mem_append.mp hx with hx | hx
            · rw [upd_ne (ne_of (hA5 x hx) hpl5 (by intro z; cases z))]
              exact (Same.upd0 htp) _ _ (hA5 x hx)
            · rw [List.mem_singleton.mp hx]
              show upd (upd H5 tp _) p _ tp = _
              rw [upd_ne (Ne.symm (ne_of_none hpl5 htp)), upd_same, Int.zero_add]
          · rw [ek, List.map_append, List.map_append, ← List.append_assoc]
            exact hsb3.append (List.Sublist.refl _)
        · refine ⟨D4, B3.trans B4, as, hpl4, hA4, hsb3.trans ?_⟩
          rw [ek, List.map_append, ← List.append_assoc]
          exact List.sublist_append_left _ _
      · rintro σ H3 ⟨as, v6, rfl, D3, B3, hpl3, hA3, hsb3⟩
        rw [List.length_map, List.take_length] at hsb3
        exact ⟨as, _, _, rfl, D3, B3, hpl3, hA3, by rw [prodK_succ]; exact hsb3⟩
    · rintro σ H2 ⟨as, v5, v6, rfl, D2, B2, hpl2, hA, hsb⟩
      rw [rngV_length] at hsb
      (try ctx_has vcx true_and)
      refine ⟨by omega, by omega, fun Dd hDd => ?_⟩
      have nD := D2.ne hDd
      rw [hn]
      refine comp_g wlk_range (fun i ys H' => ∃ zs : List Int, ys = zs.map V.int ∧ zs.length ≤ i ∧ DealAt H' d l ∧ But d l H2 H' ∧ H' Dd = some (.lst ys)) ⟨[], rfl, by simp, D2.new hDd, (But.refl H2).new hDd, upd_same⟩ (fun i ys H' h => True.intro) ?_ ?_
      · rintro i x ys H3 hi hx ⟨zs, rfl, hzl, D3, B3, hd3⟩
        rw [rngV_length] at hi
        rw [rngV_get hi] at hx
        cases hx
        (try ctx_has vcx true_and)
        refine draw_rd D3 (by decide) (by decide) fun r4 H4 r40 r41 D4 B4 => ?_
        (try ctx_has vcx true_and)
        have hd4 := B4 Dd _ nD.1 nD.2 hd3
        refine ite2 (fun h => ?_) (fun h => ?_)
        · exact ⟨hd4, Nat.lt_of_lt_of_le (show (zs.map V.int).length < 1000 by rw [List.length_map]; omega) (by decide), zs ++ [0 + (i : Int)], by simp, by simp; omega, D4.put nD.1 nD.2, (B3.trans B4).put hDd, upd_same⟩
        · exact ⟨zs, rfl, by omega, D4, B3.trans B4, hd4⟩
      · rintro ys H3 ⟨zs, rfl, hzl, D3, B3, hd3⟩
        rw [rngV_length] at hzl
        have hp3 := B3 p _ np.1 np.2 hpl2
        refine ⟨_, hp3, fun l1 g1 => ⟨Dd, rfl, _, (Same.upd0 g1) _ _ hd3, fun l2 g2 => ⟨by decide, fun wa g3 => ?_⟩⟩⟩
        have s4 : Same H3 (upd (upd (upd H3 l1 (.tup (as.map fun x => V.ref x.1))) l2 (.tup (zs.map V.int))) wa (.tup [.str "way", .ref sa, .ref l1, .ref l2])) := ((Same.upd0 g1).upd_new g2).upd_new g3
        have B4 := (B2.trans B3).same s4
        have hwl := ((D3.new g1).new g2).ne g3
        have B03 := B2.trans B3
        have hsl := hsb.length_le
        rw [List.length_map, prodK_len, hpl] at hsl
        have e12 : l1 ≠ l2 := fun z => by rw [z, upd_same] at g2; cases g2
        have e1w : l1 ≠ wa := fun z => by rw [← z, upd_ne e12, upd_same] at g3; cases g3
        have e2w : l2 ≠ wa := fun z => by rw [← z, upd_same] at g3; cases g3
        have hA3 : AsAt H3 as := fun x hx => (But.keepTI B3 D2).tup _ _ (hA x hx)
        refine k wa (as.map (·.2)) zs _ ?_ ?_ (by show (as.map (·.2)).length ≤ 60; rw [List.length_map]; omega) (by show zs.length ≤ 60; omega) ⟨sa, l1, l2, _, upd_same, s4 _ _ ((But.keepTI B03 D).tup _ _ hsa), by rw [upd_ne e1w, upd_ne e12]; exact upd_same, ⟨as, rfl, rfl, fun x hx => s4 _ _ (hA3 x hx)⟩, by rw [upd_ne e2w]; exact upd_same⟩ (D3.same s4) B4
        · cases e : H wa with
          | none => rfl
          | some o =>
            have z := ((Same.upd0 (o := .tup (as.map fun x => V.ref x.1)) g1).upd_new (o := .tup (zs.map V.int)) g2) _ _ (B03 wa o hwl.1 hwl.2 e)
            rw [z] at g3
            cases g3
        · show ((as.map (·.2)).map fun x => (x.1, x.2.1)).Nodup
          rw [List.map_map]
          exact (prodK_nodup hpn n).sublist hsb
noncomputable def sortsL (h : Bool) : List Str := ("unlike" : Str) :: "many" :: "sum" :: "table" :: "way" :: "behind" :: (if h then [("same" : Str)] else [])
theorem sortsL_len (h : Bool) : 6 ≤ (sortsL h).length ∧ (sortsL h).length ≤ 7 := by cases h <;> exact ⟨by decide, by decide⟩
theorem eq_nil_strs (ns : List Str) : PyData.eqv (.list (ns.map PyData.str)) (.list []) = decide (ns = []) := by
  cases ns with
  | nil => rfl
  | cons n ns => simp [PyData.eqv, PyData.eqvAll]
noncomputable def okC (ws cs : List Str) : Prop := cs ≠ [] ∧ cs.Nodup ∧ (∀ c ∈ cs, c ∈ ws) ∧ cs.length ≤ 12
noncomputable def okV (ns vs : List Int) : Prop := vs.Nodup ∧ (∀ v ∈ vs, v ∈ ns) ∧ vs.length ≤ 20
noncomputable def okW (ws : List Str) (ns : List Int) : Wi → Prop
  | .un cs => okC ws cs
  | .mn av cs _ _ => okC ws cs ∧ okV ns av
  | .sm ts _ _ => okC ws (ts.map (·.2)) ∧ ∀ x ∈ ts, -1000000 ≤ x.1 ∧ x.1 ≤ 1000000 ∧ x.1 ≠ 0
  | .tb cs rows => okC ws cs ∧ rows.Nodup ∧ (∀ r ∈ rows, r.length = cs.length) ∧ rows.length ≤ 7
  | .wy cs ps es => okC ws cs ∧ (ps.map fun x => (x.1, x.2.1)).Nodup ∧ ps.length ≤ 60 ∧ es.length ≤ 60
  | .bh cs _ => okC ws cs
noncomputable def okX (ws : List Str) (ns : List Int) : Wx → Prop
  | .pl W => okW ws ns W
  | .sa c vs W => c ∈ ws ∧ okV ns vs ∧ okW ws ns W ∧ c ∉ cellsW W
theorem okW_mono {ws ws' : List Str} {ns : List Int} (h : ∀ c ∈ ws, c ∈ ws') : ∀ {W : Wi}, okW ws ns W → okW ws' ns W
  | .un _, ⟨a, b, c, d⟩ => ⟨a, b, fun x hx => h x (c x hx), d⟩
  | .mn _ _ _ _, ⟨⟨a, b, c, d⟩, r⟩ => ⟨⟨a, b, fun x hx => h x (c x hx), d⟩, r⟩
  | .sm _ _ _, ⟨⟨a, b, c, d⟩, r⟩ => ⟨⟨a, b, fun x hx => h x (c x hx), d⟩, r⟩
  | .tb _ _, ⟨⟨a, b, c, d⟩, r⟩ => ⟨⟨a, b, fun x hx => h x (c x hx), d⟩, r⟩
  | .wy _ _ _, ⟨⟨a, b, c, d⟩, r⟩ => ⟨⟨a, b, fun x hx => h x (c x hx), d⟩, r⟩
  | .bh _ _, ⟨a, b, c, d⟩ => ⟨a, b, fun x hx => h x (c x hx), d⟩
theorem okW_cells {ws : List Str} {ns : List Int} : ∀ {W : Wi}, okW ws ns W → ∀ c ∈ cellsW W, c ∈ ws
  | .un _, ⟨_, _, c, _⟩ => c
  | .mn _ _ _ _, ⟨⟨_, _, c, _⟩, _⟩ => c
  | .sm _ _ _, ⟨⟨_, _, c, _⟩, _⟩ => c
  | .tb _ _, ⟨⟨_, _, c, _⟩, _⟩ => c
  | .wy _ _ _, ⟨⟨_, _, c, _⟩, _⟩ => c
  | .bh _ _, ⟨_, _, c, _⟩ => c
theorem okW_sz {ws : List Str} {ns : List Int} : ∀ {W : Wi}, okW ws ns W → szW W
  | .un _, ⟨_, _, _, d⟩ => d
  | .mn _ _ _ _, ⟨⟨_, _, _, d⟩, _, _, e⟩ => ⟨e, d⟩
  | .sm ts _ _, ⟨⟨_, _, _, d⟩, _⟩ => by simpa [szW] using d
  | .tb _ _, ⟨⟨_, _, _, d⟩, _⟩ => d
  | .wy _ _ _, ⟨⟨_, _, _, d⟩, e, f, _⟩ => ⟨d, e, f⟩
  | .bh _ _, ⟨a, _, _, d⟩ => ⟨a, d⟩
theorem okX_sz {ws : List Str} {ns : List Int} : ∀ {W : Wx}, okX ws ns W → szX W
  | .pl _, h => okW_sz h
  | .sa _ _ _, h => okW_sz h.2.2.1
theorem okX_cells {ws : List Str} {ns : List Int} : ∀ {W : Wx}, okX ws ns W → ∀ c ∈ cellsX W, c ∈ ws
  | .pl _, h => okW_cells h
  | .sa _ _ _, h => fun c hc => by
    rcases List.mem_cons.mp hc with rfl | z
    · exact h.1
    · exact okW_cells h.2.2.1 c z
structure FromAt (H : Hp) (d l a ra pa : Addr) (ws : List Str) (ns : List Int) (kvs : List (Key × V)) (rm : Str → List Int) : Prop where
  D : DealAt H d l
  na : a ≠ d ∧ a ≠ l
  nr : ra ≠ d ∧ ra ≠ l
  np : pa ≠ d ∧ pa ≠ l
  ha : H a = some (.lst (ws.map V.str))
  hr : H ra = some (.dK kvs)
  hp : H pa = some (.lst (ns.map V.int))
  rf : RoomsFor H kvs ws rm
  wn : ws ≠ []
  nd : ws.Nodup
  wl : ws.length ≤ 12
  n5 : ns.length = 5
  nn : ns.Nodup
  nm : ∀ c ∈ ws, IsNm c
  gd : ∀ c ∈ ws, rm c ≠ [] ∧ (rm c).length ≤ 20 ∧ ∀ v ∈ rm c, -1000000 ≤ v ∧ v ≤ 1000000
theorem FromAt.but {H H' : Hp} {d l a ra pa : Addr} {ws : List Str} {ns : List Int} {kvs : List (Key × V)} {rm : Str → List Int} (F : FromAt H d l a ra pa ws ns kvs rm) (D : DealAt H' d l) (B : But d l H H') : FromAt H' d l a ra pa ws ns kvs rm :=
  ⟨D, F.na, F.nr, F.np, B _ _ F.na.1 F.na.2 F.ha, B _ _ F.nr.1 F.nr.2 F.hr, B _ _ F.np.1 F.np.2 F.hp, F.rf.same fun x vs e => B.tup F.D e, F.wn, F.nd, F.wl, F.n5, F.nn, F.nm, F.gd⟩
theorem FromAt.same {H H' : Hp} {d l a ra pa : Addr} {ws : List Str} {ns : List Int} {kvs : List (Key × V)} {rm : Str → List Int} (F : FromAt H d l a ra pa ws ns kvs rm) (s : Same H H') : FromAt H' d l a ra pa ws ns kvs rm :=
  F.but (F.D.same s) ((But.refl H).same s)
noncomputable def spWishL (h : Bool) : Sp := fun vs H Q _ => ∃ (d l a ra pa so : Addr) (ws : List Str) (ns : List Int) (kvs : List (Key × V)) (rm : Str → List Int), vs = [.ref d, .ref a, .ref ra, .ref pa, .ref so] ∧ FromAt H d l a ra pa ws ns kvs rm ∧ (so ≠ d ∧ so ≠ l) ∧ H so = some (.lst ((sortsL h).map V.str)) ∧
  ∀ (w : Addr) (W : Wx) (H' : Hp), WX H' w W → okX ws ns W → (h = false → ∃ W0, W = .pl W0) → DealAt H' d l → But d l H H' → Q (.ref w) H'
noncomputable def spWish0 (h : Bool) : Sp := if h then spWishL false else fun _ _ _ _ => False
theorem sorts_cases {h : Bool} {s : Str} (hs : s ∈ sortsL h) : s = "unlike" ∨ s = "many" ∨ s = "sum" ∨ s = "table" ∨ s = "way" ∨ s = "behind" ∨ (h = true ∧ s = "same") := by
  unfold sortsL at hs
  cases h
  · simpa using hs
  · simpa using hs
theorem okC_of {ws cs zs : List Str} (hp : (cs ++ zs).Perm ws) (h1 : 1 ≤ cs.length) (nd : ws.Nodup) (wl : ws.length ≤ 12) : okC ws cs := by
  have hn := hp.nodup_iff.mpr nd
  refine ⟨fun e => by rw [e] at h1; simp at h1, (List.nodup_append.mp hn).1, fun c hc => hp.mem_iff.mp (List.mem_append_left _ hc), ?_⟩
  have := hp.length_eq
  rw [List.length_append] at this
  omega
theorem okV_of {ns vs zs : List Int} (hp : (vs ++ zs).Perm ns) (nd : ns.Nodup) (nl : ns.length = 5) : okV ns vs := by
  have hn := hp.nodup_iff.mpr nd
  refine ⟨(List.nodup_append.mp hn).1, fun c hc => hp.mem_iff.mp (List.mem_append_left _ hc), ?_⟩
  have := hp.length_eq
  rw [List.length_append] at this
  omega
theorem ok__law_wish {P : Program} {w : World} {K : PySem.W.Frag} {mg : Str → Option Value} {base : Heap} {n : Nat} {h : Bool} (T : Txt mg base) (L : FnL K mg "_law_wish" s__law_wish ["_law_deal_here", "_law_names_here", "_law_rooms_here", "_law_pool_here", "_law_sorts"]) (F_law_draw : Fn P w K mg base "_law_draw" 1 ["_law_deal_here", "_law_many"] (spDraw)) (F_law_some : Fn P w K mg base "_law_some" 2 ["_law_deal_here", "_law_things", "_law_least"] (spSome)) (F_law_sum : Fn P w K mg base "_law_sum" 3 ["_law_deal_here", "_law_some_here", "_law_rooms_here"] (spSumL)) (F_law_rows : Fn P w K mg base "_law_rows" 2 ["_law_deal_here", "_law_some_here", "_law_pool_here"] (spRowsL)) (F_law_way : Fn P w K mg base "_law_way" 2 ["_law_deal_here", "_law_some_here", "_law_pool_here"] (spWay)) (F_law_wish : Fn P w K mg base "_law_wish" (n + 1) ["_law_deal_here", "_law_names_here", "_law_rooms_here", "_law_pool_here", "_law_sorts"] (spWish0 h)) : Fn P w K mg base "_law_wish" (n + 5) ["_law_deal_here", "_law_names_here", "_law_rooms_here", "_law_pool_here", "_law_sorts"] (spWishL h) := by
  have nd := sc__law_wish.nd
  refine L.ok sc__law_wish (fun vs H Q E h => ?_) (fun f cdv A outer s H vs Q E hr h => ?_)
  · obtain ⟨d, l, a, ra, pa, so, ws, ns, kvs, rm, rfl, M, nso, hso, k⟩ := h
    rfl
  · obtain ⟨d, l, a, ra, pa, so, ws, ns, kvs, rm, rfl, M, nso, hso, k⟩ := h
    have hu := hu_of hr
    refine ⟨_, (pss_cons (ps_set (i := 5) nd rfl (by first | exact Or.inl rfl | exact Or.inr rfl) (pe_ix ix_L (pvM 4) (pe_callF F_law_draw (hr.mono (by first | decide | omega)) rfl (pa_cons (pvM 0) (pa_cons (pe_callB call_lenL rfl T.b_len PySem.boot_len (pa_cons (pvM 4) pa_nil)) pa_nil))) (fun _ _ => rfl)))
      (pss_cons (ps_set (i := 6) nd rfl (by first | exact Or.inl rfl | exact Or.inr rfl) (pe_callF F_law_some (hr.mono (by first | decide | omega)) rfl (pa_cons (pvM 0) (pa_cons (pvM 1) (pa_cons (pe_callB (call_min2 rfl) rfl T.b_min (show bootBuiltins "min" = some (.builtin "min") by decide +kernel) (pa_cons (pe_callB call_lenL rfl T.b_len PySem.boot_len (pa_cons (pvM 1) pa_nil)) (pa_cons (pe_op op_add pe_int (pe_callTy call_int1 rfl T.b_int (show bootBuiltins "int" = some (.type "int") by decide +kernel) (pa_cons (pe_cmpR op_eq (pvM 5) pe_str (nomark _)) pa_nil))) pa_nil))) pa_nil)))))
      (pss_cons (ps_if (pt_cmpR op_eq (pvM 5) pe_str (nomark _)) (pss_one (ps_ret (pe_tup (pa_cons pe_str (pa_cons (pvM 6) pa_nil))))) pss_nil)
      (pss_cons (ps_if (pt_cmpR op_eq (pvM 5) pe_str (nomark _)) (pss_cons (ps_set (i := 7) nd rfl (by first | exact Or.inl rfl | exact Or.inr rfl) (pe_callF F_law_draw (hr.mono (by first | decide | omega)) rfl (pa_cons (pvM 0) (pa_cons (pe_op op_add (pe_callB call_lenT rfl T.b_len PySem.boot_len (pa_cons (pvM 6) pa_nil)) pe_int) pa_nil))))
      (pss_one (ps_ret (pe_tup (pa_cons pe_str (pa_cons (pe_callF F_law_some (hr.mono (by first | decide | omega)) rfl (pa_cons (pvM 0) (pa_cons (pvM 3) (pa_cons pe_int pa_nil)))) (pa_cons (pvM 6) (pa_cons (pvM 7) (pa_cons (pe_op op_add (pvM 7) (pe_callF F_law_draw (hr.mono (by first | decide | omega)) rfl (pa_cons (pvM 0) (pa_cons (pe_op op_add (pe_op op_sub (pe_callB call_lenT rfl T.b_len PySem.boot_len (pa_cons (pvM 6) pa_nil)) (pvM 7)) pe_int) pa_nil)))) pa_nil))))))))) pss_nil)
      (pss_cons (ps_if (pt_cmpR op_eq (pvM 5) pe_str (nomark _)) (pss_one (ps_ret (pe_callF F_law_sum (hr.mono (by first | decide | omega)) rfl (pa_cons (pvM 0) (pa_cons (pvM 6) (pa_cons (pvM 2) pa_nil)))))) pss_nil)
      (pss_cons (ps_if (pt_cmpR op_eq (pvM 5) pe_str (nomark _)) (pss_one (ps_ret (pe_tup (pa_cons pe_str (pa_cons (pvM 6) (pa_cons (pe_callF F_law_rows (hr.mono (by first | decide | omega)) rfl (pa_cons (pvM 0) (pa_cons (pvM 6) (pa_cons (pvM 3) pa_nil)))) pa_nil)))))) pss_nil)
      (pss_cons (ps_if (pt_cmpR op_eq (pvM 5) pe_str (nomark _)) (pss_one (ps_ret (pe_callF F_law_way (hr.mono (by first | decide | omega)) rfl (pa_cons (pvM 0) (pa_cons (pvM 6) (pa_cons (pvM 3) pa_nil)))))) pss_nil)
      (pss_cons (ps_if (pt_cmpR op_eq (pvM 5) pe_str (nomark _)) (pss_one (ps_ret (pe_tup (pa_cons pe_str (pa_cons (pvM 6) (pa_cons (pe_ix ix_L (pe_lst (pa_cons pe_int (pa_cons pe_int (pa_cons (pe_un un_neg pe_int) (pa_cons pe_int (pa_cons pe_int pa_nil)))))) (pe_callF F_law_draw (hr.mono (by first | decide | omega)) rfl (pa_cons (pvM 0) (pa_cons pe_int pa_nil))) (fun _ _ => rfl)) pa_nil)))))) pss_nil)
      (pss_cons (ps_setC (i := 8) (N := ["_law_name", "_law_some_here"]) (nt := 1) (js := [6]) nd rfl (by first | exact Or.inl rfl | exact Or.inr rfl) rfl (compOk_of ["_law_deal_here", "_law_names_here", "_law_rooms_here", "_law_pool_here", "_law_sorts", "_law_sort", "_law_some_here", "_law_low", "_law_rest", "_law_inner"] (defScope s__law_wish).names rfl rfl rfl (by decide +kernel)) (pi_LK (K := K) rfl (pvM 1)) (fun _ _ _ _ _ _ => (pg_name (i := 0) (show List.Nodup [("_law_name" : Str), ("_law_some_here" : Str)] by decide +kernel) rfl (Or.inl rfl))) (tgOk_name (by decide)) (fun _ _ _ _ _ _ => pts_one (pt_cmpR op_ne (pvM 0) (pe_ix ix_T (pvM 1) pe_int (fun _ _ => rfl)) (nomark _))) (fun _ _ _ _ _ _ => (pvM 0)))
      (pss_cons (ps_if (pt_cmpR (op_eqD (hu100 hr)) (pvM 8) (pe_lst pa_nil) (nomark _)) (pss_one (ps_ret (pe_tup (pa_cons pe_str (pa_cons (pvM 6) pa_nil))))) pss_nil)
      (pss_cons (ps_set (i := 9) nd rfl (by first | exact Or.inl rfl | exact Or.inr rfl) (pe_callF F_law_wish (hr.mono (by first | decide | omega)) rfl (pa_cons (pvM 0) (pa_cons (pvM 8) (pa_cons (pvM 2) (pa_cons (pvM 3) (pa_cons (pe_lst (pa_cons pe_str (pa_cons pe_str (pa_cons pe_str (pa_cons pe_str (pa_cons pe_str (pa_cons pe_str pa_nil))))))) pa_nil)))))))
      (pss_one (ps_ret (pe_tup (pa_cons pe_str (pa_cons (pe_ix ix_T (pvM 6) pe_int (fun _ _ => rfl)) (pa_cons (pe_callF F_law_some (hr.mono (by first | decide | omega)) rfl (pa_cons (pvM 0) (pa_cons (pvM 3) (pa_cons pe_int pa_nil)))) (pa_cons (pvM 9) pa_nil)))))))))))))))))), ?_⟩
    (try ctx_has vcx true_and hso)
    have hsl := sortsL_len h
    refine draw_rd M.D (by rw [List.length_map]; omega) (by rw [List.length_map]; omega) fun r H1 r0 r1 D1 B1 => ?_
    rw [List.length_map] at r1
    obtain ⟨s, hs, hsr⟩ := draw_at (xs := sortsL h) r0 r1 V.str
    have h1so := B1 so _ nso.1 nso.2 hso
    have M1 := M.but D1 B1
    have h1a := M1.ha
    have w1 := List.length_pos_iff.mpr M.wn
    have wl := M.wl
    have n5 := M.n5
    (try ctx_has vcx true_and h1so hsr h1a)
    obtain ⟨m, hm, m1, m2⟩ : ∃ m : Int, (if (1 + if s = Str.ofString "unlike" then 1 else 0) < ((ws.map V.str).length : Int) then 1 + (if s = Str.ofString "unlike" then 1 else 0) else ((ws.map V.str).length : Int)) = m ∧ 1 ≤ m ∧ m ≤ ws.length := by
      refine ⟨_, rfl, ?_⟩
      rw [List.length_map]
      split <;> split <;> constructor <;> omega
    rw [hm]
    refine ⟨d, l, a, m, ws.map V.str, rfl, D1, .inl h1a, by omega, by rw [List.length_map]; omega, by rw [List.length_map]; omega, fun sa got rest H2 fsa hpm hgl h2sa D2 B2 => ?_⟩
    obtain ⟨cs, zs, rfl, hperm⟩ := perm_inv V.str invS (fun _ => rfl) hpm
    rw [List.length_map] at hgl
    have okc : okC ws cs := okC_of hperm (by omega) M.nd M.wl
    have M2 := M1.but D2 B2
    have B02 := B1.trans B2
    have cl := okc.2.2.2
    rcases sorts_cases hs with rfl | rfl | rfl | rfl | rfl | rfl | ⟨rfl, rfl⟩
    · (try ctx_has vcx true_and)
      refine ⟨by decide, fun w hw => k w (.pl (.un cs)) _ ⟨sa, upd_same, (Same.upd0 hw) _ _ h2sa⟩ okc (fun _ => ⟨_, rfl⟩) (D2.new hw) (B02.new hw)⟩
    · (try ctx_has vcx true_and h2sa)
      rw [List.length_map]
      refine draw_rd D2 (by omega) (by omega) fun r3 H3 r30 r31 D3 B3 => ?_
      have M3 := M2.but D3 B3
      refine ⟨d, l, pa, 0, ns.map V.int, rfl, D3, .inl M3.hp, by decide, by rw [List.length_map]; omega, by rw [List.length_map]; omega, fun q got rest H4 fq hpm4 _ h4q D4 B4 => ?_⟩
      obtain ⟨av, zv, rfl, hpv⟩ := perm_inv V.int invI (fun _ => rfl) hpm4
      have h4sa := B4.tup D3 (B3.tup D2 h2sa)
      (try ctx_has vcx true_and h4sa)
      rw [List.length_map]
      refine draw_rd D4 (by omega) (by omega) fun r5 H5 r50 r51 D5 B5 => ?_
      (try ctx_has vcx true_and)
      refine ⟨by decide, fun w hw => k w (.pl (.mn av cs r3 (r3 + r5))) _ ⟨q, sa, upd_same, (Same.upd0 hw) _ _ (B5.tup D4 h4q), (Same.upd0 hw) _ _ (B5.tup D4 h4sa)⟩ ⟨okc, okV_of hpv M.nn M.n5⟩ (fun _ => ⟨_, rfl⟩) (D5.new hw) ((((B02.trans B3).trans B4).trans B5).new hw)⟩
    · (try ctx_has vcx true_and)
      refine ⟨d, l, sa, ra, cs, kvs, rm, rfl, D2, M.nr, h2sa, M2.hr, fun c hc => M2.rf c (okc.2.2.1 c hc), cl, fun c hc => M.gd c (okc.2.2.1 c hc), fun w ts lo hi H3 fw hW hts hb D3 B3 => ?_⟩
      refine k w (.pl (.sm ts lo hi)) H3 hW ⟨?_, hb⟩ (fun _ => ⟨_, rfl⟩) D3 (B02.trans B3)
      rw [hts]
      refine ⟨?_, okc.2.1.sublist (List.take_sublist _ _), fun c hc => okc.2.2.1 c (List.mem_of_mem_take hc), by simp; omega⟩
      intro e
      have := okc.1
      cases cs with
      | nil => exact this rfl
      | cons x xs => simp at e
    · (try ctx_has vcx true_and)
      refine ⟨d, l, sa, pa, cs, ns, rfl, D2, M.np, h2sa, M2.hp, M.n5, cl, fun p us rows H3 fp h3p hrv hnd hrl hlen D3 B3 => ⟨by decide, fun w hw => ?_⟩⟩
      have s4 := Same.upd0 (o := .tup [.str "table", .ref sa, .ref p]) hw
      exact k w (.pl (.tb cs rows)) _ ⟨sa, p, us, upd_same, s4 _ _ (B3.tup D2 h2sa), s4 _ _ h3p, hrv.keep fun b xs e => s4 _ _ e⟩ ⟨okc, hnd, hrl, hlen⟩ (fun _ => ⟨_, rfl⟩) (D3.same s4) ((B02.trans B3).same s4)
    · (try ctx_has vcx true_and)
      exact ⟨d, l, sa, pa, cs, ns, rfl, D2, h2sa, M.np, M2.hp, M.n5, M.nn, fun wa ps es H3 fw hnd hpl hel hW D3 B3 => k wa (.pl (.wy cs ps es)) H3 hW ⟨okc, hnd, hpl, hel⟩ (fun _ => ⟨_, rfl⟩) D3 (B02.trans B3)⟩
    · (try ctx_has vcx true_and)
      refine ⟨by decide, fun t ht => draw_of D2 ht (by decide) (by decide) rfl fun r3 v H3 hv ha3 D3 B3 h3 => ?_⟩
      obtain ⟨gap, rfl⟩ : ∃ gap : Int, v = .int gap := by
        simp only [List.mem_cons, List.not_mem_nil, or_false] at hv
        rcases hv with rfl | rfl | rfl | rfl | rfl
        · exact ⟨_, rfl⟩
        · exact ⟨_, rfl⟩
        · exact ⟨_, rfl⟩
        · exact ⟨_, rfl⟩
        · exact ⟨_, rfl⟩
      (try ctx_has vcx true_and h3 ha3)
      refine ⟨by decide, fun w hw => ?_⟩
      have s4 := Same.upd0 (o := .tup [.str "behind", .ref sa, .int gap]) hw
      exact k w (.pl (.bh cs gap)) _ ⟨sa, upd_same, s4 _ _ (B3.tup D2 h2sa)⟩ okc (fun _ => ⟨_, rfl⟩) (D3.same s4) ((B02.trans B3).same s4)
    · have h2a := M2.ha
      obtain ⟨c0, cr, hce⟩ : ∃ c0 cr, cs = c0 :: cr := by
        cases cs with
        | nil => exact absurd rfl okc.1
        | cons x xs => exact ⟨x, xs, rfl⟩
      have e0 : atI (cs.map V.str) 0 = some (.str c0) := by rw [hce]; exact atI_nat (j := 0) (by simp)
      have hc0 : c0 ∈ cs := by rw [hce]; exact List.mem_cons_self
      (try ctx_has vcx true_and h2a)
      intro R hR
      have nR := D2.ne hR
      refine comp_filterS wlk_list (fun v => match v with | .str c => !decide (c = c0) | _ => false) id hR (fun H' s => .of (s _ _ h2a)) (by simp; omega) ?_ ?_ ?_
      · intro x H3 Q3 hx sm q3
        obtain ⟨y, hy, rfl⟩ := List.mem_map.mp hx
        have e1 := sm _ _ h2sa
        (try ctx_has vcx true_and e1 e0)
        exact q3 H3 (Same.refl _)
      · intro x H3 Q3 hx _ sm q3
        (try ctx_has vcx true_and)
        exact q3 H3 (Same.refl _)
      · intro H3 sm h3
        obtain ⟨rs, hrs⟩ : ∃ rs, ws.filter (fun c => !decide (c = c0)) = rs := ⟨_, rfl⟩
        have h3R : H3 R = some (.lst (rs.map V.str)) := by rw [h3, List.map_id, List.filter_map, ← hrs]; rfl
        have rsm : ∀ c ∈ rs, c ∈ ws ∧ c ≠ c0 := fun c hc => by
          rw [← hrs] at hc
          have := List.mem_filter.mp hc
          exact ⟨this.1, by simpa using this.2⟩
        have rsl : rs.length ≤ 12 := by rw [← hrs]; exact Nat.le_trans (List.length_filter_le _ _) M.wl
        have rsn : rs.Nodup := by rw [← hrs]; exact M.nd.sublist List.filter_sublist
        refine ⟨by decide, fun e he => ?_⟩
        have s4 := Same.upd0 (o := .lst []) he
        refine ⟨.list (rs.map PyData.str), .list [], .lst (.of (s4 _ _ h3R)) (Reps.strs rs), .lst (.of upd_same) .nil, by unfold PyData.canLay0; exact lay_strs fun c hc => M.nm c (rsm c hc).1, rfl, by unfold PyData.depth; rw [depth_strs]; decide, _, rfl, ?_⟩
        rw [eq_nil_strs]
        have s24 := sm.trans s4
        have D4 := D2.same s24
        have B4 := B02.same s24
        have h4sa := s24 _ _ h2sa
        refine ite2 (fun h0 => ?_) (fun h0 => ?_)
        · exact ⟨by decide, fun w hw => k w (.pl (.un cs)) _ ⟨sa, upd_same, (Same.upd0 hw) _ _ h4sa⟩ okc (fun _ => ⟨_, rfl⟩) (D4.new hw) (B4.new hw)⟩
        · refine ⟨by decide, fun so2 hso2 => ?_⟩
          have nso2 := D4.ne hso2
          have hne : rs ≠ [] := by simpa using h0
          have s5 := s4.upd_new (o := .lst ((sortsL false).map V.str)) hso2
          have M5 := (M2.same sm).same s5
          unfold spWish0
          rw [if_pos rfl]
          refine ⟨d, l, R, ra, pa, so2, rs, ns, kvs, rm, rfl, ⟨M5.D, nR, M.nr, M.np, s5 _ _ h3R, M5.hr, M5.hp, fun c hc => M5.rf c (rsm c hc).1, hne, rsn, rsl, M.n5, M.nn, fun c hc => M.nm c (rsm c hc).1, fun c hc => M.gd c (rsm c hc).1⟩, nso2, upd_same, fun u W H6 hW hok hpl D6 B6 => ?_⟩
          obtain ⟨W0, rfl⟩ := hpl rfl
          have h6sa := B6.tup M5.D (s5 _ _ (sm _ _ h2sa))
          have B06 := (B02.same (sm.trans s5)).trans B6
          have M6 := M5.but D6 B6
          refine ⟨_, h6sa, _, e0, d, l, pa, 0, ns.map V.int, rfl, D6, .inl M6.hp, by decide, by rw [List.length_map]; omega, by rw [List.length_map]; omega, fun q got rest H7 fq hpm7 _ h7q D7 B7 => ⟨by decide, fun w hw => ?_⟩⟩
          obtain ⟨vs, zv, rfl, hpv⟩ := perm_inv V.int invI (fun _ => rfl) hpm7
          have s8 := Same.upd0 (o := .tup [.str "same", .str c0, .ref q, .ref u]) hw
          have hokW : okW rs ns W0 := hok
          refine k w (.sa c0 vs W0) _ ⟨q, u, upd_same, s8 _ _ h7q, WS_keep hW fun b xs e => s8 _ _ (B7.tup D6 e)⟩ ⟨okc.2.2.1 c0 hc0, okV_of hpv M.nn M.n5, okW_mono (fun c hc => (rsm c hc).1) hokW, fun hc => (rsm c0 (okW_cells hokW c0 hc)).2 rfl⟩ (fun z => by cases z) (D7.same s8) ((B06.trans B7).same s8)
noncomputable def sk {α : Type} (f : α → PySem.W.Ky) (l : List α) : List α := l.mergeSort fun a b => !((f b).lt (f a))
theorem sk_perm {α : Type} (f : α → PySem.W.Ky) (l : List α) : (sk f l).Perm l := List.mergeSort_perm l _
theorem sk_pw {α : Type} (f : α → PySem.W.Ky) (l : List α) : (sk f l).Pairwise fun a b => (f a).le (f b) := by
  have := List.pairwise_mergeSort (le := fun a b : α => !((f b).lt (f a))) (fun a b c h1 h2 => by
    simp only [Bool.not_eq_true'] at h1 h2 ⊢
    exact PySem.W.Ky.le_trans h1 h2) (fun a b => by
    cases h : (f b).lt (f a) with
    | false => rfl
    | true => simp [PySem.W.Ky.asym h]) l
  exact this.imp fun h => by simpa [PySem.W.Ky.le] using h
theorem sk_sorted {α : Type} (f : α → PySem.W.Ky) (l : List α) : ((sk f l).map f).Pairwise PySem.W.Ky.le := List.pairwise_map.mpr (sk_pw f l)
theorem sk_uniq {α : Type} {f : α → PySem.W.Ky} {l l' : List α} (hp : l'.Perm l) (hs : (l'.map f).Pairwise PySem.W.Ky.le) (hi : ∀ a ∈ l, ∀ b ∈ l, f a = f b → a = b) : l' = sk f l :=
  List.Perm.eq_of_pairwise (le := fun a b => (f a).le (f b)) (fun a b ha hb h1 h2 => hi a (hp.mem_iff.mp ha) b ((sk_perm f l).mem_iff.mp hb) (PySem.W.Ky.le_antisymm h1 h2)) (List.pairwise_map.mp hs) (sk_pw f l) (hp.trans (sk_perm f l).symm)
theorem sk_congr {α : Type} {f : α → PySem.W.Ky} {l l' : List α} (hp : l'.Perm l) (hi : ∀ a ∈ l, ∀ b ∈ l, f a = f b → a = b) : sk f l' = sk f l := sk_uniq ((sk_perm f l').trans hp) (sk_sorted f l') hi
theorem inj_s (l : List Str) : ∀ a ∈ l, ∀ b ∈ l, PySem.W.Ky.s a = PySem.W.Ky.s b → a = b := fun _ _ _ _ h => by cases h; rfl
theorem inj_i (l : List Int) : ∀ a ∈ l, ∀ b ∈ l, PySem.W.Ky.i a = PySem.W.Ky.i b → a = b := fun _ _ _ _ h => by cases h; rfl
theorem inj_r (l : List (List Int)) : ∀ a ∈ l, ∀ b ∈ l, PySem.W.Ky.r a = PySem.W.Ky.r b → a = b := fun _ _ _ _ h => by cases h; rfl
noncomputable def kP (p : Int × Int × Int) : PySem.W.Ky := .r [p.1, p.2.1, p.2.2]
theorem inj_p (l : List (Int × Int × Int)) : ∀ a ∈ l, ∀ b ∈ l, kP a = kP b → a = b := fun a _ b _ h => by
  obtain ⟨a1, a2, a3⟩ := a
  obtain ⟨b1, b2, b3⟩ := b
  unfold kP at h
  simp at h
  obtain ⟨rfl, rfl, rfl⟩ := h
  rfl
noncomputable def kT {α : Type} (t : α × Str) : PySem.W.Ky := .s t.2
theorem nd_inj2 {α β : Type} {f : α → β} {t t' : α} : ∀ {l : List α}, (l.map f).Nodup → t ∈ l → t' ∈ l → f t = f t' → t = t'
  | [], _, h, _, _ => by simp at h
  | x :: l, hn, h, h', e => by
    have hn : (f x :: l.map f).Nodup := hn
    obtain ⟨h1, h2⟩ := List.nodup_cons.mp hn
    rcases List.mem_cons.mp h with rfl | h
    · rcases List.mem_cons.mp h' with rfl | h'
      · rfl
      · exact absurd (List.mem_map.mpr ⟨t', h', e.symm⟩) h1
    · rcases List.mem_cons.mp h' with h' | h'
      · exact absurd (List.mem_map.mpr ⟨t, h, by rw [← h']; exact e⟩ : f x ∈ l.map f) h1
      · exact nd_inj2 h2 h h' e
theorem inj_t {α : Type} {l : List (α × Str)} (hn : (l.map (·.2)).Nodup) : ∀ a ∈ l, ∀ b ∈ l, kT a = kT b → a = b := fun a ha b hb h => nd_inj2 hn ha hb (by unfold kT at h; injection h)
noncomputable abbrev noS : Str := ""
noncomputable def pick {α : Type} (d : α) (pl : List Nat) (r : List α) : List α := pl.map fun i => r.getD i d
noncomputable def plc (cs : List Str) : List Nat := (sk kT ((List.range cs.length).zip cs)).map (·.1)
theorem pick_range {α : Type} (d : α) (r : List α) : pick d (List.range r.length) r = r := by
  apply List.ext_getElem?
  intro i
  unfold pick
  by_cases hi : i < r.length
  · simp [hi]
  · simp [hi]
theorem pick_perm {α : Type} (d : α) {pl : List Nat} {r : List α} (h : pl.Perm (List.range r.length)) : (pick d pl r).Perm r := by
  have := h.map fun i => r.getD i d
  have e := pick_range d r
  unfold pick at e ⊢
  rwa [e] at this
theorem pick_inj {α : Type} {d : α} {n : Nat} {pl : List Nat} {r s : List α} (h : pl.Perm (List.range n)) (hr : r.length = n) (hs : s.length = n) (e : pick d pl r = pick d pl s) : r = s := by
  apply List.ext_getElem (hr.trans hs.symm)
  intro i h1 h2
  have hi : i ∈ pl := h.mem_iff.mpr (List.mem_range.mpr (by omega))
  have := List.map_inj_left.mp e i hi
  simpa [List.getD_eq_getElem?_getD, h1, h2] using this
theorem pick_zip {α β : Type} (d : α) (e : β) {pl : List Nat} {r : List α} {s : List β} : (pick d pl r).zip (pick e pl s) = pl.map fun i => (r.getD i d, s.getD i e) := by
  unfold pick
  induction pl with
  | nil => rfl
  | cons i pl ih => simp only [List.map_cons, List.zip_cons_cons, ih]
theorem pick_map {α β : Type} {d : α} {e : β} (g : α → β) {n : Nat} {pl : List Nat} {r : List α} (h : pl.Perm (List.range n)) (hr : r.length = n) : (pick d pl r).map g = pick e pl (r.map g) := by
  unfold pick
  rw [List.map_map]
  refine List.map_congr_left fun i hi => ?_
  have : i < r.length := by rw [hr]; exact List.mem_range.mp (h.mem_iff.mp hi)
  simp [List.getD_eq_getElem?_getD, this]
theorem plc_perm (cs : List Str) : (plc cs).Perm (List.range cs.length) := by
  have := (sk_perm kT ((List.range cs.length).zip cs)).map (·.1)
  rwa [List.map_fst_zip (by simp)] at this
theorem zip_nd {α : Type} {r : List α} {cs : List Str} (hl : cs.length ≤ r.length) (hn : cs.Nodup) : ((r.zip cs).map (·.2)).Nodup := by
  rw [List.map_snd_zip hl]; exact hn
theorem plc_names {cs : List Str} (hn : cs.Nodup) : pick noS (plc cs) cs = sk PySem.W.Ky.s cs := by
  refine sk_uniq (pick_perm noS (plc_perm cs)) ?_ (inj_s cs)
  have e : pick noS (plc cs) cs = (sk kT ((List.range cs.length).zip cs)).map (·.2) := by
    unfold pick plc
    rw [List.map_map]
    refine List.map_congr_left fun z hz => ?_
    have := (sk_perm kT ((List.range cs.length).zip cs)).mem_iff.mp hz
    obtain ⟨k, hk, ek⟩ := List.getElem_of_mem this
    have hkl : k < cs.length := by simpa using hk
    rw [← ek]
    simp [List.getD_eq_getElem?_getD, hkl]
  rw [e, List.map_map]
  exact sk_sorted kT ((List.range cs.length).zip cs)
theorem plc_row {cs : List Str} {r : List Int} (hn : cs.Nodup) (hl : r.length = cs.length) : pick 0 (plc cs) r = (sk kT (r.zip cs)).map (·.1) := by
  have h1 : (pick 0 (plc cs) r).zip (pick noS (plc cs) cs) = sk kT (r.zip cs) := by
    refine sk_uniq ?_ ?_ (inj_t (zip_nd (by omega) hn))
    · rw [pick_zip]
      have := (plc_perm cs).map fun i => (r.getD i 0, cs.getD i noS)
      rw [← pick_zip, ← pick_zip, ← hl, pick_range, hl, pick_range] at this
      rw [← pick_zip]
      exact this
    · have e : ((pick 0 (plc cs) r).zip (pick noS (plc cs) cs)).map kT = (pick noS (plc cs) cs).map PySem.W.Ky.s := by
        have : (kT : Int × Str → PySem.W.Ky) = PySem.W.Ky.s ∘ Prod.snd := rfl
        rw [this, ← List.map_map, List.map_snd_zip (by unfold pick; simp)]
      rw [e, plc_names hn]
      exact sk_sorted PySem.W.Ky.s cs
  rw [← h1, List.map_fst_zip (by unfold pick; simp)]
theorem sum_perm {l m : List Int} (h : l.Perm m) : l.sum = m.sum := by
  induction h with
  | nil => rfl
  | cons x _ ih => simp [ih]
  | swap x y l => simp; omega
  | trans _ _ a b => exact a.trans b
theorem find_perm {α : Type} {f : α → Bool} {ps qs : List α} (h : qs.Perm ps) (hu : ∀ a ∈ ps, ∀ b ∈ ps, f a = true → f b = true → a = b) : qs.find? f = ps.find? f := by
  cases e : ps.find? f with
  | none => exact List.find?_eq_none.mpr fun x hx => List.find?_eq_none.mp e x (h.mem_iff.mp hx)
  | some x =>
    have hx := List.mem_of_find?_eq_some e
    have fx := List.find?_some e
    cases e2 : qs.find? f with
    | none => exact absurd fx (List.find?_eq_none.mp e2 x (h.mem_iff.mpr hx))
    | some y =>
      rw [hu y (h.mem_iff.mp (List.mem_of_find?_eq_some e2)) x hx (List.find?_some e2) fx]
theorem getO_perm {ps qs : List (Int × Int × Int)} (h : qs.Perm ps) (hn : (ps.map fun x => (x.1, x.2.1)).Nodup) (st : Option Int) (v : Int) : getO qs st v = getO ps st v := by
  cases st with
  | none => rfl
  | some s =>
    show (qs.find? fun x => decide (x.1 = s ∧ x.2.1 = v)).map (fun x => x.2.2) = (ps.find? fun x => decide (x.1 = s ∧ x.2.1 = v)).map fun x => x.2.2
    rw [find_perm h fun a ha b hb h1 h2 => ?_]
    simp only [decide_eq_true_eq] at h1 h2
    exact nd_inj2 hn ha hb (by rw [h1.1, h1.2, h2.1, h2.2])
noncomputable def plainW : Wi → Wi
  | .un cs => .un (sk .s cs)
  | .mn av cs lo hi => .mn (sk .i av) (sk .s cs) lo hi
  | .sm ts lo hi => .sm (sk kT ts) lo hi
  | .tb cs rows => .tb (sk .s cs) (sk .r (rows.map (pick 0 (plc cs))))
  | .wy cs ps es => .wy cs (sk kP ps) (sk .i es)
  | .bh cs gap => .bh cs gap
noncomputable def plainX : Wx → Wx
  | .pl W => .pl (plainW W)
  | .sa c vs W => .sa c (sk .i vs) (plainW W)
noncomputable def mixW : Wi → Wi → Prop
  | .un cs, .un cs' => cs'.Perm cs
  | .mn av cs lo hi, .mn av' cs' lo' hi' => av'.Perm av ∧ cs'.Perm cs ∧ lo' = lo ∧ hi' = hi
  | .sm ts lo hi, .sm ts' lo' hi' => ts'.Perm ts ∧ lo' = lo ∧ hi' = hi
  | .tb cs rows, .tb cs' rows' => ∃ pl : List Nat, pl.Perm (List.range cs.length) ∧ cs' = pick noS pl cs ∧ rows'.Perm (rows.map (pick 0 pl))
  | .wy cs ps es, .wy cs' ps' es' => cs' = cs ∧ ps'.Perm ps ∧ es'.Perm es
  | .bh cs gap, .bh cs' gap' => cs' = cs ∧ gap' = gap
  | _, _ => False
noncomputable def mixX : Wx → Wx → Prop
  | .pl W, .pl W' => mixW W W'
  | .sa c vs W, .sa c' vs' W' => c' = c ∧ vs'.Perm vs ∧ mixW W W'
  | _, _ => False
theorem mix_plain {ws : List Str} {ns : List Int} : ∀ {W : Wi}, okW ws ns W → mixW W (plainW W)
  | .un cs, _ => sk_perm _ _
  | .mn av cs lo hi, _ => ⟨sk_perm _ _, sk_perm _ _, rfl, rfl⟩
  | .sm ts lo hi, _ => ⟨sk_perm _ _, rfl, rfl⟩
  | .tb cs rows, h => ⟨plc cs, plc_perm cs, (plc_names h.1.2.1).symm, sk_perm _ _⟩
  | .wy cs ps es, _ => ⟨rfl, sk_perm _ _, sk_perm _ _⟩
  | .bh cs gap, _ => ⟨rfl, rfl⟩
theorem mix_plainX {ws : List Str} {ns : List Int} : ∀ {W : Wx}, okX ws ns W → mixX W (plainX W)
  | .pl W, h => mix_plain (W := W) h
  | .sa c vs W, h => ⟨rfl, sk_perm _ _, mix_plain h.2.2.1⟩
theorem okC_perm {ws cs cs' : List Str} (h : okC ws cs) (p : cs'.Perm cs) : okC ws cs' := ⟨fun e => h.1 (by rw [e] at p; exact p.symm.eq_nil), p.nodup_iff.mpr h.2.1, fun c hc => h.2.2.1 c (p.mem_iff.mp hc), by rw [p.length_eq]; exact h.2.2.2⟩
theorem okV_perm {ns vs vs' : List Int} (h : okV ns vs) (p : vs'.Perm vs) : okV ns vs' := ⟨p.nodup_iff.mpr h.1, fun c hc => h.2.1 c (p.mem_iff.mp hc), by rw [p.length_eq]; exact h.2.2⟩
theorem ok_mix {ws : List Str} {ns : List Int} : ∀ {W W' : Wi}, okW ws ns W → mixW W W' → okW ws ns W'
  | .un cs, .un cs', h, m => okC_perm h m
  | .mn av cs lo hi, .mn av' cs' lo' hi', h, m => ⟨okC_perm h.1 m.2.1, okV_perm h.2 m.1⟩
  | .sm ts lo hi, .sm ts' lo' hi', h, m => ⟨okC_perm h.1 (m.1.map _), fun x hx => h.2 x (m.1.mem_iff.mp hx)⟩
  | .tb cs rows, .tb cs' rows', h, ⟨pl, hp, e, hr⟩ => by
    subst e
    have hl : (pick noS pl cs).length = cs.length := by unfold pick; rw [List.length_map, hp.length_eq, List.length_range]
    have rl : ∀ r, (pick (0 : Int) pl r).length = cs.length := fun r => by unfold pick; rw [List.length_map, hp.length_eq, List.length_range]
    refine ⟨okC_perm h.1 (pick_perm noS hp), hr.nodup_iff.mpr ?_, fun r hm => ?_, by rw [hr.length_eq, List.length_map]; exact h.2.2.2⟩
    · refine List.pairwise_map.mpr (List.Pairwise.imp_of_mem (fun {a b} ha hb ne e => ne (pick_inj hp (h.2.2.1 a ha) (h.2.2.1 b hb) e)) h.2.1)
    · obtain ⟨r0, _, rfl⟩ := List.mem_map.mp (hr.mem_iff.mp hm)
      rw [hl, rl]
  | .wy cs ps es, .wy cs' ps' es', h, ⟨e, p, q⟩ => by
    subst e
    exact ⟨h.1, (p.map _).nodup_iff.mpr h.2.1, by rw [p.length_eq]; exact h.2.2.1, by rw [q.length_eq]; exact h.2.2.2⟩
  | .bh cs gap, .bh cs' gap', h, m => by
    obtain ⟨rfl, rfl⟩ := m
    exact h
theorem cells_mix : ∀ {W W' : Wi}, mixW W W' → (cellsW W').Perm (cellsW W)
  | .un cs, .un cs', m => m
  | .mn av cs lo hi, .mn av' cs' lo' hi', m => m.2.1
  | .sm ts lo hi, .sm ts' lo' hi', m => m.1.map _
  | .tb cs rows, .tb cs' rows', ⟨pl, hp, e, hr⟩ => by subst e; exact pick_perm noS hp
  | .wy cs ps es, .wy cs' ps' es', ⟨e, p, q⟩ => by subst e; exact .refl _
  | .bh cs gap, .bh cs' gap', m => by obtain ⟨rfl, rfl⟩ := m; exact .refl _
theorem ok_mixX {ws : List Str} {ns : List Int} : ∀ {W W' : Wx}, okX ws ns W → mixX W W' → okX ws ns W'
  | .pl W, .pl W', h, m => ok_mix (W := W) h m
  | .sa c vs W, .sa c' vs' W', h, ⟨e, p, m⟩ => by
    subst e
    exact ⟨h.1, okV_perm h.2.1 p, ok_mix h.2.2.1 m, fun z => h.2.2.2 ((cells_mix m).mem_iff.mp z)⟩
theorem plain_mix {ws : List Str} {ns : List Int} : ∀ {W W' : Wi}, okW ws ns W → mixW W W' → plainW W' = plainW W
  | .un cs, .un cs', h, m => by unfold plainW; dsimp only; rw [sk_congr m (inj_s cs)]
  | .mn av cs lo hi, .mn av' cs' lo' hi', h, ⟨a, b, c, d⟩ => by unfold plainW; dsimp only; rw [sk_congr a (inj_i av), sk_congr b (inj_s cs), c, d]
  | .sm ts lo hi, .sm ts' lo' hi', h, ⟨a, c, d⟩ => by unfold plainW; dsimp only; rw [sk_congr a (inj_t h.1.2.1), c, d]
  | .tb cs rows, .tb cs' rows', h, ⟨pl, hp, e, hr⟩ => by
    subst e
    unfold plainW; dsimp only
    have hpc := pick_perm noS hp
    have hl : (pick noS pl cs).length = cs.length := hpc.length_eq
    rw [sk_congr hpc (inj_s cs)]
    have e2 : (rows.map (pick 0 pl)).map (pick 0 (plc (pick noS pl cs))) = rows.map (pick 0 (plc cs)) := by
      rw [List.map_map]
      refine List.map_congr_left fun r hrm => ?_
      have hrl := h.2.2.1 r hrm
      show pick 0 (plc (pick noS pl cs)) (pick 0 pl r) = _
      have hpr : pl.Perm (List.range r.length) := by rw [hrl]; exact hp
      rw [plc_row (hpc.nodup_iff.mpr h.1.2.1) (by rw [hl, (pick_perm 0 hpr).length_eq]; exact hrl), plc_row h.1.2.1 hrl]
      congr 1
      refine sk_congr ?_ (inj_t (zip_nd (by omega) h.1.2.1))
      rw [pick_zip]
      have := hp.map fun i => (r.getD i 0, cs.getD i noS)
      rw [← pick_zip, ← pick_zip, ← hrl, pick_range, hrl, pick_range] at this
      rw [← pick_zip]
      exact this
    rw [sk_congr (hr.map _) (inj_r _), e2]
  | .wy cs ps es, .wy cs' ps' es', h, ⟨e, p, q⟩ => by subst e; unfold plainW; dsimp only; rw [sk_congr p (inj_p ps), sk_congr q (inj_i es)]
  | .bh cs gap, .bh cs' gap', h, m => by obtain ⟨rfl, rfl⟩ := m; rfl
theorem plain_mixX {ws : List Str} {ns : List Int} : ∀ {W W' : Wx}, okX ws ns W → mixX W W' → plainX W' = plainX W
  | .pl W, .pl W', h, m => by unfold plainX; dsimp only; rw [plain_mix (W := W) h m]
  | .sa c vs W, .sa c' vs' W', h, ⟨e, p, m⟩ => by subst e; unfold plainX; dsimp only; rw [plain_mix h.2.2.1 m, sk_congr p (inj_i vs)]
theorem run_perm {ps qs : List (Int × Int × Int)} (h : qs.Perm ps) (hn : (ps.map fun x => (x.1, x.2.1)).Nodup) : ∀ (vs : List Int) (st : Option Int), runW qs st vs = runW ps st vs
  | [], st => rfl
  | v :: vs, st => by
    have ih := run_perm h hn vs (getO ps st v)
    unfold runW at ih ⊢
    rw [List.foldl_cons, List.foldl_cons, getO_perm h hn, ih]
theorem end_perm {es fs : List Int} (h : fs.Perm es) (o : Option Int) : endB fs o = endB es o := by
  cases o with
  | none => rfl
  | some s => exact decide_eq_decide.mpr h.mem_iff
theorem kept_mix {ws : List Str} {ns : List Int} (g : Str → Int) : ∀ {W W' : Wi}, okW ws ns W → mixW W W' → keptW W' g = keptW W g
  | .un cs, .un cs', h, m => decide_eq_decide.mpr (m.map g).nodup_iff
  | .mn av cs lo hi, .mn av' cs' lo' hi', h, ⟨a, b, c, d⟩ => by
    subst c
    subst d
    unfold keptW
    dsimp only
    have e : (fun c => decide (g c ∈ av')) = fun c => decide (g c ∈ av) := by
      funext c
      exact decide_eq_decide.mpr a.mem_iff
    rw [e, (b.filter _).length_eq]
  | .sm ts lo hi, .sm ts' lo' hi', h, ⟨a, c, d⟩ => by
    subst c
    subst d
    unfold keptW
    dsimp only
    rw [sum_perm (a.map _)]
  | .tb cs rows, .tb cs' rows', h, ⟨pl, hp, e, hr⟩ => by
    subst e
    unfold keptW
    dsimp only
    refine decide_eq_decide.mpr ?_
    rw [pick_map (e := 0) g hp rfl, hr.mem_iff, List.mem_map]
    constructor
    · rintro ⟨r, hrm, e⟩
      rw [← pick_inj hp (h.2.2.1 r hrm) (by rw [List.length_map]) e]
      exact hrm
    · exact fun hm => ⟨_, hm, rfl⟩
  | .wy cs ps es, .wy cs' ps' es', h, ⟨e, p, q⟩ => by
    subst e
    unfold keptW
    dsimp only
    rw [run_perm p h.2.1, end_perm q]
  | .bh cs gap, .bh cs' gap', h, m => by obtain ⟨rfl, rfl⟩ := m; rfl
theorem kept_mixX {ws : List Str} {ns : List Int} (g : Str → Int) : ∀ {W W' : Wx}, okX ws ns W → mixX W W' → keptX W' g = keptX W g
  | .pl W, .pl W', h, m => kept_mix g (W := W) h m
  | .sa c vs W, .sa c' vs' W', h, ⟨e, p, m⟩ => by
    subst e
    unfold keptX
    dsimp only
    rw [kept_mix g h.2.2.1 m]
    have : decide (g c' ∈ vs') = decide (g c' ∈ vs) := decide_eq_decide.mpr p.mem_iff
    rw [this]
noncomputable def spOrd : Sp := fun vs H Q _ => ∃ (p : Addr) (zs : List (V × PySem.W.Ky)), vs = [.ref p] ∧ (H p = some (.lst (zs.map (·.1))) ∨ H p = some (.tup (zs.map (·.1)))) ∧ zs.length ≤ 60 ∧ (∀ z ∈ zs, KyV H z.1 z.2) ∧ (∃ t : Nat, ∀ z ∈ zs, z.2.tag = t ∧ z.2 ≠ .r []) ∧
  ∀ (r : Addr) (zs' : List (V × PySem.W.Ky)) (H' : Hp), Same H H' → zs'.Perm zs → (zs'.map (·.2)).Pairwise PySem.W.Ky.le → H' r = some (.tup (zs'.map (·.1))) → Q (.ref r) H'
noncomputable def Ent (H : Hp) (e : Addr × V × PySem.W.Ky) : Prop := ∃ kv, H e.1 = some (.tup [kv, e.2.1]) ∧ KyV H kv e.2.2
theorem Ent.keep {H H' : Hp} {e : Addr × V × PySem.W.Ky} (h : Ent H e) (k : ∀ a xs, H a = some (.tup xs) → H' a = some (.tup xs)) : Ent H' e := by
  obtain ⟨kv, h1, h2⟩ := h
  refine ⟨kv, k _ _ h1, ?_⟩
  obtain ⟨a, v, y⟩ := e
  cases y with
  | s x => exact h2
  | i x => exact h2
  | r l => obtain ⟨b, e1, e2⟩ := h2; exact ⟨b, e1, k _ _ e2⟩
noncomputable def spIns : Sp := fun vs H Q _ => ∃ (p : Addr) (x kv : V) (k : PySem.W.Ky) (es : List (Addr × V × PySem.W.Ky)), vs = [.ref p, x, kv] ∧ H p = some (.lst (es.map fun e => V.ref e.1)) ∧ es.length ≤ 60 ∧ (∀ e ∈ es, Ent H e) ∧ KyV H kv k ∧ (∀ e ∈ es, e.2.2.tag = k.tag) ∧ (es.map (·.2.2)).Pairwise PySem.W.Ky.le ∧
  ∀ (es' : List (Addr × V × PySem.W.Ky)) (H' : Hp), (∀ b o, b ≠ p → H b = some o → H' b = some o) → H' p = some (.lst (es'.map fun e => V.ref e.1)) → (∀ e ∈ es', Ent H' e) → (es'.map (·.2)).Perm ((x, k) :: es.map (·.2)) → (es'.map (·.2.2)).Pairwise PySem.W.Ky.le → Q .non H'
noncomputable def spByK : Sp := fun vs H Q _ => ∃ (a b : Addr) (zs : List (V × PySem.W.Ky)) (kvs : List V), vs = [.ref a, .ref b] ∧ H a = some (.lst (zs.map (·.1))) ∧ H b = some (.lst kvs) ∧ kvs.length = zs.length ∧ (∀ (i : Nat) v z, kvs[i]? = some v → zs[i]? = some z → KyV H v z.2) ∧ zs.length ≤ 60 ∧ (∃ t : Nat, ∀ z ∈ zs, z.2.tag = t) ∧
  ∀ (r : Addr) (zs' : List (V × PySem.W.Ky)) (H' : Hp), Same H H' → zs'.Perm zs → (zs'.map (·.2)).Pairwise PySem.W.Ky.le → H' r = some (.lst (zs'.map (·.1))) → Q (.ref r) H'
theorem ok_in_order {P : Program} {w : World} {K : PySem.W.Frag} {mg : Str → Option Value} {base : Heap}  (T : Txt mg base) (L : FnL K mg "in_order" s_in_order ["things"])  : Fn P w K mg base "in_order" 1 ["things"] (spOrd) := by
  have nd := sc_in_order.nd
  refine L.ok sc_in_order (fun vs H Q E h => ?_) (fun f cdv A outer s H vs Q E hr h => ?_)
  · obtain ⟨p, zs, rfl, hp, hl, hk, ht, k⟩ := h
    rfl
  · obtain ⟨p, zs, rfl, hp, hl, hk, ht, k⟩ := h
    have hu := hu_of hr
    refine ⟨_, (pss_one (ps_ret (pe_callTy call_tupL rfl T.b_tuple (show bootBuiltins "tuple" = some (.type "tuple") by decide +kernel) (pa_cons (pe_callB call_sortG rfl T.b_sorted (show bootBuiltins "sorted" = some (.builtin "sorted") by decide +kernel) (pa_cons (pvM 0) pa_nil)) pa_nil)))), ?_⟩
    (try ctx_has vcx true_and rSortG)
    refine ⟨zs, hp, by omega, hk, ht, fun q zs' hq hpm hsr => ⟨_, upd_same, fun r hr => ?_⟩⟩
    exact k r zs' _ ((Same.upd0 hq).upd_new hr) hpm hsr upd_same
theorem ok__law_insert {P : Program} {w : World} {K : PySem.W.Frag} {mg : Str → Option Value} {base : Heap}  (T : Txt mg base) (L : FnL K mg "_law_insert" s__law_insert ["_law_found", "_law_thing", "_law_key"])  : Fn P w K mg base "_law_insert" 1 ["_law_found", "_law_thing", "_law_key"] (spIns) := by
  have nd := sc__law_insert.nd
  refine L.ok sc__law_insert (fun vs H Q E h => ?_) (fun f cdv A outer s H vs Q E hr h => ?_)
  · obtain ⟨p, x, kv, y, es, rfl, hp, hl, he, hkv, htg, hso, k⟩ := h
    rfl
  · obtain ⟨p, x, kv, y, es, rfl, hp, hl, he, hkv, htg, hso, k⟩ := h
    have hu := hu_of hr
    refine ⟨_, (pss_cons (ps_set (i := 3) nd rfl (by first | exact Or.inl rfl | exact Or.inr rfl) pe_int)
      (pss_cons (ps_while PassesOwn.never (PW.pt (pw_and (pt_cmpR op_lt (pvM 3) (pe_callB call_lenL rfl T.b_len PySem.boot_len (pa_cons (pvM 0) pa_nil)) (nomark _)) (pw_and1 (pt_cmpR (op_leK hu) (pe_ix ix_T (pe_ix ix_L (pvM 0) (pvM 3) (fun _ _ => rfl)) pe_int (fun _ _ => rfl)) (pvM 2) (nomark _))))) (pss_one (ps_set (i := 3) nd rfl (by first | exact Or.inl rfl | exact Or.inr rfl) (pe_op op_add (pvM 3) pe_int))))
      (pss_one (ps_expr (pe_mL PySem.F.slot_list_insert PySem.F.type_list_insert ml_insert (pvM 0) (pa_cons (pvM 3) (pa_cons (pe_tup (pa_cons (pvM 2) (pa_cons (pvM 1) pa_nil))) pa_nil))))))), ?_⟩
    dsimp only [tSeq, tNext, tAsg, tC, gName, tTup, tCons, tNil, L2.start, List.map, List.append_eq, List.length_cons, List.length_nil, List.replicate, List.cons_append, List.nil_append, Nat.reduceAdd, Nat.reduceSub, List.set, List.set_cons_zero, List.set_cons_succ]
    refine while_rd (fun μ σ H' => ∃ i : Nat, σ = [some (.ref p), some x, some kv, some (.int i)] ∧ H' = H ∧ i ≤ es.length ∧ (∀ (j : Nat) e, j < i → es[j]? = some e → PySem.W.Ky.le e.2.2 y) ∧ μ = es.length - i)
      (fun σ H' => ∃ i : Nat, σ = [some (.ref p), some x, some kv, some (.int i)] ∧ H' = H ∧ i ≤ es.length ∧ (∀ (j : Nat) e, j < i → es[j]? = some e → PySem.W.Ky.le e.2.2 y) ∧ (∀ e, es[i]? = some e → ¬ PySem.W.Ky.le e.2.2 y))
      ⟨_, 0, rfl, rfl, Nat.zero_le _, fun j e hj => by omega, rfl⟩ ?_ ?_
    · rintro R hR μ σ H ⟨i, rfl, rfl, hi, hle, rfl⟩
      (try ctx_has vcx true_and hp rLeK)
      refine ite2 (fun h1 => ?_) (fun h1 => ?_)
      · have hil : i < es.length := by rw [List.length_map] at h1; omega
        obtain ⟨⟨ea, ev, ek⟩, hei⟩ : ∃ e, es[i]? = some e := ⟨_, List.getElem?_eq_getElem hil⟩
        obtain ⟨kv2, e1, e2⟩ := he _ (List.mem_of_getElem? hei)
        refine ⟨_, atI_nat (by rw [List.getElem?_map, hei]; rfl), ea, rfl, _, e1, _, atI_nat (j := 0) rfl, ek, e2, y, hkv, htg _ (List.mem_of_getElem? hei), ?_⟩
        refine ite2 (fun h2 => ?_) (fun h2 => ?_)
        · refine ⟨fun σ' H' => σ' = [some (.ref p), some x, some kv, some (.int ((i : Int) + 1))] ∧ H' = H, ?_, rfl, rfl⟩
          rintro _ _ ⟨rfl, rfl⟩
          refine ⟨es.length - (i + 1), by omega, i + 1, by simp, rfl, by omega, fun j e hj ej => ?_, rfl⟩
          by_cases hji : j = i
          · subst hji
            rw [hei] at ej
            cases ej
            exact h2
          · exact hle j e (by omega) ej
        · refine hR _ _ ⟨i, rfl, rfl, hi, hle, fun e ee => ?_⟩
          rw [hei] at ee
          cases ee
          exact h2
      · refine hR _ _ ⟨i, rfl, rfl, hi, hle, fun e ee => ?_⟩
        have := (List.getElem?_eq_some_iff.mp ee).1
        rw [List.length_map] at h1
        omega
    · rintro σ H ⟨i, rfl, rfl, hi, hle, hno⟩
      (try ctx_has vcx true_and hp)
      refine ⟨by decide, fun t ht => ?_⟩
      have htp : p ≠ t := ne_of_none hp ht
      have s1 := Same.upd0 (o := .tup [kv, x]) ht
      refine ⟨_, s1 _ _ hp, by omega, by rw [List.length_map]; omega, by rw [List.length_map]; exact small1000 (by omega), ?_⟩
      have hdr : ∀ e ∈ es.drop i, PySem.W.Ky.le y e.2.2 := fun e hm => by
        obtain ⟨j, hj, ej⟩ := List.getElem_of_mem hm
        rw [List.getElem_drop] at ej
        have hil : i < es.length := by rw [List.length_drop] at hj; omega
        have h1 := PySem.W.Ky.le_of_not (hno _ (List.getElem?_eq_getElem hil))
        by_cases hj0 : j = 0
        · subst hj0
          rw [← ej]
          exact h1
        · have h2 := List.pairwise_iff_getElem.mp (List.pairwise_map.mp hso) i (i + j) hil (by rw [List.length_drop] at hj; omega) (by omega)
          rw [ej] at h2
          exact PySem.W.Ky.le_trans h1 h2
      have htk : ∀ e ∈ es.take i, PySem.W.Ky.le e.2.2 y := fun e hm => by
        obtain ⟨j, hj, ej⟩ := List.getElem_of_mem hm
        rw [List.length_take] at hj
        rw [List.getElem_take] at ej
        exact hle j e (by omega) (by rw [List.getElem?_eq_getElem (by omega), ej])
      have kp : ∀ b o, b ≠ p → H b = some o → upd (upd H t (.tup [kv, x])) p (.lst ((es.map fun e => V.ref e.1).take ((i : Int)).toNat ++ V.ref t :: (es.map fun e => V.ref e.1).drop ((i : Int)).toNat)) b = some o := fun b o hb e => by rw [upd_ne hb]; exact s1 _ _ e
      have ktup : ∀ a xs, H a = some (.tup xs) → upd (upd H t (.tup [kv, x])) p (.lst ((es.map fun e => V.ref e.1).take ((i : Int)).toNat ++ V.ref t :: (es.map fun e => V.ref e.1).drop ((i : Int)).toNat)) a = some (.tup xs) := fun a xs e => kp _ _ (ne_of e hp (by intro z; cases z)) e
      have hE : Ent (upd (upd H t (.tup [kv, x])) p (.lst ((es.map fun e => V.ref e.1).take ((i : Int)).toNat ++ V.ref t :: (es.map fun e => V.ref e.1).drop ((i : Int)).toNat))) (t, x, y) := by
        refine ⟨kv, by rw [upd_ne htp.symm, upd_same], ?_⟩
        cases y with
        | s z => exact hkv
        | i z => exact hkv
        | r l => obtain ⟨c, c1, c2⟩ := hkv; exact ⟨c, c1, ktup _ _ c2⟩
      refine k (es.take i ++ (t, x, y) :: es.drop i) _ kp ?_ (fun e hm => ?_) ?_ ?_
      · rw [upd_same, List.map_append, List.map_cons, List.map_take, List.map_drop]
        simp
      · rcases List.mem_append.mp hm with z | z
        · exact (he e (List.mem_of_mem_take z)).keep ktup
        · rcases List.mem_cons.mp z with rfl | z
          · exact hE
          · exact (he e (List.mem_of_mem_drop z)).keep ktup
      · rw [List.map_append, List.map_cons]
        refine List.perm_middle.trans ?_
        rw [← List.map_append, List.take_append_drop]
      · rw [List.pairwise_map, List.pairwise_append]
        refine ⟨(List.pairwise_map.mp hso).sublist (List.take_sublist _ _), List.pairwise_cons.mpr ⟨fun e hm => hdr e hm, (List.pairwise_map.mp hso).sublist (List.drop_sublist _ _)⟩, fun e hm e' hm' => ?_⟩
        rcases List.mem_cons.mp hm' with rfl | z
        · exact htk e hm
        · exact PySem.W.Ky.le_trans (htk e hm) (hdr e' z)
theorem ok__law_by_key {P : Program} {w : World} {K : PySem.W.Frag} {mg : Str → Option Value} {base : Heap}  (T : Txt mg base) (L : FnL K mg "_law_by_key" s__law_by_key ["_law_things", "_law_keys"]) (F_law_insert : Fn P w K mg base "_law_insert" 1 ["_law_found", "_law_thing", "_law_key"] (spIns)) : Fn P w K mg base "_law_by_key" 2 ["_law_things", "_law_keys"] (spByK) := by
  have nd := sc__law_by_key.nd
  refine L.ok sc__law_by_key (fun vs H Q E h => ?_) (fun f cdv A outer s H vs Q E hr h => ?_)
  · obtain ⟨a, b, zs, kvs, rfl, ha, hb, hkl, hkv, hl, ⟨tg, htg⟩, k⟩ := h
    rfl
  · obtain ⟨a, b, zs, kvs, rfl, ha, hb, hkl, hkv, hl, ⟨tg, htg⟩, k⟩ := h
    have hu := hu_of hr
    refine ⟨_, (pss_cons (ps_set (i := 2) nd rfl (by first | exact Or.inl rfl | exact Or.inr rfl) (pe_lst pa_nil))
      (pss_cons (ps_for PassesOwn.never rfl (pi_range1 rfl T.b_range (pa_cons (pe_callB call_lenL rfl T.b_len PySem.boot_len (pa_cons (pvM 0) pa_nil)) pa_nil)) (pg_name (i := 3) nd rfl (by first | exact Or.inl rfl | exact Or.inr rfl)) (pss_one (ps_expr (pe_callF F_law_insert (hr.mono (by first | decide | omega)) rfl (pa_cons (pvM 2) (pa_cons (pe_ix ix_L (pvM 0) (pvM 3) (fun _ _ => rfl)) (pa_cons (pe_ix ix_L (pvM 1) (pvM 3) (fun _ _ => rfl)) pa_nil)))))))
      (pss_one (ps_ret (pe_comp (N := ["_law_key", "_law_thing"]) (nt := 2) (js := []) rfl (compOk_of ["_law_things", "_law_keys", "_law_found", "_law_k"] (defScope s__law_by_key).names rfl rfl rfl (by decide +kernel)) (pi_LK (K := K) rfl (pvM 2)) (fun _ _ _ _ _ _ => (pg_tupT (n := 2) rfl (pgs_cons (pg_name (i := 0) (show List.Nodup [("_law_key" : Str), ("_law_thing" : Str)] by decide +kernel) rfl (Or.inl rfl)) (pgs_cons (pg_name (i := 1) (show List.Nodup [("_law_key" : Str), ("_law_thing" : Str)] by decide +kernel) rfl (Or.inl rfl)) pgs_nil)))) (tgOk_tupT2 (by decide) (by decide) (by decide)) (fun _ _ _ _ _ _ => pts_nil) (fun _ _ _ _ _ _ => (pvM 1))))))), ?_⟩
    (try ctx_has vcx true_and ha)
    refine ⟨Nat.le_of_lt (small1000 (by simp)), fun p hp => ?_⟩
    have s1 := Same.upd0 (o := .lst []) hp
    refine ⟨_, s1 _ _ ha, by omega, by rw [List.length_map]; omega, ?_⟩
    rw [show ((((zs.map (·.1)).length : Nat) : Int)).toNat = zs.length by simp]
    refine for_g wlk_range (fun i σ H' => ∃ (v : Option V) (es : List (Addr × V × PySem.W.Ky)), σ = [some (.ref a), some (.ref b), some (.ref p), v] ∧ H' p = some (.lst (es.map fun e => V.ref e.1)) ∧ (∀ e ∈ es, Ent H' e) ∧ (es.map (·.2)).Perm (zs.take i) ∧ (es.map (·.2.2)).Pairwise PySem.W.Ky.le ∧ Same H H')
      ⟨none, [], rfl, upd_same, by simp, by simp, by simp, s1⟩ (fun _ _ _ _ => True.intro) ?_ ?_
    · rintro i x σ H2 hi hx ⟨v, es, rfl, h2p, he, hpm, hso, s2⟩
      rw [rngV_length] at hi
      rw [rngV_get hi] at hx
      cases hx
      have h2a := s2 _ _ ha
      have h2b := s2 _ _ hb
      have hzi : zs[i]? = some zs[i] := List.getElem?_eq_getElem hi
      have hki : kvs[i]? = some kvs[i] := List.getElem?_eq_getElem (by omega)
      have hel : es.length ≤ 60 := by have := hpm.length_eq; rw [List.length_map, List.length_take] at this; omega
      have e1 : atI (zs.map (·.1)) ((0 : Int) + i) = some zs[i].1 := by rw [Int.zero_add]; exact atI_nat (by rw [List.getElem?_map, hzi]; rfl)
      have e2 : atI kvs ((0 : Int) + i) = some kvs[i] := by rw [Int.zero_add]; exact atI_nat hki
      (try ctx_has vcx true_and h2a h2b e1 e2)
      refine ⟨p, _, _, zs[i].2, es, rfl, h2p, hel, he, (hkv i _ _ hki hzi).same s2, fun e hm => ?_, hso, fun es' H3 kp h3p he' hpm' hso' => ⟨es', h3p, he', ?_, hso', fun b' o e => kp b' o (ne_of_none e hp) (s2 _ _ e)⟩⟩
      · rw [htg zs[i] (List.getElem_mem hi), htg e.2 (List.mem_of_mem_take (hpm.mem_iff.mp (List.mem_map.mpr ⟨e, hm, rfl⟩)))]
      · refine hpm'.trans ?_
        rw [List.take_add_one, hzi]
        exact (hpm.cons _).trans (List.perm_append_comm (l₁ := [zs[i]]))
    · rintro σ H2 ⟨v, es, rfl, h2p, he, hpm, hso, s2⟩
      rw [rngV_length, List.take_length] at hpm
      have hel : es.length ≤ 60 := by have := hpm.length_eq; rw [List.length_map] at this; omega
      (try ctx_has vcx true_and h2p)
      intro D hD
      refine comp_g wlk_list (fun i ys H' => ys = (es.take i).map (·.2.1) ∧ H' D = some (.lst ys) ∧ Same H2 H') ⟨by simp, upd_same, Same.upd0 hD⟩ (fun i ys H' zq50 => by obtain ⟨_, _, s⟩ := zq50; exact (.of (s _ _ h2p))) ?_ ?_
      · rintro i x ys H3 hi hx ⟨rfl, h3D, s3⟩
        rw [List.length_map] at hi
        have hei : es[i]? = some es[i] := List.getElem?_eq_getElem hi
        rw [List.getElem?_map, hei] at hx
        cases hx
        obtain ⟨kv2, e1, e2⟩ := (he es[i] (List.getElem_mem hi)).keep fun a xs e => s3 _ _ e
        (try ctx_has vcx true_and e1)
        refine ⟨h3D, by simp; exact small1000 (by omega), ?_, upd_same, fun b' o e => by rw [upd_ne (ne_of_none e hD)]; exact s3 _ _ e⟩
        rw [List.take_add_one, hei, List.map_append]
        rfl
      · rintro ys H3 ⟨rfl, h3D, s3⟩
        rw [List.length_map, List.take_length] at h3D
        refine k D (es.map (·.2)) H3 (s2.trans s3) hpm ?_ ?_
        · rw [List.map_map]; exact hso
        · rw [List.map_map]; exact h3D
theorem ok__law_rising {P : Program} {w : World} {K : PySem.W.Frag} {mg : Str → Option Value} {base : Heap}  (T : Txt mg base) (L : FnL K mg "_law_rising" s__law_rising ["_law_things"]) (F_law_by_key : Fn P w K mg base "_law_by_key" 2 ["_law_things", "_law_keys"] (spByK)) : Fn P w K mg base "_law_rising" 3 ["_law_things"] (spOrd) := by
  have nd := sc__law_rising.nd
  refine L.ok sc__law_rising (fun vs H Q E h => ?_) (fun f cdv A outer s H vs Q E hr h => ?_)
  · obtain ⟨p, zs, rfl, hp, hl, hk, ht, k⟩ := h
    rfl
  · obtain ⟨p, zs, rfl, hp, hl, hk, ht, k⟩ := h
    have hu := hu_of hr
    refine ⟨_, (pss_one (ps_ret (pe_callTy call_tupL rfl T.b_tuple (show bootBuiltins "tuple" = some (.type "tuple") by decide +kernel) (pa_cons (pe_callF F_law_by_key (hr.mono (by first | decide | omega)) rfl (pa_cons (pe_callTy call_listS rfl T.b_list (show bootBuiltins "list" = some (.type "list") by decide +kernel) (pa_cons (pvM 0) pa_nil)) (pa_cons (pe_callTy call_listS rfl T.b_list (show bootBuiltins "list" = some (.type "list") by decide +kernel) (pa_cons (pvM 0) pa_nil)) pa_nil))) pa_nil)))), ?_⟩
    (try ctx_has vcx true_and rListS)
    have hq : sqOf H p (zs.map (·.1)) := hp
    refine ⟨_, hq, fun l1 h1 => ?_⟩
    have s1 := Same.upd0 (o := .lst (zs.map (·.1))) h1
    refine ⟨_, hq.imp (fun e => s1 _ _ e) (fun e => s1 _ _ e), fun l2 h2 => ?_⟩
    have s2 := s1.upd_new (o := .lst (zs.map (·.1))) h2
    have n12 : l1 ≠ l2 := fun z => by rw [← z, upd_same] at h2; cases h2
    refine ⟨l1, l2, zs, zs.map (·.1), rfl, by rw [upd_ne n12, upd_same], upd_same, by simp, fun i v z e1 e2 => ?_, hl, ?_, fun r zs' H3 s3 hpm hso hr3 => ⟨r, rfl, _, hr3, fun q hq => ?_⟩⟩
    · rw [List.getElem?_map, e2] at e1
      cases e1
      exact (hk z (List.mem_of_getElem? e2)).same s2
    · obtain ⟨tg, h⟩ := ht
      exact ⟨tg, fun z hz => (h z hz).1⟩
    · exact k q zs' _ ((s2.trans s3).upd_new hq) hpm hso upd_same
theorem comp_new {α β : Type} {J : It} {zs : List α} {e : α → V} {C : Hp → Prop} (w : Wlk J (zs.map e) C) {g : TG} {te : TE} {σ0 : St} {Q : VK} {H1 : Hp} {D : Addr} (f : α → β) (c : β → List V) (hD : H1 D = none) (hC : ∀ H', Same H1 H' → C H') (hn : zs.length ≤ 900)
    (he : ∀ z ∈ zs, ∀ (H2 : Hp) (Q2 : VK), Same H1 H2 → (∀ t H3, Same H2 H3 → H3 t = some (.tup (c (f z))) → Q2 (.ref t) H3) → g (e z) σ0 H2 fun σ2 H3 => te σ2 H3 Q2)
    (hd : ∀ (bs : List (Addr × β)) (H2 : Hp), bs.map (·.2) = zs.map f → (∀ x ∈ bs, H2 x.1 = some (.tup (c x.2))) → Same H1 H2 → H2 D = some (.lst (bs.map fun x => V.ref x.1)) → Q (.ref D) H2) : CompG J σ0 g tYes te Q H1 D := by
  refine comp_g w (fun i ys H => ∃ bs : List (Addr × β), ys = bs.map (fun x => V.ref x.1) ∧ bs.map (·.2) = (zs.take i).map f ∧ (∀ x ∈ bs, H x.1 = some (.tup (c x.2))) ∧ Same H1 H ∧ H D = some (.lst ys)) ⟨[], rfl, rfl, by simp, Same.upd0 hD, upd_same⟩ (fun i ys H zq51 => by obtain ⟨_, _, _, _, s, _⟩ := zq51; exact (hC _ s)) ?_ ?_
  · rintro i x ys H hi hx ⟨bs, rfl, hb, hbt, sm, hd'⟩
    rw [List.length_map] at hi
    obtain ⟨z, hz, rfl⟩ : ∃ z, zs[i]? = some z ∧ e z = x := by
      rw [List.getElem?_map] at hx
      cases e1 : zs[i]? with
      | none => rw [e1] at hx; cases hx
      | some nm => rw [e1] at hx; exact ⟨nm, rfl, Option.some.inj hx⟩
    simp only [tYes, if_true]
    have hbl : bs.length ≤ i := by
      have := congrArg List.length hb
      rw [List.length_map, List.length_map] at this
      rw [this]
      exact List.length_take_le _ _
    refine he z (List.mem_of_getElem? hz) H _ sm fun t H3 s3 ht => ?_
    have h3D := s3 _ _ hd'
    have kt : ∀ b xs, H3 b = some (.tup xs) → upd H3 D (.lst (bs.map (fun x => V.ref x.1) ++ [.ref t])) b = some (.tup xs) := fun b xs q => by rw [upd_ne (ne_of q h3D (by intro z; cases z))]; exact q
    refine ⟨h3D, by rw [List.length_map]; exact small1000 (by omega), bs ++ [(t, f z)], by simp, ?_, fun x hx => ?_, fun b o q => by rw [upd_ne (ne_of_none q hD)]; exact s3 _ _ (sm b o q), upd_same⟩
    · rw [List.map_append, hb, List.take_add_one, hz, List.map_append]; rfl
    · rcases List.mem_append.mp hx with q | q
      · exact kt _ _ (s3 _ _ (hbt x q))
      · rw [List.mem_singleton.mp q]; exact kt _ _ ht
  · rintro ys H ⟨bs, rfl, hb, hbt, sm, hd'⟩
    rw [List.length_map, List.take_length] at hb
    exact hd bs H hb hbt sm hd'
theorem perm_map_ex {α β : Type} {F : α → β} {zs m : List β} (h : zs.Perm m) : ∀ {l : List α}, m = l.map F → ∃ l' : List α, l'.Perm l ∧ zs = l'.map F := by
  induction h with
  | nil =>
    intro l e
    cases l with
    | nil => exact ⟨[], .refl _, rfl⟩
    | cons a l => cases e
  | cons x h ih =>
    intro l e
    cases l with
    | nil => cases e
    | cons a l =>
      obtain ⟨e1, e2⟩ := List.cons.inj e
      obtain ⟨l', h1, h2⟩ := ih e2
      exact ⟨a :: l', h1.cons a, by rw [e1, h2]; rfl⟩
  | swap x y m =>
    intro l e
    cases l with
    | nil => cases e
    | cons a l =>
      cases l with
      | nil => cases (List.cons.inj e).2
      | cons b l =>
        obtain ⟨e1, e2⟩ := List.cons.inj e
        obtain ⟨e2, e3⟩ := List.cons.inj e2
        exact ⟨b :: a :: l, .swap _ _ _, by rw [e1, e2, e3]; rfl⟩
  | trans _ _ ih1 ih2 =>
    intro l e
    obtain ⟨l2, h1, h2⟩ := ih2 e
    obtain ⟨l3, h3, h4⟩ := ih1 h2
    exact ⟨l3, h3.trans h1, h4⟩
theorem sk_map {α β : Type} (h : α → β) (g : β → PySem.W.Ky) {l : List α} (hi : ∀ a ∈ l.map h, ∀ b ∈ l.map h, g a = g b → a = b) : (sk (fun a => g (h a)) l).map h = sk g (l.map h) :=
  sk_uniq ((sk_perm _ l).map h) (by rw [List.map_map]; exact sk_sorted (fun a => g (h a)) l) hi
theorem ord_rd {α : Type} {H : Hp} {p : Addr} {l : List α} {Q : VK} {E : XK} (F : α → V) (f : α → PySem.W.Ky) (hp : H p = some (.lst (l.map F)) ∨ H p = some (.tup (l.map F))) (hl : l.length ≤ 60) (hk : ∀ a ∈ l, KyV H (F a) (f a)) (ht : ∃ t : Nat, ∀ a ∈ l, (f a).tag = t ∧ f a ≠ .r [])
    (hi : ∀ a ∈ l, ∀ b ∈ l, f a = f b → a = b) (q : ∀ r H', Same H H' → H' r = some (.tup ((sk f l).map F)) → Q (.ref r) H') : spOrd [.ref p] H Q E := by
  refine ⟨p, l.map fun a => (F a, f a), rfl, by rw [List.map_map]; exact hp, by simpa using hl, fun z hz => ?_, ?_, fun r zs' H' s hpm hso hr => ?_⟩
  · obtain ⟨a, ha, rfl⟩ := List.mem_map.mp hz
    exact hk a ha
  · obtain ⟨t, h⟩ := ht
    refine ⟨t, fun z hz => ?_⟩
    obtain ⟨a, ha, rfl⟩ := List.mem_map.mp hz
    exact h a ha
  · obtain ⟨l', h1, rfl⟩ := perm_map_ex hpm rfl
    rw [List.map_map] at hso hr
    have e : l' = sk f l := sk_uniq h1 hso hi
    rw [e] at hr
    exact q r H' s hr
theorem ord_str {H : Hp} {p : Addr} {cs : List Str} {Q : VK} {E : XK} (hp : H p = some (.tup (cs.map V.str))) (hl : cs.length ≤ 60) (q : ∀ r H', Same H H' → H' r = some (.tup ((sk .s cs).map V.str)) → Q (.ref r) H') : spOrd [.ref p] H Q E :=
  ord_rd V.str .s (.inr hp) hl (fun _ _ => rfl) ⟨0, fun _ _ => ⟨rfl, fun z => nomatch z⟩⟩ (inj_s cs) q
theorem ord_int {H : Hp} {p : Addr} {cs : List Int} {Q : VK} {E : XK} (hp : H p = some (.tup (cs.map V.int))) (hl : cs.length ≤ 60) (q : ∀ r H', Same H H' → H' r = some (.tup ((sk .i cs).map V.int)) → Q (.ref r) H') : spOrd [.ref p] H Q E :=
  ord_rd V.int .i (.inr hp) hl (fun _ _ => rfl) ⟨1, fun _ _ => ⟨rfl, fun z => nomatch z⟩⟩ (inj_i cs) q
theorem ord_rows {H : Hp} {p : Addr} {as : List (Addr × List Int)} {Q : VK} {E : XK} (hp : H p = some (.lst (as.map fun x => V.ref x.1)) ∨ H p = some (.tup (as.map fun x => V.ref x.1))) (hl : as.length ≤ 60) (hr : ∀ x ∈ as, H x.1 = some (.tup (x.2.map V.int)))
    (hn : (as.map (·.2)).Nodup) (h0 : ∀ x ∈ as, x.2 ≠ []) (q : ∀ r vs H', Same H H' → H' r = some (.tup vs) → RowsV H' vs (sk .r (as.map (·.2))) → Q (.ref r) H') : spOrd [.ref p] H Q E :=
  ord_rd (fun x => V.ref x.1) (fun x => .r x.2) hp hl (fun x hx => ⟨x.1, rfl, hr x hx⟩) ⟨2, fun x hx => ⟨rfl, fun z => h0 x hx (by injection z)⟩⟩ (fun a ha b hb e => nd_inj2 hn ha hb (by injection e))
    fun r H' s hr' => q r _ H' s hr' ⟨sk (fun x => .r x.2) as, rfl, (sk_map (fun x : Addr × List Int => x.2) .r (inj_r _)).symm, fun x hx => s _ _ (hr x ((sk_perm _ as).mem_iff.mp hx))⟩
theorem ord_steps {H : Hp} {p : Addr} {as : List (Addr × Int × Int × Int)} {Q : VK} {E : XK} (hp : H p = some (.tup (as.map fun x => V.ref x.1))) (hl : as.length ≤ 60) (hr : ∀ x ∈ as, H x.1 = some (.tup [.int x.2.1, .int x.2.2.1, .int x.2.2.2]))
    (hn : (as.map (·.2)).Nodup) (q : ∀ r vs H', Same H H' → H' r = some (.tup vs) → StepsAt H' vs (sk kP (as.map (·.2))) → Q (.ref r) H') : spOrd [.ref p] H Q E :=
  ord_rd (fun x : Addr × Int × Int × Int => V.ref x.1) (fun x => kP x.2) (.inr hp) hl (fun x hx => (⟨x.1, rfl, hr x hx⟩ : ∃ a, V.ref x.1 = .ref a ∧ H a = some (.tup ([x.2.1, x.2.2.1, x.2.2.2].map V.int)))) ⟨2, fun x hx => ⟨rfl, fun z => by unfold kP at z; injection z with z; cases z⟩⟩ (fun a ha b hb e => nd_inj2 hn ha hb (inj_p (as.map (·.2)) _ (List.mem_map.mpr ⟨a, ha, rfl⟩) _ (List.mem_map.mpr ⟨b, hb, rfl⟩) e))
    fun r H' s hr' => q r _ H' s hr' ⟨sk (fun x => kP x.2) as, rfl, sk_map (fun x : Addr × Int × Int × Int => x.2) kP (inj_p _), fun x hx => s _ _ (hr x ((sk_perm _ as).mem_iff.mp hx))⟩
theorem nd_of_map {α β : Type} {f : α → β} {l : List α} (h : (l.map f).Nodup) : l.Nodup := (List.pairwise_map.mp h).imp fun ne e => ne (by rw [e])
theorem cut_two (xs : List V) : cutV xs (some 2) none = xs.drop 2 := by
  have := cut_map_from (fun x : V => x) xs 2
  rwa [List.map_id', List.map_id'] at this
noncomputable def TabsOk (H : Hp) : Prop := tabsH tabs H
theorem TabsOk.same {H H' : Hp} (h : TabsOk H) (e : Same H H') : TabsOk H' := fun t ht => e _ _ (h t ht)
theorem TabsOk.t1 {H : Hp} (h : TabsOk H) : H 23 = some (.tab (qL "plain_table")) := h (25, 23, qL "plain_table") (by simp [tabs])
theorem TabsOk.t2 {H : Hp} (h : TabsOk H) : H 28 = some (.tab (qL "plain_form")) := h (32, 28, qL "plain_form") (by simp [tabs])
noncomputable def spPT : Sp := fun vs H Q _ => ∃ (w : Addr) (ws cs : List Str) (ns : List Int) (rows : List (List Int)), vs = [.ref w] ∧ TabsOk H ∧ WS H w (.tb cs rows) ∧ okW ws ns (.tb cs rows) ∧ ∀ r H', Same H H' → WS H' r (plainW (.tb cs rows)) → Q (.ref r) H'
noncomputable def spPlB : Sp := fun vs H Q _ => ∃ (w : Addr) (ws : List Str) (ns : List Int) (W : Wi), vs = [.ref w] ∧ TabsOk H ∧ WS H w W ∧ okW ws ns W ∧ ∀ r H', Same H H' → WS H' r (plainW W) → Q (.ref r) H'
noncomputable def spPlS : Sp := fun vs H Q _ => ∃ (w : Addr) (ws : List Str) (ns : List Int) (c : Str) (us : List Int) (W : Wi), vs = [.ref w] ∧ TabsOk H ∧ WX H w (.sa c us W) ∧ okX ws ns (.sa c us W) ∧ ∀ r H', Same H H' → WX H' r (plainX (.sa c us W)) → Q (.ref r) H'
theorem ok_plain_table {P : Program} {w : World} {K : PySem.W.Frag} {mg : Str → Option Value} {base : Heap}  (T : Txt mg base) (L : FnLT K mg "plain_table" s_plain_table ["wish"] 23) (Fin_order : Fn P w K mg base "in_order" 1 ["things"] (spOrd)) : Fn P w K mg base "plain_table" 2 ["wish"] (spPT) := by
  have nd := sc_plain_table.nd
  refine L.ok sc_plain_table (fun vs H Q E h => ?_) (fun f c hc A outer s H vs Q E hr h => ?_)
  · obtain ⟨w, ws, cs, ns, rows, rfl, tb, hW, hok, k⟩ := h
    rfl
  · obtain ⟨w, ws, cs, ns, rows, rfl, tb, hW, hok, k⟩ := h
    have hu := hu_of hr
    refine ⟨_, (pss_cons (ps_set (i := 1) nd rfl (by first | exact Or.inl rfl | exact Or.inr rfl) (pe_sortB (pt := 23) (q := qL "plain_table") (j := 0) hr rfl rfl T.b_sorted rfl T.b_range (pa_cons (pe_callB call_lenT rfl T.b_len PySem.boot_len (pa_cons (pe_ix ix_T (pvM 0) pe_int (fun _ _ => rfl)) pa_nil)) pa_nil) rfl hc T.bm rfl rfl rfl rfl rfl rfl rfl (fun _ _ _ _ => rfl) rfl rfl rfl rfl rfl (by decide +kernel) (by decide) (by decide) (by decide) (fun _ _ => rfl) (fun _ _ => rfl)))
      (pss_cons (ps_setCO (i := 2) (N := ["row", "places"]) (nt := 1) (js := [1]) nd rfl (by first | exact Or.inl rfl | exact Or.inr rfl) rfl (compOkO_of ["wish", "places", "rows"] (defScope s_plain_table).names rfl rfl rfl (by decide +kernel)) (pi_TK (K := K) rfl (pe_ix ix_T (pvM 0) pe_int (fun _ _ => rfl))) (fun _ _ _ _ _ _ => (pg_name (i := 0) (show List.Nodup [("row" : Str), ("places" : Str)] by decide +kernel) rfl (Or.inr rfl))) (tgOk_name (by decide)) (fun _ _ _ _ _ _ => pts_nil) (fun _ _ _ _ _ _ => (pe_callTy call_tupL rfl T.b_tuple (show bootBuiltins "tuple" = some (.type "tuple") by decide +kernel) (pa_cons (pe_comp (N := ["place", "row"]) (nt := 1) (js := [0]) rfl (compOk_of ["row", "places"] (relN (defScope s_plain_table).kind (defScope s_plain_table).names _) rfl rfl rfl (by decide +kernel)) (pi_LK (K := K) rfl (pvM 1)) (fun _ _ _ _ _ _ => (pg_name (i := 0) (show List.Nodup [("place" : Str), ("row" : Str)] by decide +kernel) rfl (Or.inl rfl))) (tgOk_name (by decide)) (fun _ _ _ _ _ _ => pts_nil) (fun _ _ _ _ _ _ => (pe_ix ix_T (pvM 1) (pvM 0) (fun _ _ => rfl)))) pa_nil))))
      (pss_one (ps_ret (pe_tup (pa_cons pe_str (pa_cons (pe_callF Fin_order (hr.mono (by first | decide | omega)) rfl (pa_cons (pe_ix ix_T (pvM 0) pe_int (fun _ _ => rfl)) pa_nil)) (pa_cons (pe_callF Fin_order (hr.mono (by first | decide | omega)) rfl (pa_cons (pvM 2) pa_nil)) pa_nil)))))))), ?_⟩
    obtain ⟨c, t, vs, h1, h2, h3, as, rfl, rfl, h4⟩ := hW
    (try ctx_has vcx true_and h1 h2 tSortB)
    have hcl : cs.length ≤ 12 := hok.1.2.2.2
    have hnd : cs.Nodup := hok.1.2.1
    have hal : as.length ≤ 7 := by have := hok.2.2.2; rw [List.length_map] at this; exact this
    refine ⟨cs, rfl, by simp, by omega, tb.t1, fun H2 r zs' s2 hr2 hpm hso => ?_⟩
    have ez : zs' = sk kT ((List.range cs.length).zip cs) := sk_uniq hpm hso (inj_t (zip_nd (by simp) hnd))
    have ez2 : zs'.map (fun z => V.int z.1) = (plc cs).map fun i : Nat => V.int i := by rw [ez]; unfold plc; rw [List.map_map]; rfl
    rw [ez2]
    have s3 := s2.upd_new (o := .lst ((plc cs).map fun i : Nat => V.int i)) hr2
    have h3r : upd H2 r (.lst ((plc cs).map fun i : Nat => V.int i)) r = some (.lst ((plc cs).map fun i : Nat => V.int i)) := upd_same
    generalize upd H2 r (.lst ((plc cs).map fun i : Nat => V.int i)) = H3 at s3 h3r ⊢
    have hpl : (plc cs).length = cs.length := by rw [(plc_perm cs).length_eq, List.length_range]
    refine ⟨_, s3 _ _ h1, _, atI_nat (j := 2) rfl, t, rfl, _, s3 _ _ h3, fun D hD => ?_⟩
    refine comp_new wlk_tup (f := fun x : Addr × List Int => pick 0 (plc cs) x.2) (c := fun r : List Int => r.map V.int) hD (fun H' s => .of (s _ _ (s3 _ _ h3))) (by omega) ?_ ?_
    · intro z hz H4 Q4 s4 q4
      have h4r := s4 _ _ h3r
      have h4z := s4 _ _ (s3 _ _ (h4 z hz))
      have hzl : z.2.length = cs.length := hok.2.2.1 z.2 (List.mem_map.mpr ⟨z, hz, rfl⟩)
      (try ctx_has vcx true_and h4r)
      intro D2 hD2
      refine comp_mapS wlk_list (fun v => match v with | .int i => .int (z.2.getD i.toNat 0) | _ => .non) hD2 (fun H' s => .of (s _ _ h4r)) (by rw [List.length_map]; omega) ?_ ?_
      · intro x H5 Q5 hx s5 q5
        obtain ⟨i, hi, rfl⟩ := List.mem_map.mp hx
        have hil : i < z.2.length := by rw [hzl]; exact List.mem_range.mp ((plc_perm cs).mem_iff.mp hi)
        have h5z := s5 _ _ h4z
        (try ctx_has vcx true_and h5z)
        refine ⟨_, atI_nat (by rw [List.getElem?_map, List.getElem?_eq_getElem hil]; rfl), ?_⟩
        have := q5 H5 (Same.refl _)
        simpa [List.getD_eq_getElem?_getD, hil] using this
      · intro H5 s5 h5
        (try ctx_has vcx true_and h5)
        intro t' ht'
        refine q4 t' _ (s5.upd_new ht') ?_
        rw [upd_same]
        unfold pick
        rw [List.map_map, List.map_map]
        rfl
    · intro bs H4 hbs hbt s4 h4D
      have s04 := s3.trans s4
      refine ⟨_, s04 _ _ h1, _, atI_nat (j := 1) rfl, ?_⟩
      refine ord_str (s04 _ _ h2) (by omega) fun r2 H5 s5 h5r => ?_
      have hok2 := ok_mix hok (mix_plain hok)
      have ebs : bs.map (·.2) = (as.map (·.2)).map (pick 0 (plc cs)) := by rw [hbs, List.map_map]; rfl
      have hbl : bs.length ≤ 60 := by have := congrArg List.length hbs; rw [List.length_map, List.length_map] at this; omega
      have hbn : (bs.map (·.2)).Nodup := by rw [ebs]; exact (sk_perm _ _).nodup_iff.mp hok2.2.1
      refine ord_rows (.inl (s5 _ _ h4D)) hbl (fun x hx => s5 _ _ (hbt x hx)) hbn (fun x hx e => ?_) fun r3 vs H6 s6 h6r hrv => ⟨by decide, fun w' hw' => ?_⟩
      · have : x.2 ∈ bs.map (·.2) := List.mem_map.mpr ⟨x, hx, rfl⟩
        rw [ebs, e] at this
        obtain ⟨r0, _, e0⟩ := List.mem_map.mp this
        have hc0 := hok.1.1
        unfold pick at e0
        rw [List.map_eq_nil_iff] at e0
        rw [e0] at hpl
        exact hc0 (List.length_eq_zero_iff.mp hpl.symm)
      · have s7 := Same.upd0 (o := .tup [V.str (Str.ofString "table"), V.ref r2, V.ref r3]) hw'
        refine k w' _ (((s04.trans s5).trans s6).trans s7) ⟨r2, r3, vs, upd_same, s7 _ _ (s6 _ _ h5r), s7 _ _ h6r, ?_⟩
        rw [ebs] at hrv
        exact hrv.keep fun a xs e => s7 _ _ e
theorem ok_plain_formB {P : Program} {w : World} {K : PySem.W.Frag} {mg : Str → Option Value} {base : Heap}  (T : Txt mg base) (L : FnLT K mg "plain_form" s_plain_form ["wish"] 28) (Fin_order : Fn P w K mg base "in_order" 1 ["things"] (spOrd)) (Fplain_table : Fn P w K mg base "plain_table" 2 ["wish"] (spPT)) : Fn P w K mg base "plain_form" 3 ["wish"] (spPlB) := by
  have nd := sc_plain_form.nd
  refine L.ok sc_plain_form (fun vs H Q E h => ?_) (fun f c hc A outer s H vs Q E hr h => ?_)
  · obtain ⟨w, ws, ns, W, rfl, tb, hW, hok, k⟩ := h
    rfl
  · obtain ⟨w, ws, ns, W, rfl, tb, hW, hok, k⟩ := h
    have hu := hu_of hr
    refine ⟨_, (pss_cons (ps_if (pt_cmpR op_eq (pe_ix ix_T (pvM 0) pe_int (fun _ _ => rfl)) pe_str (nomark _)) (pss_one (ps_ret (pe_tup (pa_cons pe_str (pa_cons (pe_callF Fin_order (hr.mono (by first | decide | omega)) rfl (pa_cons (pe_ix ix_T (pvM 0) pe_int (fun _ _ => rfl)) pa_nil)) pa_nil))))) pss_nil)
      (pss_cons (ps_if (pt_cmpR op_eq (pe_ix ix_T (pvM 0) pe_int (fun _ _ => rfl)) pe_str (nomark _)) (pss_one (ps_ret (pe_tup (pa_cons pe_str (pa_cons (pe_callF Fin_order (hr.mono (by first | decide | omega)) rfl (pa_cons (pe_ix ix_T (pvM 0) pe_int (fun _ _ => rfl)) pa_nil)) (pa_cons (pe_callF Fin_order (hr.mono (by first | decide | omega)) rfl (pa_cons (pe_ix ix_T (pvM 0) pe_int (fun _ _ => rfl)) pa_nil)) (pa_cons (pe_ix ix_T (pvM 0) pe_int (fun _ _ => rfl)) (pa_cons (pe_ix ix_T (pvM 0) pe_int (fun _ _ => rfl)) pa_nil)))))))) pss_nil)
      (pss_cons (ps_if (pt_cmpR op_eq (pe_ix ix_T (pvM 0) pe_int (fun _ _ => rfl)) pe_str (nomark _)) (pss_one (ps_ret (pe_tup (pa_cons pe_str (pa_cons (pe_callTy call_tupL rfl T.b_tuple (show bootBuiltins "tuple" = some (.type "tuple") by decide +kernel) (pa_cons (pe_sortA (pt := 28) (q := qL "plain_form") hr rfl T.b_sorted (pe_ix ix_T (pvM 0) pe_int (fun _ _ => rfl)) rfl hc T.bm rfl rfl rfl (fun _ _ _ _ => rfl) rfl rfl rfl rfl (by decide +kernel) (by decide) (fun _ _ => rfl)) pa_nil)) (pa_cons (pe_ix ix_T (pvM 0) pe_int (fun _ _ => rfl)) (pa_cons (pe_ix ix_T (pvM 0) pe_int (fun _ _ => rfl)) pa_nil))))))) pss_nil)
      (pss_cons (ps_if (pt_cmpR op_eq (pe_ix ix_T (pvM 0) pe_int (fun _ _ => rfl)) pe_str (nomark _)) (pss_one (ps_ret (pe_callF Fplain_table (hr.mono (by first | decide | omega)) rfl (pa_cons (pvM 0) pa_nil)))) pss_nil)
      (pss_cons (ps_if (pt_cmpR op_eq (pe_ix ix_T (pvM 0) pe_int (fun _ _ => rfl)) pe_str (nomark _)) (pss_one (ps_ret (pe_tup (pa_cons pe_str (pa_cons (pe_ix ix_T (pvM 0) pe_int (fun _ _ => rfl)) (pa_cons (pe_callF Fin_order (hr.mono (by first | decide | omega)) rfl (pa_cons (pe_ix ix_T (pvM 0) pe_int (fun _ _ => rfl)) pa_nil)) (pa_cons (pe_callF Fin_order (hr.mono (by first | decide | omega)) rfl (pa_cons (pe_ix ix_T (pvM 0) pe_int (fun _ _ => rfl)) pa_nil)) pa_nil))))))) pss_nil)
      (pss_cons (ps_if (pt_cmpR op_eq (pe_ix ix_T (pvM 0) pe_int (fun _ _ => rfl)) pe_str (nomark _)) (pss_one ps_never) pss_nil)
      (pss_one (ps_ret (pvM 0))))))))), ?_⟩
    cases W with
    | un cs =>
      obtain ⟨c, h1, h2⟩ := hW
      have hcl : cs.length ≤ 12 := hok.2.2.2
      (try ctx_has vcx true_and h1)
      refine ord_str h2 (by omega) fun r H1 s1 h1r => ⟨by decide, fun w' hw' => ?_⟩
      have s2 := Same.upd0 (o := .tup [V.str (Str.ofString "unlike"), V.ref r]) hw'
      exact k w' _ (s1.trans s2) ⟨r, upd_same, s2 _ _ h1r⟩
    | mn av cs lo hi =>
      obtain ⟨a, c, h1, h2, h3⟩ := hW
      have hcl : cs.length ≤ 12 := hok.1.2.2.2
      have hvl : av.length ≤ 20 := hok.2.2.2
      (try ctx_has vcx true_and h1)
      refine ord_int h2 (by omega) fun r H1 s1 h1r => ?_
      have h11 := s1 _ _ h1
      (try ctx_has vcx true_and h11)
      refine ord_str (s1 _ _ h3) (by omega) fun r2 H2 s2 h2r => ?_
      have h12 := s2 _ _ h11
      (try ctx_has vcx true_and h12)
      refine ⟨by decide, fun w' hw' => ?_⟩
      have s3 := Same.upd0 (o := .tup [V.str (Str.ofString "many"), V.ref r, V.ref r2, V.int lo, V.int hi]) hw'
      exact k w' _ ((s1.trans s2).trans s3) ⟨r, r2, upd_same, s3 _ _ (s2 _ _ h1r), s3 _ _ h2r⟩
    | sm ts lo hi =>
      obtain ⟨t, h1, as, h2, rfl, h3⟩ := hW
      have hal : as.length ≤ 12 := by have := hok.1.2.2.2; rw [List.length_map, List.length_map] at this; exact this
      (try ctx_has vcx true_and h1 tSortA)
      refine ⟨as.map fun x => (V.ref x.1, x.2.2), by rw [List.map_map]; exact h2, by rw [List.length_map]; omega, tb.t2, fun z hz => ?_, fun H2 r zs' s2 hr2 hpm hso => ⟨_, upd_same, fun l hl => ?_⟩⟩
      · obtain ⟨x, hx, rfl⟩ := List.mem_map.mp hz
        exact ⟨x.1, rfl, _, h3 x hx, atI_nat (j := 1) rfl⟩
      · obtain ⟨as', hp', rfl⟩ := perm_map_ex hpm rfl
        rw [List.map_map] at hso
        have hT : as'.map (·.2) = sk kT (as.map (·.2)) := sk_uniq (hp'.map _) (by rw [List.map_map]; exact hso) (inj_t hok.1.2.1)
        have s4 := (s2.upd_new hr2).upd_new (o := .tup ((as'.map fun x => (V.ref x.1, x.2.2)).map fun x => x.1)) hl
        have h4l : upd (upd H2 r (.lst ((as'.map fun x => (V.ref x.1, x.2.2)).map fun x => x.1))) l (.tup ((as'.map fun x => (V.ref x.1, x.2.2)).map fun x => x.1)) l = some (.tup (as'.map fun x => V.ref x.1)) := by rw [upd_same, List.map_map]; rfl
        generalize upd (upd H2 r (.lst ((as'.map fun x => (V.ref x.1, x.2.2)).map fun x => x.1))) l (.tup ((as'.map fun x => (V.ref x.1, x.2.2)).map fun x => x.1)) = H4 at s4 h4l ⊢
        refine ⟨_, s4 _ _ h1, _, atI_nat (j := 2) rfl, _, s4 _ _ h1, _, atI_nat (j := 3) rfl, by decide, fun p hp => ?_⟩
        have s5 := Same.upd0 (o := .tup [V.str (Str.ofString "sum"), V.ref l, bV lo, bV hi]) hp
        exact k p _ (s4.trans s5) ⟨l, upd_same, as', s5 _ _ h4l, hT, fun x hx => s5 _ _ (s4 _ _ (h3 x (hp'.mem_iff.mp hx)))⟩
    | tb cs rows =>
      obtain ⟨c, t, vs, h1, h2, h3, h4⟩ := id hW
      (try ctx_has vcx true_and h1)
      exact ⟨w, ws, cs, ns, rows, rfl, tb, hW, hok, k⟩
    | wy cs ps es =>
      obtain ⟨c, t, e, vs, h1, h2, h3, ⟨as, rfl, rfl, h4⟩, h5⟩ := hW
      have hpl : as.length ≤ 60 := by have := hok.2.2.1; rw [List.length_map] at this; exact this
      have hel : es.length ≤ 60 := hok.2.2.2
      have hpn : (as.map (·.2)).Nodup := nd_of_map hok.2.1
      (try ctx_has vcx true_and h1)
      refine ord_steps h3 hpl h4 hpn fun r vs H1 s1 h1r hst => ?_
      have h11 := s1 _ _ h1
      (try ctx_has vcx true_and h11)
      refine ord_int (s1 _ _ h5) hel fun r2 H2 s2 h2r => ⟨by decide, fun w' hw' => ?_⟩
      have s3 := Same.upd0 (o := .tup [V.str (Str.ofString "way"), V.ref c, V.ref r, V.ref r2]) hw'
      exact k w' _ ((s1.trans s2).trans s3) ⟨c, r, r2, vs, upd_same, s3 _ _ (s2 _ _ (s1 _ _ h2)), s3 _ _ (s2 _ _ h1r), hst.keep fun a xs e => s3 _ _ (s2 _ _ e), s3 _ _ h2r⟩
    | bh cs gap =>
      obtain ⟨c, h1, h2⟩ := id hW
      (try ctx_has vcx true_and h1)
      exact k w H (Same.refl H) hW
theorem ok_plain_formS {P : Program} {w : World} {K : PySem.W.Frag} {mg : Str → Option Value} {base : Heap}  (T : Txt mg base) (L : FnLT K mg "plain_form" s_plain_form ["wish"] 28) (Fplain_form : Fn P w K mg base "plain_form" 3 ["wish"] (spPlB)) (Fin_order : Fn P w K mg base "in_order" 1 ["things"] (spOrd)) : Fn P w K mg base "plain_form" 4 ["wish"] (spPlS) := by
  have nd := sc_plain_form.nd
  refine L.ok sc_plain_form (fun vs H Q E h => ?_) (fun f c hc A outer s H vs Q E hr h => ?_)
  · obtain ⟨w, ws, ns, c, us, W, rfl, tb, hW, hok, k⟩ := h
    rfl
  · obtain ⟨w, ws, ns, c, us, W, rfl, tb, hW, hok, k⟩ := h
    have hu := hu_of hr
    refine ⟨_, (pss_cons (ps_if (pt_cmpR op_eq (pe_ix ix_T (pvM 0) pe_int (fun _ _ => rfl)) pe_str (nomark _)) (pss_one ps_never) pss_nil)
      (pss_cons (ps_if (pt_cmpR op_eq (pe_ix ix_T (pvM 0) pe_int (fun _ _ => rfl)) pe_str (nomark _)) (pss_one ps_never) pss_nil)
      (pss_cons (ps_if (pt_cmpR op_eq (pe_ix ix_T (pvM 0) pe_int (fun _ _ => rfl)) pe_str (nomark _)) (pss_one ps_never) pss_nil)
      (pss_cons (ps_if (pt_cmpR op_eq (pe_ix ix_T (pvM 0) pe_int (fun _ _ => rfl)) pe_str (nomark _)) (pss_one ps_never) pss_nil)
      (pss_cons (ps_if (pt_cmpR op_eq (pe_ix ix_T (pvM 0) pe_int (fun _ _ => rfl)) pe_str (nomark _)) (pss_one ps_never) pss_nil)
      (pss_cons (ps_if (pt_cmpR op_eq (pe_ix ix_T (pvM 0) pe_int (fun _ _ => rfl)) pe_str (nomark _)) (pss_one (ps_ret (pe_tup (pa_cons pe_str (pa_cons (pe_ix ix_T (pvM 0) pe_int (fun _ _ => rfl)) (pa_cons (pe_callF Fin_order (hr.mono (by first | decide | omega)) rfl (pa_cons (pe_ix ix_T (pvM 0) pe_int (fun _ _ => rfl)) pa_nil)) (pa_cons (pe_callF Fplain_form (hr.mono (by first | decide | omega)) rfl (pa_cons (pe_ix ix_T (pvM 0) pe_int (fun _ _ => rfl)) pa_nil)) pa_nil))))))) pss_nil)
      (pss_one ps_never))))))), ?_⟩
    obtain ⟨t, u, h1, h2, h3⟩ := hW
    have hul : us.length ≤ 20 := hok.2.1.2.2
    (try ctx_has vcx true_and h1)
    refine ord_int h2 (by omega) fun r H1 s1 h1r => ?_
    have h11 := s1 _ _ h1
    (try ctx_has vcx true_and h11)
    refine ⟨u, ws, ns, W, rfl, tb.same s1, WS_keep h3 fun a xs e => s1 _ _ e, hok.2.2.1, fun r2 H2 s2 hr2 => ⟨by decide, fun w' hw' => ?_⟩⟩
    have s3 := Same.upd0 (o := .tup [V.str (Str.ofString "same"), V.str c, V.ref r, V.ref r2]) hw'
    exact k w' _ ((s1.trans s2).trans s3) ⟨r, r2, upd_same, s3 _ _ (s2 _ _ h1r), WS_keep hr2 fun a xs e => s3 _ _ e⟩
theorem ok__law_plainB {P : Program} {w : World} {K : PySem.W.Frag} {mg : Str → Option Value} {base : Heap}  (T : Txt mg base) (L : FnL K mg "_law_plain" s__law_plain ["_law_wish_here"]) (F_law_rising : Fn P w K mg base "_law_rising" 3 ["_law_things"] (spOrd)) (F_law_by_key : Fn P w K mg base "_law_by_key" 2 ["_law_things", "_law_keys"] (spByK)) : Fn P w K mg base "_law_plain" 4 ["_law_wish_here"] (spPlB) := by
  have nd := sc__law_plain.nd
  refine L.ok sc__law_plain (fun vs H Q E h => ?_) (fun f cdv A outer s H vs Q E hr h => ?_)
  · obtain ⟨w, ws, ns, W, rfl, tb, hW, hok, k⟩ := h
    rfl
  · obtain ⟨w, ws, ns, W, rfl, tb, hW, hok, k⟩ := h
    have hu := hu_of hr
    refine ⟨_, (pss_cons (ps_if (pt_cmpR op_eq (pe_ix ix_T (pvM 0) pe_int (fun _ _ => rfl)) pe_str (nomark _)) (pss_one ps_never) pss_nil)
      (pss_cons (ps_if (pt_cmpR op_eq (pe_ix ix_T (pvM 0) pe_int (fun _ _ => rfl)) pe_str (nomark _)) (pss_one (ps_ret (pe_tup (pa_cons pe_str (pa_cons (pe_callF F_law_rising (hr.mono (by first | decide | omega)) rfl (pa_cons (pe_ix ix_T (pvM 0) pe_int (fun _ _ => rfl)) pa_nil)) (pa_cons (pe_callF F_law_rising (hr.mono (by first | decide | omega)) rfl (pa_cons (pe_ix ix_T (pvM 0) pe_int (fun _ _ => rfl)) pa_nil)) (pa_cons (pe_ix ix_T (pvM 0) pe_int (fun _ _ => rfl)) (pa_cons (pe_ix ix_T (pvM 0) pe_int (fun _ _ => rfl)) pa_nil)))))))) pss_nil)
      (pss_cons (ps_if (pt_cmpR op_eq (pe_ix ix_T (pvM 0) pe_int (fun _ _ => rfl)) pe_str (nomark _)) (pss_one (ps_ret (pe_tup (pa_cons pe_str (pa_cons (pe_callF F_law_rising (hr.mono (by first | decide | omega)) rfl (pa_cons (pe_ix ix_T (pvM 0) pe_int (fun _ _ => rfl)) pa_nil)) pa_nil))))) pss_nil)
      (pss_cons (ps_if (pt_cmpR op_eq (pe_ix ix_T (pvM 0) pe_int (fun _ _ => rfl)) pe_str (nomark _)) (pss_one (ps_ret (pe_op op_catTs (pe_tup (pa_cons pe_str (pa_cons (pe_callTy call_tupL rfl T.b_tuple (show bootBuiltins "tuple" = some (.type "tuple") by decide +kernel) (pa_cons (pe_callF F_law_by_key (hr.mono (by first | decide | omega)) rfl (pa_cons (pe_callTy call_listT rfl T.b_list (show bootBuiltins "list" = some (.type "list") by decide +kernel) (pa_cons (pe_ix ix_T (pvM 0) pe_int (fun _ _ => rfl)) pa_nil)) (pa_cons (pe_comp (N := ["_law_a", "_law_name"]) (nt := 2) (js := []) rfl (compOk_of ["_law_wish_here", "_law_rows_here"] (defScope s__law_plain).names rfl rfl rfl (by decide +kernel)) (pi_TK (K := K) rfl (pe_ix ix_T (pvM 0) pe_int (fun _ _ => rfl))) (fun _ _ _ _ _ _ => (pg_tupT (n := 2) rfl (pgs_cons (pg_name (i := 0) (show List.Nodup [("_law_a" : Str), ("_law_name" : Str)] by decide +kernel) rfl (Or.inl rfl)) (pgs_cons (pg_name (i := 1) (show List.Nodup [("_law_a" : Str), ("_law_name" : Str)] by decide +kernel) rfl (Or.inl rfl)) pgs_nil)))) (tgOk_tupT2 (by decide) (by decide) (by decide)) (fun _ _ _ _ _ _ => pts_nil) (fun _ _ _ _ _ _ => (pvM 1))) pa_nil))) pa_nil)) pa_nil))) (pe_slice sl_Ts (pvM 0) (po_some pe_int) po_none)))) pss_nil)
      (pss_cons (ps_if (pt_cmpR op_eq (pe_ix ix_T (pvM 0) pe_int (fun _ _ => rfl)) pe_str (nomark _)) (pss_one (ps_ret (pe_tup (pa_cons pe_str (pa_cons (pe_ix ix_T (pvM 0) pe_int (fun _ _ => rfl)) (pa_cons (pe_callF F_law_rising (hr.mono (by first | decide | omega)) rfl (pa_cons (pe_ix ix_T (pvM 0) pe_int (fun _ _ => rfl)) pa_nil)) (pa_cons (pe_callF F_law_rising (hr.mono (by first | decide | omega)) rfl (pa_cons (pe_ix ix_T (pvM 0) pe_int (fun _ _ => rfl)) pa_nil)) pa_nil))))))) pss_nil)
      (pss_cons (ps_if (pt_cmpR op_eq (pe_ix ix_T (pvM 0) pe_int (fun _ _ => rfl)) pe_str (nomark _)) (pss_cons (ps_setC (i := 1) (N := ["_law_row", "_law_wish_here"]) (nt := 1) (js := [0]) nd rfl (by first | exact Or.inl rfl | exact Or.inr rfl) rfl (compOk_of ["_law_wish_here", "_law_rows_here"] (defScope s__law_plain).names rfl rfl rfl (by decide +kernel)) (pi_TK (K := K) rfl (pe_ix ix_T (pvM 0) pe_int (fun _ _ => rfl))) (fun _ _ _ _ _ _ => (pg_name (i := 0) (show List.Nodup [("_law_row" : Str), ("_law_wish_here" : Str)] by decide +kernel) rfl (Or.inl rfl))) (tgOk_name (by decide)) (fun _ _ _ _ _ _ => pts_nil) (fun _ _ _ _ _ _ => (pe_callTy call_tupL rfl T.b_tuple (show bootBuiltins "tuple" = some (.type "tuple") by decide +kernel) (pa_cons (pe_callF F_law_by_key (hr.mono (by first | decide | omega)) rfl (pa_cons (pe_callTy call_listT rfl T.b_list (show bootBuiltins "list" = some (.type "list") by decide +kernel) (pa_cons (pvM 0) pa_nil)) (pa_cons (pe_callTy call_listT rfl T.b_list (show bootBuiltins "list" = some (.type "list") by decide +kernel) (pa_cons (pe_ix ix_T (pvM 1) pe_int (fun _ _ => rfl)) pa_nil)) pa_nil))) pa_nil))))
      (pss_one (ps_ret (pe_tup (pa_cons pe_str (pa_cons (pe_callF F_law_rising (hr.mono (by first | decide | omega)) rfl (pa_cons (pe_ix ix_T (pvM 0) pe_int (fun _ _ => rfl)) pa_nil)) (pa_cons (pe_callF F_law_rising (hr.mono (by first | decide | omega)) rfl (pa_cons (pvM 1) pa_nil)) pa_nil))))))) pss_nil)
      (pss_one (ps_ret (pvM 0))))))))), ?_⟩
    cases W with
    | un cs =>
      obtain ⟨c, h1, h2⟩ := hW
      have hcl : cs.length ≤ 12 := hok.2.2.2
      (try ctx_has vcx true_and h1)
      refine ord_str h2 (by omega) fun r H1 s1 h1r => ⟨by decide, fun w' hw' => ?_⟩
      have s2 := Same.upd0 (o := .tup [V.str (Str.ofString "unlike"), V.ref r]) hw'
      exact k w' _ (s1.trans s2) ⟨r, upd_same, s2 _ _ h1r⟩
    | mn av cs lo hi =>
      obtain ⟨a, c, h1, h2, h3⟩ := hW
      have hcl : cs.length ≤ 12 := hok.1.2.2.2
      have hvl : av.length ≤ 20 := hok.2.2.2
      (try ctx_has vcx true_and h1)
      refine ord_int h2 (by omega) fun r H1 s1 h1r => ?_
      have h11 := s1 _ _ h1
      (try ctx_has vcx true_and h11)
      refine ord_str (s1 _ _ h3) (by omega) fun r2 H2 s2 h2r => ?_
      have h12 := s2 _ _ h11
      (try ctx_has vcx true_and h12)
      refine ⟨by decide, fun w' hw' => ?_⟩
      have s3 := Same.upd0 (o := .tup [V.str (Str.ofString "many"), V.ref r, V.ref r2, V.int lo, V.int hi]) hw'
      exact k w' _ ((s1.trans s2).trans s3) ⟨r, r2, upd_same, s3 _ _ (s2 _ _ h1r), s3 _ _ h2r⟩
    | sm ts lo hi =>
      obtain ⟨t, h1, as, h2, rfl, h3⟩ := hW
      have hal : as.length ≤ 12 := by have := hok.1.2.2.2; rw [List.length_map, List.length_map] at this; exact this
      (try ctx_has vcx true_and h1 h2)
      intro l1 hl1
      have s1 := Same.upd0 (o := .lst (as.map fun x => V.ref x.1)) hl1
      have h1l : upd H l1 (.lst (as.map fun x => V.ref x.1)) l1 = some (.lst (as.map fun x => V.ref x.1)) := upd_same
      generalize upd H l1 (.lst (as.map fun x => V.ref x.1)) = H1 at s1 h1l ⊢
      refine ⟨_, s1 _ _ h1, _, atI_nat (j := 1) rfl, t, rfl, _, s1 _ _ h2, fun D hD => ?_⟩
      refine comp_g wlk_tup (fun i ys H' => ys = (as.take i).map (fun x => V.str x.2.2) ∧ H' D = some (.lst ys) ∧ Same H1 H') ⟨by simp, upd_same, Same.upd0 hD⟩ (fun i ys H' zq52 => by obtain ⟨_, _, s⟩ := zq52; exact (.of (s _ _ (s1 _ _ h2)))) ?_ ?_
      · rintro i x ys H3 hi hx ⟨rfl, h3D, s3⟩
        rw [List.length_map] at hi
        have hei : as[i]? = some as[i] := List.getElem?_eq_getElem hi
        rw [List.getElem?_map, hei] at hx
        cases hx
        have e1 := s3 _ _ (s1 _ _ (h3 as[i] (List.getElem_mem hi)))
        (try ctx_has vcx true_and e1)
        refine ⟨h3D, by simp; exact small1000 (by omega), ?_, upd_same, fun b' o e => by rw [upd_ne (ne_of_none e hD)]; exact s3 _ _ e⟩
        rw [List.take_add_one, hei, List.map_append]
        rfl
      · rintro ys H2 ⟨rfl, h2D, s2⟩
        rw [List.length_map, List.take_length] at h2D
        refine ⟨l1, D, as.map fun x => (V.ref x.1, PySem.W.Ky.s x.2.2), as.map fun x => V.str x.2.2, rfl, by rw [List.map_map]; exact s2 _ _ h1l, h2D, by simp, fun i v z e1 e2 => ?_, by simp; omega, ⟨0, fun z hz => ?_⟩, fun r zs' H3 s3 hpm hso h3r => ⟨r, rfl, _, h3r, fun l2 hl2 => ⟨by decide, fun p hp => ?_⟩⟩⟩
        · rw [List.getElem?_map] at e1 e2
          cases ea : as[i]? with
          | none => rw [ea] at e1; cases e1
          | some x => rw [ea] at e1 e2; cases e1; cases e2; rfl
        · obtain ⟨x, _, rfl⟩ := List.mem_map.mp hz
          rfl
        · obtain ⟨as', hp', rfl⟩ := perm_map_ex hpm rfl
          rw [List.map_map] at hso
          have hT : as'.map (·.2) = sk kT (as.map (·.2)) := sk_uniq (hp'.map _) (by rw [List.map_map]; exact hso) (inj_t hok.1.2.1)
          have lp : l2 ≠ p := fun z => by rw [← z, upd_same] at hp; cases hp
          have s5 := (Same.upd0 hl2).upd_new (o := .tup [V.str (Str.ofString "sum"), V.ref l2]) hp
          have h5l : upd (upd H3 l2 (.tup ((as'.map fun x => (V.ref x.1, PySem.W.Ky.s x.2.2)).map fun x => x.1))) p (.tup [V.str (Str.ofString "sum"), V.ref l2]) l2 = some (.tup (as'.map fun x => V.ref x.1)) := by rw [upd_ne lp, upd_same, List.map_map]; rfl
          have h5p : upd (upd H3 l2 (.tup ((as'.map fun x => (V.ref x.1, PySem.W.Ky.s x.2.2)).map fun x => x.1))) p (.tup [V.str (Str.ofString "sum"), V.ref l2]) p = some (.tup [V.str (Str.ofString "sum"), V.ref l2]) := upd_same
          generalize upd (upd H3 l2 (.tup ((as'.map fun x => (V.ref x.1, PySem.W.Ky.s x.2.2)).map fun x => x.1))) p (.tup [V.str (Str.ofString "sum"), V.ref l2]) = H5 at s5 h5l h5p ⊢
          have s05 := ((s1.trans s2).trans s3).trans s5
          refine ⟨_, s05 _ _ h1, fun p6 H6 h6 s6 => ?_⟩
          rw [cut_two] at h6
          refine ⟨_, s6 _ _ h5p, _, h6, Nat.le_of_lt (small1000 (by simp)), fun p7 H7 h7 s7 => ?_⟩
          have s57 := s6.trans s7
          exact k p7 _ (s05.trans s57) ⟨l2, h7, as', s57 _ _ h5l, hT, fun x hx => s57 _ _ (s05 _ _ (h3 x (hp'.mem_iff.mp hx)))⟩
    | tb cs rows =>
      obtain ⟨c, t, vs, h1, h2, h3, as, rfl, rfl, h4⟩ := hW
      have hcl : cs.length ≤ 12 := hok.1.2.2.2
      have hnd : cs.Nodup := hok.1.2.1
      have hal : as.length ≤ 7 := by have := hok.2.2.2; rw [List.length_map] at this; exact this
      have hpl : (plc cs).length = cs.length := by rw [(plc_perm cs).length_eq, List.length_range]
      (try ctx_has vcx true_and h1 h3)
      intro D hD
      refine comp_new wlk_tup (f := fun x : Addr × List Int => pick 0 (plc cs) x.2) (c := fun r : List Int => r.map V.int) hD (fun H' s => .of (s _ _ h3)) (by omega) ?_ ?_
      · intro z hz H4 Q4 s4 q4
        have h4z := s4 _ _ (h4 z hz)
        have h41 := s4 _ _ h1
        have hzl : z.2.length = cs.length := hok.2.2.1 z.2 (List.mem_map.mpr ⟨z, hz, rfl⟩)
        (try ctx_has vcx true_and h4z)
        intro l1 hl1
        have s5 := Same.upd0 (o := .lst (z.2.map V.int)) hl1
        refine ⟨_, s5 _ _ h41, _, atI_nat (j := 1) rfl, c, rfl, _, s5 _ _ (s4 _ _ h2), fun l2 hl2 => ?_⟩
        have s6 := s5.upd_new (o := .lst (cs.map V.str)) hl2
        have n12 : l1 ≠ l2 := fun e => by rw [← e, upd_same] at hl2; cases hl2
        refine ⟨l1, l2, (z.2.zip cs).map fun y => (V.int y.1, PySem.W.Ky.s y.2), cs.map V.str, rfl, ?_, upd_same, by simp; omega, fun i v y e1 e2 => ?_, by simp; omega, ⟨0, fun y hy => ?_⟩, fun r zs' H7 s7 hpm hso h7r => ⟨r, rfl, _, h7r, fun q hq => ?_⟩⟩
        · rw [upd_ne n12, upd_same, List.map_map]
          have e : ((fun x : V × PySem.W.Ky => x.1) ∘ fun y : Int × Str => (V.int y.1, PySem.W.Ky.s y.2)) = V.int ∘ Prod.fst := rfl
          rw [e, ← List.map_map, List.map_fst_zip (by omega)]
        · rw [List.getElem?_map] at e1 e2
          cases ey : (z.2.zip cs)[i]? with
          | none => rw [ey] at e2; cases e2
          | some y' =>
            rw [ey] at e2
            cases e2
            obtain ⟨_, ec⟩ := List.getElem?_zip_eq_some.mp ey
            rw [ec] at e1
            cases e1
            rfl
        · obtain ⟨x, _, rfl⟩ := List.mem_map.mp hy
          rfl
        · obtain ⟨l', hp', rfl⟩ := perm_map_ex hpm rfl
          rw [List.map_map] at hso
          have hT : l' = sk kT (z.2.zip cs) := sk_uniq hp' hso (inj_t (zip_nd (by omega) hnd))
          refine q4 q _ ((s6.trans s7).upd_new hq) ?_
          rw [upd_same, hT, plc_row hnd hzl, List.map_map, List.map_map]
          rfl
      · intro bs H4 hbs hbt s4 h4D
        refine ⟨_, s4 _ _ h1, _, atI_nat (j := 1) rfl, ?_⟩
        refine ord_str (s4 _ _ h2) (by omega) fun r2 H5 s5 h5r => ?_
        have hok2 := ok_mix hok (mix_plain hok)
        have ebs : bs.map (·.2) = (as.map (·.2)).map (pick 0 (plc cs)) := by rw [hbs, List.map_map]; rfl
        have hbl : bs.length ≤ 60 := by have := congrArg List.length hbs; rw [List.length_map, List.length_map] at this; omega
        have hbn : (bs.map (·.2)).Nodup := by rw [ebs]; exact (sk_perm _ _).nodup_iff.mp hok2.2.1
        refine ord_rows (.inl (s5 _ _ h4D)) hbl (fun x hx => s5 _ _ (hbt x hx)) hbn (fun x hx e => ?_) fun r3 vs H6 s6 h6r hrv => ⟨by decide, fun w' hw' => ?_⟩
        · have : x.2 ∈ bs.map (·.2) := List.mem_map.mpr ⟨x, hx, rfl⟩
          rw [ebs, e] at this
          obtain ⟨r0, _, e0⟩ := List.mem_map.mp this
          have hc0 := hok.1.1
          unfold pick at e0
          rw [List.map_eq_nil_iff] at e0
          rw [e0] at hpl
          exact hc0 (List.length_eq_zero_iff.mp hpl.symm)
        · have s7 := Same.upd0 (o := .tup [V.str (Str.ofString "table"), V.ref r2, V.ref r3]) hw'
          refine k w' _ (((s4.trans s5).trans s6).trans s7) ⟨r2, r3, vs, upd_same, s7 _ _ (s6 _ _ h5r), s7 _ _ h6r, ?_⟩
          rw [ebs] at hrv
          exact hrv.keep fun a xs e => s7 _ _ e
    | wy cs ps es =>
      obtain ⟨c, t, e, vs, h1, h2, h3, ⟨as, rfl, rfl, h4⟩, h5⟩ := hW
      have hpl : as.length ≤ 60 := by have := hok.2.2.1; rw [List.length_map] at this; exact this
      have hel : es.length ≤ 60 := hok.2.2.2
      have hpn : (as.map (·.2)).Nodup := nd_of_map hok.2.1
      (try ctx_has vcx true_and h1)
      refine ord_steps h3 hpl h4 hpn fun r vs H1 s1 h1r hst => ?_
      have h11 := s1 _ _ h1
      (try ctx_has vcx true_and h11)
      refine ord_int (s1 _ _ h5) hel fun r2 H2 s2 h2r => ⟨by decide, fun w' hw' => ?_⟩
      have s3 := Same.upd0 (o := .tup [V.str (Str.ofString "way"), V.ref c, V.ref r, V.ref r2]) hw'
      exact k w' _ ((s1.trans s2).trans s3) ⟨c, r, r2, vs, upd_same, s3 _ _ (s2 _ _ (s1 _ _ h2)), s3 _ _ (s2 _ _ h1r), hst.keep fun a xs e => s3 _ _ (s2 _ _ e), s3 _ _ h2r⟩
    | bh cs gap =>
      obtain ⟨c, h1, h2⟩ := id hW
      (try ctx_has vcx true_and h1)
      exact k w H (Same.refl H) hW
theorem ok__law_plainS {P : Program} {w : World} {K : PySem.W.Frag} {mg : Str → Option Value} {base : Heap}  (T : Txt mg base) (L : FnL K mg "_law_plain" s__law_plain ["_law_wish_here"]) (F_law_plain : Fn P w K mg base "_law_plain" 4 ["_law_wish_here"] (spPlB)) (F_law_rising : Fn P w K mg base "_law_rising" 3 ["_law_things"] (spOrd)) : Fn P w K mg base "_law_plain" 5 ["_law_wish_here"] (spPlS) := by
  have nd := sc__law_plain.nd
  refine L.ok sc__law_plain (fun vs H Q E h => ?_) (fun f cdv A outer s H vs Q E hr h => ?_)
  · obtain ⟨w, ws, ns, c, us, W, rfl, tb, hW, hok, k⟩ := h
    rfl
  · obtain ⟨w, ws, ns, c, us, W, rfl, tb, hW, hok, k⟩ := h
    have hu := hu_of hr
    refine ⟨_, (pss_cons (ps_if (pt_cmpR op_eq (pe_ix ix_T (pvM 0) pe_int (fun _ _ => rfl)) pe_str (nomark _)) (pss_one (ps_ret (pe_tup (pa_cons pe_str (pa_cons (pe_ix ix_T (pvM 0) pe_int (fun _ _ => rfl)) (pa_cons (pe_callF F_law_rising (hr.mono (by first | decide | omega)) rfl (pa_cons (pe_ix ix_T (pvM 0) pe_int (fun _ _ => rfl)) pa_nil)) (pa_cons (pe_callF F_law_plain (hr.mono (by first | decide | omega)) rfl (pa_cons (pe_ix ix_T (pvM 0) pe_int (fun _ _ => rfl)) pa_nil)) pa_nil))))))) pss_nil)
      (pss_cons (ps_if (pt_cmpR op_eq (pe_ix ix_T (pvM 0) pe_int (fun _ _ => rfl)) pe_str (nomark _)) (pss_one ps_never) pss_nil)
      (pss_cons (ps_if (pt_cmpR op_eq (pe_ix ix_T (pvM 0) pe_int (fun _ _ => rfl)) pe_str (nomark _)) (pss_one ps_never) pss_nil)
      (pss_cons (ps_if (pt_cmpR op_eq (pe_ix ix_T (pvM 0) pe_int (fun _ _ => rfl)) pe_str (nomark _)) (pss_one ps_never) pss_nil)
      (pss_cons (ps_if (pt_cmpR op_eq (pe_ix ix_T (pvM 0) pe_int (fun _ _ => rfl)) pe_str (nomark _)) (pss_one ps_never) pss_nil)
      (pss_cons (ps_if (pt_cmpR op_eq (pe_ix ix_T (pvM 0) pe_int (fun _ _ => rfl)) pe_str (nomark _)) (pss_cons ps_never
      (pss_one ps_never)) pss_nil)
      (pss_one ps_never))))))), ?_⟩
    obtain ⟨t, u, h1, h2, h3⟩ := hW
    have hul : us.length ≤ 20 := hok.2.1.2.2
    (try ctx_has vcx true_and h1)
    refine ord_int h2 (by omega) fun r H1 s1 h1r => ?_
    have h11 := s1 _ _ h1
    (try ctx_has vcx true_and h11)
    refine ⟨u, ws, ns, W, rfl, tb.same s1, WS_keep h3 fun a xs e => s1 _ _ e, hok.2.2.1, fun r2 H2 s2 hr2 => ⟨by decide, fun w' hw' => ?_⟩⟩
    have s3 := Same.upd0 (o := .tup [V.str (Str.ofString "same"), V.str c, V.ref r, V.ref r2]) hw'
    exact k w' _ ((s1.trans s2).trans s3) ⟨r, r2, upd_same, s3 _ _ (s2 _ _ h1r), WS_keep hr2 fun a xs e => s3 _ _ e⟩
theorem some_all {H : Hp} {d l a : Addr} {xs : List V} {Q : VK} {E : XK} {m : Int} (D : DealAt H d l) (ha : sqOf H a xs) (hm : m = xs.length) (hl : xs.length ≤ 60) (q : ∀ p got H', got.Perm xs → H' p = some (.tup got) → DealAt H' d l → But d l H H' → Q (.ref p) H') : spSome [.ref d, .ref a, .int m] H Q E := by
  refine ⟨d, l, a, m, xs, rfl, D, ha, by omega, by omega, hl, fun p got rest H' _ hpm hml hp D' B' => ?_⟩
  have hr : rest = [] := by
    have := hpm.length_eq
    rw [List.length_append] at this
    exact List.length_eq_zero_iff.mp (by omega)
  rw [hr, List.append_nil] at hpm
  exact q p got H' hpm hp D' B'
noncomputable def spMixB : Sp := fun vs H Q _ => ∃ (d l w : Addr) (ws : List Str) (ns : List Int) (W : Wi), vs = [.ref d, .ref w] ∧ DealAt H d l ∧ WS H w W ∧ okW ws ns W ∧ ∀ r W' H', WS H' r W' → mixW W W' → DealAt H' d l → But d l H H' → Q (.ref r) H'
noncomputable def spMixS : Sp := fun vs H Q _ => ∃ (d l w : Addr) (ws : List Str) (ns : List Int) (c : Str) (us : List Int) (W : Wi), vs = [.ref d, .ref w] ∧ DealAt H d l ∧ WX H w (.sa c us W) ∧ okX ws ns (.sa c us W) ∧ ∀ r W' H', WX H' r W' → mixX (.sa c us W) W' → DealAt H' d l → But d l H H' → Q (.ref r) H'
theorem ok__law_mixed_upB {P : Program} {w : World} {K : PySem.W.Frag} {mg : Str → Option Value} {base : Heap}  (T : Txt mg base) (L : FnL K mg "_law_mixed_up" s__law_mixed_up ["_law_deal_here", "_law_wish_here"]) (F_law_some : Fn P w K mg base "_law_some" 2 ["_law_deal_here", "_law_things", "_law_least"] (spSome)) : Fn P w K mg base "_law_mixed_up" 3 ["_law_deal_here", "_law_wish_here"] (spMixB) := by
  have nd := sc__law_mixed_up.nd
  refine L.ok sc__law_mixed_up (fun vs H Q E h => ?_) (fun f cdv A outer s H vs Q E hr h => ?_)
  · obtain ⟨d, l, w, ws, ns, W, rfl, D, hW, hok, k⟩ := h
    rfl
  · obtain ⟨d, l, w, ws, ns, W, rfl, D, hW, hok, k⟩ := h
    have hu := hu_of hr
    refine ⟨_, (pss_cons (ps_if (pt_cmpR op_eq (pe_ix ix_T (pvM 1) pe_int (fun _ _ => rfl)) pe_str (nomark _)) (pss_one ps_never) pss_nil)
      (pss_cons (ps_if (pt_cmpR op_eq (pe_ix ix_T (pvM 1) pe_int (fun _ _ => rfl)) pe_str (nomark _)) (pss_cons (ps_set (i := 2) nd rfl (by first | exact Or.inl rfl | exact Or.inr rfl) (pe_callF F_law_some (hr.mono (by first | decide | omega)) rfl (pa_cons (pvM 0) (pa_cons (pe_ix ix_T (pvM 1) pe_int (fun _ _ => rfl)) (pa_cons (pe_callB call_lenT rfl T.b_len PySem.boot_len (pa_cons (pe_ix ix_T (pvM 1) pe_int (fun _ _ => rfl)) pa_nil)) pa_nil)))))
      (pss_one (ps_ret (pe_tup (pa_cons pe_str (pa_cons (pe_callF F_law_some (hr.mono (by first | decide | omega)) rfl (pa_cons (pvM 0) (pa_cons (pe_ix ix_T (pvM 1) pe_int (fun _ _ => rfl)) (pa_cons (pe_callB call_lenT rfl T.b_len PySem.boot_len (pa_cons (pe_ix ix_T (pvM 1) pe_int (fun _ _ => rfl)) pa_nil)) pa_nil)))) (pa_cons (pvM 2) (pa_cons (pe_ix ix_T (pvM 1) pe_int (fun _ _ => rfl)) (pa_cons (pe_ix ix_T (pvM 1) pe_int (fun _ _ => rfl)) pa_nil))))))))) pss_nil)
      (pss_cons (ps_if (pt_cmpR op_inT (pe_ix ix_T (pvM 1) pe_int (fun _ _ => rfl)) (pe_tup (pa_cons pe_str (pa_cons pe_str pa_nil))) (by with_unfolding_all rfl)) (pss_one (ps_ret (pe_op op_catTs (pe_tup (pa_cons (pe_ix ix_T (pvM 1) pe_int (fun _ _ => rfl)) (pa_cons (pe_callF F_law_some (hr.mono (by first | decide | omega)) rfl (pa_cons (pvM 0) (pa_cons (pe_ix ix_T (pvM 1) pe_int (fun _ _ => rfl)) (pa_cons (pe_callB call_lenT rfl T.b_len PySem.boot_len (pa_cons (pe_ix ix_T (pvM 1) pe_int (fun _ _ => rfl)) pa_nil)) pa_nil)))) pa_nil))) (pe_slice sl_Ts (pvM 1) (po_some pe_int) po_none)))) pss_nil)
      (pss_cons (ps_if (pt_cmpR op_eq (pe_ix ix_T (pvM 1) pe_int (fun _ _ => rfl)) pe_str (nomark _)) (pss_cons (ps_set (i := 3) nd rfl (by first | exact Or.inl rfl | exact Or.inr rfl) (pe_callF F_law_some (hr.mono (by first | decide | omega)) rfl (pa_cons (pvM 0) (pa_cons (pe_ix ix_T (pvM 1) pe_int (fun _ _ => rfl)) (pa_cons (pe_callB call_lenT rfl T.b_len PySem.boot_len (pa_cons (pe_ix ix_T (pvM 1) pe_int (fun _ _ => rfl)) pa_nil)) pa_nil)))))
      (pss_one (ps_ret (pe_tup (pa_cons pe_str (pa_cons (pe_ix ix_T (pvM 1) pe_int (fun _ _ => rfl)) (pa_cons (pvM 3) (pa_cons (pe_callF F_law_some (hr.mono (by first | decide | omega)) rfl (pa_cons (pvM 0) (pa_cons (pe_ix ix_T (pvM 1) pe_int (fun _ _ => rfl)) (pa_cons (pe_callB call_lenT rfl T.b_len PySem.boot_len (pa_cons (pe_ix ix_T (pvM 1) pe_int (fun _ _ => rfl)) pa_nil)) pa_nil)))) pa_nil)))))))) pss_nil)
      (pss_cons (ps_if (pt_cmpR op_eq (pe_ix ix_T (pvM 1) pe_int (fun _ _ => rfl)) pe_str (nomark _)) (pss_cons (ps_set (i := 4) nd rfl (by first | exact Or.inl rfl | exact Or.inr rfl) (pe_callF F_law_some (hr.mono (by first | decide | omega)) rfl (pa_cons (pvM 0) (pa_cons (pe_lstrange rfl rfl T.b_list rfl T.b_range (pa_cons (pe_callB call_lenT rfl T.b_len PySem.boot_len (pa_cons (pe_ix ix_T (pvM 1) pe_int (fun _ _ => rfl)) pa_nil)) pa_nil)) (pa_cons (pe_callB call_lenT rfl T.b_len PySem.boot_len (pa_cons (pe_ix ix_T (pvM 1) pe_int (fun _ _ => rfl)) pa_nil)) pa_nil)))))
      (pss_cons (ps_setCO (i := 5) (N := ["_law_row", "_law_places"]) (nt := 1) (js := [4]) nd rfl (by first | exact Or.inl rfl | exact Or.inr rfl) rfl (compOkO_of ["_law_deal_here", "_law_wish_here", "_law_cells", "_law_steps", "_law_places", "_law_rows_here"] (defScope s__law_mixed_up).names rfl rfl rfl (by decide +kernel)) (pi_TK (K := K) rfl (pe_ix ix_T (pvM 1) pe_int (fun _ _ => rfl))) (fun _ _ _ _ _ _ => (pg_name (i := 0) (show List.Nodup [("_law_row" : Str), ("_law_places" : Str)] by decide +kernel) rfl (Or.inr rfl))) (tgOk_name (by decide)) (fun _ _ _ _ _ _ => pts_nil) (fun _ _ _ _ _ _ => (pe_callTy call_tupL rfl T.b_tuple (show bootBuiltins "tuple" = some (.type "tuple") by decide +kernel) (pa_cons (pe_comp (N := ["_law_place", "_law_row"]) (nt := 1) (js := [0]) rfl (compOk_of ["_law_row", "_law_places"] (relN (defScope s__law_mixed_up).kind (defScope s__law_mixed_up).names _) rfl rfl rfl (by decide +kernel)) (pi_TK (K := K) rfl (pvM 1)) (fun _ _ _ _ _ _ => (pg_name (i := 0) (show List.Nodup [("_law_place" : Str), ("_law_row" : Str)] by decide +kernel) rfl (Or.inl rfl))) (tgOk_name (by decide)) (fun _ _ _ _ _ _ => pts_nil) (fun _ _ _ _ _ _ => (pe_ix ix_T (pvM 1) (pvM 0) (fun _ _ => rfl)))) pa_nil))))
      (pss_one (ps_ret (pe_tup (pa_cons pe_str (pa_cons (pe_callTy call_tupL rfl T.b_tuple (show bootBuiltins "tuple" = some (.type "tuple") by decide +kernel) (pa_cons (pe_comp (N := ["_law_place", "_law_wish_here"]) (nt := 1) (js := [1]) rfl (compOk_of ["_law_deal_here", "_law_wish_here", "_law_cells", "_law_steps", "_law_places", "_law_rows_here"] (defScope s__law_mixed_up).names rfl rfl rfl (by decide +kernel)) (pi_TK (K := K) rfl (pvM 4)) (fun _ _ _ _ _ _ => (pg_name (i := 0) (show List.Nodup [("_law_place" : Str), ("_law_wish_here" : Str)] by decide +kernel) rfl (Or.inl rfl))) (tgOk_name (by decide)) (fun _ _ _ _ _ _ => pts_nil) (fun _ _ _ _ _ _ => (pe_ix ix_T (pe_ix ix_T (pvM 1) pe_int (fun _ _ => rfl)) (pvM 0) (fun _ _ => rfl)))) pa_nil)) (pa_cons (pe_callF F_law_some (hr.mono (by first | decide | omega)) rfl (pa_cons (pvM 0) (pa_cons (pvM 5) (pa_cons (pe_callB call_lenL rfl T.b_len PySem.boot_len (pa_cons (pvM 5) pa_nil)) pa_nil)))) pa_nil)))))))) pss_nil)
      (pss_one (ps_ret (pvM 1)))))))), ?_⟩
    cases W with
    | un cs =>
      obtain ⟨c, h1, h2⟩ := hW
      have hcl : cs.length ≤ 12 := hok.2.2.2
      (try ctx_has vcx true_and h1 h2)
      refine ⟨by decide, fun p0 hp0 => ⟨_, upd_same, rfl, by decide, ?_⟩⟩
      have s1 := Same.upd0 (o := .tup [V.str (Str.ofString "unlike"), V.str (Str.ofString "sum")]) hp0
      rw [if_pos (show inV (V.str (Str.ofString "unlike")) [V.str (Str.ofString "unlike"), V.str (Str.ofString "sum")] = true by decide +kernel)]
      generalize upd H p0 (.tup [V.str (Str.ofString "unlike"), V.str (Str.ofString "sum")]) = H1 at s1 ⊢
      have D1 := D.same s1
      have B1 := (But.refl (d := d) (l := l) H).same s1
      have h11 := s1 _ _ h1
      have h21 := s1 _ _ h2
      (try ctx_has vcx true_and h11 h21)
      refine some_all D1 (.inr h21) rfl (by rw [List.length_map]; omega) fun p2 got H2 hg h2p D2 B2 => ?_
      obtain ⟨cs', hc', rfl⟩ := perm_map_ex hg rfl
      have h12 := B2.tup D1 h11
      (try ctx_has vcx true_and h12)
      refine ⟨by decide, fun p3 hp3 => ?_⟩
      have s3 := Same.upd0 (o := .tup [V.str (Str.ofString "unlike"), V.ref p2]) hp3
      have h3f : upd H2 p3 (.tup [V.str (Str.ofString "unlike"), V.ref p2]) p3 = some (.tup [V.str (Str.ofString "unlike"), V.ref p2]) := upd_same
      generalize upd H2 p3 (.tup [V.str (Str.ofString "unlike"), V.ref p2]) = H3 at s3 h3f ⊢
      refine ⟨_, s3 _ _ h12, fun p4 H4 h4 s4 => ?_⟩
      rw [cut_two] at h4
      refine ⟨_, s4 _ _ h3f, _, h4, Nat.le_of_lt (small1000 (by simp)), fun p5 H5 h5 s5 => ?_⟩
      have s35 := (s3.trans s4).trans s5
      exact k p5 (.un cs') H5 ⟨p2, h5, s35 _ _ h2p⟩ hc' (D2.same s35) ((B1.trans B2).same s35)
    | mn av cs lo hi =>
      obtain ⟨a, c, h1, h2, h3⟩ := hW
      have hcl : cs.length ≤ 12 := hok.1.2.2.2
      have hvl : av.length ≤ 20 := hok.2.2.2
      (try ctx_has vcx true_and h1 h3)
      refine some_all D (.inr h3) rfl (by rw [List.length_map]; omega) fun p1 got H1 hg h1p D1 B1 => ?_
      obtain ⟨cs', hc', rfl⟩ := perm_map_ex hg rfl
      have h11 := B1.tup D h1
      have h21 := B1.tup D h2
      (try ctx_has vcx true_and h11 h21)
      refine some_all D1 (.inr h21) rfl (by rw [List.length_map]; omega) fun p2 got H2 hg h2p D2 B2 => ?_
      obtain ⟨av', ha', rfl⟩ := perm_map_ex hg rfl
      have h12 := B2.tup D1 h11
      (try ctx_has vcx true_and h12)
      refine ⟨by decide, fun p3 hp3 => ?_⟩
      have s3 := Same.upd0 (o := .tup [V.str (Str.ofString "many"), V.ref p2, V.ref p1, V.int lo, V.int hi]) hp3
      exact k p3 (.mn av' cs' lo hi) _ ⟨p2, p1, upd_same, s3 _ _ h2p, s3 _ _ (B2.tup D1 h1p)⟩ ⟨ha', hc', rfl, rfl⟩ (D2.same s3) ((B1.trans B2).same s3)
    | sm ts lo hi =>
      obtain ⟨t, h1, as, h2, rfl, h3⟩ := hW
      have hal : as.length ≤ 12 := by have := hok.1.2.2.2; rw [List.length_map, List.length_map] at this; exact this
      (try ctx_has vcx true_and h1 h2)
      refine ⟨by decide, fun p0 hp0 => ⟨_, upd_same, rfl, by decide, ?_⟩⟩
      have s1 := Same.upd0 (o := .tup [V.str (Str.ofString "unlike"), V.str (Str.ofString "sum")]) hp0
      rw [if_pos (show inV (V.str (Str.ofString "sum")) [V.str (Str.ofString "unlike"), V.str (Str.ofString "sum")] = true by decide +kernel)]
      generalize upd H p0 (.tup [V.str (Str.ofString "unlike"), V.str (Str.ofString "sum")]) = H1 at s1 ⊢
      have D1 := D.same s1
      have B1 := (But.refl (d := d) (l := l) H).same s1
      have h11 := s1 _ _ h1
      have h21 := s1 _ _ h2
      (try ctx_has vcx true_and h11 h21)
      refine some_all D1 (.inr h21) rfl (by rw [List.length_map]; omega) fun p2 got H2 hg h2p D2 B2 => ?_
      obtain ⟨as', ha', rfl⟩ := perm_map_ex hg rfl
      have h12 := B2.tup D1 h11
      (try ctx_has vcx true_and h12)
      refine ⟨by decide, fun p3 hp3 => ?_⟩
      have s3 := Same.upd0 (o := .tup [V.str (Str.ofString "sum"), V.ref p2]) hp3
      have h3f : upd H2 p3 (.tup [V.str (Str.ofString "sum"), V.ref p2]) p3 = some (.tup [V.str (Str.ofString "sum"), V.ref p2]) := upd_same
      generalize upd H2 p3 (.tup [V.str (Str.ofString "sum"), V.ref p2]) = H3 at s3 h3f ⊢
      refine ⟨_, s3 _ _ h12, fun p4 H4 h4 s4 => ?_⟩
      rw [cut_two] at h4
      refine ⟨_, s4 _ _ h3f, _, h4, Nat.le_of_lt (small1000 (by simp)), fun p5 H5 h5 s5 => ?_⟩
      have s35 := (s3.trans s4).trans s5
      exact k p5 (.sm (as'.map (·.2)) lo hi) H5 ⟨p2, h5, as', s35 _ _ h2p, rfl, fun x hx => s35 _ _ (B2.tup D1 (s1 _ _ (h3 x (ha'.mem_iff.mp hx))))⟩ ⟨ha'.map _, rfl, rfl⟩ (D2.same s35) ((B1.trans B2).same s35)
    | tb cs rows =>
      obtain ⟨c, t, vs, h1, h2, h3, as, rfl, rfl, h4⟩ := hW
      have hcl : cs.length ≤ 12 := hok.1.2.2.2
      have hal : as.length ≤ 7 := by have := hok.2.2.2; rw [List.length_map] at this; exact this
      (try ctx_has vcx true_and h1 h2 tLstRng)
      refine ⟨by decide, fun p0 hp0 => ⟨_, upd_same, rfl, by decide, ?_⟩⟩
      have s1 := Same.upd0 (o := .tup [V.str (Str.ofString "unlike"), V.str (Str.ofString "sum")]) hp0
      rw [if_neg (show ¬ inV (V.str (Str.ofString "table")) [V.str (Str.ofString "unlike"), V.str (Str.ofString "sum")] = true by decide +kernel)]
      generalize upd H p0 (.tup [V.str (Str.ofString "unlike"), V.str (Str.ofString "sum")]) = H1 at s1 ⊢
      have D1 := D.same s1
      have B1 := (But.refl (d := d) (l := l) H).same s1
      have h11 := s1 _ _ h1
      have h21 := s1 _ _ h2
      (try ctx_has vcx true_and h11 h21)
      refine ⟨by omega, by rw [List.length_map]; omega, fun l1 hl1 => ?_⟩
      rw [show ((((cs.map V.str).length : Nat) : Int)).toNat = cs.length by simp]
      have s2 := Same.upd0 (o := .lst (rngV 0 cs.length)) hl1
      have h2l : upd H1 l1 (.lst (rngV 0 cs.length)) l1 = some (.lst (rngV 0 cs.length)) := upd_same
      generalize upd H1 l1 (.lst (rngV 0 cs.length)) = H2 at s2 h2l ⊢
      have h12 := s2 _ _ h11
      have h22 := s2 _ _ h21
      (try ctx_has vcx true_and h12 h22)
      refine some_all (D1.same s2) (.inl h2l) (by rw [rngV_length, List.length_map]) (by rw [rngV_length]; omega) fun p3 got H3 hg h3p D3 B3 => ?_
      obtain ⟨pl, hpl, rfl⟩ := perm_map_ex (F := fun i : Nat => V.int ((0 : Int) + i)) hg rfl
      have D2 := D1.same s2
      have h13 := B3.tup D2 h12
      have h33 := B3.tup D2 (s2 _ _ (s1 _ _ h3))
      (try ctx_has vcx true_and h13 h33)
      intro D0 hD0
      have kt3 : ∀ b xs, H b = some (.tup xs) → H3 b = some (.tup xs) := fun b xs e => B3.tup D2 (s2 _ _ (s1 _ _ e))
      have hpl2 : ∀ i ∈ pl, i < cs.length := fun i hi => List.mem_range.mp (hpl.mem_iff.mp hi)
      have hpll : pl.length = cs.length := by rw [hpl.length_eq, List.length_range]
      refine comp_new wlk_tup (f := fun x : Addr × List Int => pick 0 pl x.2) (c := fun r : List Int => r.map V.int) hD0 (fun H' s => .of (s _ _ h33)) (by omega) ?_ ?_
      · intro z hz H4 Q4 s4 q4
        have h4p := s4 _ _ h3p
        have h4z := s4 _ _ (kt3 _ _ (h4 z hz))
        have hzl : z.2.length = cs.length := hok.2.2.1 z.2 (List.mem_map.mpr ⟨z, hz, rfl⟩)
        (try ctx_has vcx true_and h4p)
        intro D5 hD5
        refine comp_mapS wlk_tup (fun v => match v with | .int i => .int (z.2.getD i.toNat 0) | _ => .non) hD5 (fun H' s => .of (s _ _ h4p)) (by rw [List.length_map]; omega) ?_ ?_
        · intro x H5 Q5 hx s5 q5
          obtain ⟨i, hi, rfl⟩ := List.mem_map.mp hx
          have hil : i < z.2.length := by rw [hzl]; exact hpl2 i hi
          have h5z := s5 _ _ h4z
          (try ctx_has vcx true_and h5z)
          refine ⟨_, by rw [Int.zero_add]; exact atI_nat (by rw [List.getElem?_map, List.getElem?_eq_getElem hil]; rfl), ?_⟩
          have := q5 H5 (Same.refl _)
          simpa [List.getD_eq_getElem?_getD, hil] using this
        · intro H5 s5 h5
          (try ctx_has vcx true_and h5)
          intro t' ht'
          refine q4 t' _ (s5.upd_new ht') ?_
          rw [upd_same]
          unfold pick
          rw [List.map_map, List.map_map]
          refine congrArg (fun z => some (HO.tup z)) (List.map_congr_left fun i _ => ?_)
          simp
      · intro bs H4 hbs hbt s4 h4D
        have h4p := s4 _ _ h3p
        have h14 := s4 _ _ h13
        have h24 := s4 _ _ (kt3 _ _ h2)
        refine ⟨_, h4p, fun D5 hD5 => ?_⟩
        refine comp_mapS wlk_tup (fun v => match v with | .int i => .str (cs.getD i.toNat noS) | _ => .non) hD5 (fun H' s => .of (s _ _ h4p)) (by rw [List.length_map]; omega) ?_ ?_
        · intro x H5 Q5 hx s5 q5
          obtain ⟨i, hi, rfl⟩ := List.mem_map.mp hx
          have hil : i < cs.length := hpl2 i hi
          have h15 := s5 _ _ h14
          have h25 := s5 _ _ h24
          (try ctx_has vcx true_and h15 h25)
          refine ⟨_, by rw [Int.zero_add]; exact atI_nat (by rw [List.getElem?_map, List.getElem?_eq_getElem hil]; rfl), ?_⟩
          have := q5 H5 (Same.refl _)
          simpa [List.getD_eq_getElem?_getD, hil] using this
        · intro H5 s5 h5
          have e5 : (pl.map fun i : Nat => V.int ((0 : Int) + i)).map (fun v => match v with | .int i => V.str (cs.getD i.toNat noS) | _ => V.non) = (pick noS pl cs).map V.str := by
            unfold pick
            rw [List.map_map, List.map_map]
            refine List.map_congr_left fun i _ => ?_
            simp
          rw [e5] at h5
          refine ⟨D5, rfl, _, h5, fun l6 hl6 => ⟨D0, rfl, ?_⟩⟩
          have s6 := Same.upd0 (o := .tup ((pick noS pl cs).map V.str)) hl6
          have h6l : upd H5 l6 (.tup ((pick noS pl cs).map V.str)) l6 = some (.tup ((pick noS pl cs).map V.str)) := upd_same
          generalize upd H5 l6 (.tup ((pick noS pl cs).map V.str)) = H6 at s6 h6l ⊢
          have s36 := (s4.trans s5).trans s6
          have h6D := s6 _ _ (s5 _ _ h4D)
          have D6 := D3.same s36
          have hbl : bs.length ≤ 60 := by have := congrArg List.length hbs; rw [List.length_map, List.length_map] at this; omega
          refine ⟨_, h6D, some_all D6 (.inl h6D) rfl (by rw [List.length_map]; exact hbl) fun p7 got H7 hg h7p D7 B7 => ⟨by decide, fun p8 hp8 => ?_⟩⟩
          obtain ⟨bs', hb', rfl⟩ := perm_map_ex hg rfl
          have s8 := Same.upd0 (o := .tup [V.str (Str.ofString "table"), V.ref l6, V.ref p7]) hp8
          refine k p8 (.tb (pick noS pl cs) (bs'.map (·.2))) _ ⟨l6, p7, _, upd_same, s8 _ _ (B7.tup D6 h6l), s8 _ _ h7p, bs', rfl, rfl, fun x hx => s8 _ _ (B7.tup D6 (s6 _ _ (s5 _ _ (hbt x (hb'.mem_iff.mp hx)))))⟩ ⟨pl, hpl, rfl, ?_⟩ (D7.same s8) (((((B1.same s2).trans B3).same s36).trans B7).same s8)
          have := hb'.map (·.2)
          rw [hbs] at this
          rw [List.map_map]
          exact this
    | wy cs ps es =>
      obtain ⟨c, t, e, vs, h1, h2, h3, ⟨as, rfl, rfl, h4⟩, h5⟩ := hW
      have hpl : as.length ≤ 60 := by have := hok.2.2.1; rw [List.length_map] at this; exact this
      have hel : es.length ≤ 60 := hok.2.2.2
      (try ctx_has vcx true_and h1 h3)
      refine ⟨by decide, fun p0 hp0 => ⟨_, upd_same, rfl, by decide, ?_⟩⟩
      have s1 := Same.upd0 (o := .tup [V.str (Str.ofString "unlike"), V.str (Str.ofString "sum")]) hp0
      rw [if_neg (show ¬ inV (V.str (Str.ofString "way")) [V.str (Str.ofString "unlike"), V.str (Str.ofString "sum")] = true by decide +kernel)]
      generalize upd H p0 (.tup [V.str (Str.ofString "unlike"), V.str (Str.ofString "sum")]) = H1 at s1 ⊢
      have D1 := D.same s1
      have B1 := (But.refl (d := d) (l := l) H).same s1
      have h11 := s1 _ _ h1
      have h31 := s1 _ _ h3
      (try ctx_has vcx true_and h11 h31)
      refine some_all D1 (.inr h31) rfl (by rw [List.length_map]; omega) fun p2 got H2 hg h2p D2 B2 => ?_
      obtain ⟨as', ha', rfl⟩ := perm_map_ex hg rfl
      have h12 := B2.tup D1 h11
      have h52 := B2.tup D1 (s1 _ _ h5)
      (try ctx_has vcx true_and h12 h52)
      refine some_all D2 (.inr h52) rfl (by rw [List.length_map]; omega) fun p3 got H3 hg h3p D3 B3 => ?_
      obtain ⟨es', he', rfl⟩ := perm_map_ex hg rfl
      refine ⟨by decide, fun p4 hp4 => ?_⟩
      have s4 := Same.upd0 (o := .tup [V.str (Str.ofString "way"), V.ref c, V.ref p2, V.ref p3]) hp4
      have kt : ∀ b xs, H b = some (.tup xs) → upd H3 p4 (.tup [V.str (Str.ofString "way"), V.ref c, V.ref p2, V.ref p3]) b = some (.tup xs) := fun b xs e => s4 _ _ (B3.tup D2 (B2.tup D1 (s1 _ _ e)))
      exact k p4 (.wy cs (as'.map (·.2)) es') _ ⟨c, p2, p3, _, upd_same, kt _ _ h2, s4 _ _ (B3.tup D2 h2p), ⟨as', rfl, rfl, fun x hx => kt _ _ (h4 x (ha'.mem_iff.mp hx))⟩, s4 _ _ h3p⟩ ⟨rfl, ha'.map _, he'⟩ (D3.same s4) (((B1.trans B2).trans B3).same s4)
    | bh cs gap =>
      obtain ⟨c, h1, h2⟩ := id hW
      (try ctx_has vcx true_and h1)
      refine ⟨by decide, fun p0 hp0 => ⟨_, upd_same, rfl, by decide, ?_⟩⟩
      have s1 := Same.upd0 (o := .tup [V.str (Str.ofString "unlike"), V.str (Str.ofString "sum")]) hp0
      rw [if_neg (show ¬ inV (V.str (Str.ofString "behind")) [V.str (Str.ofString "unlike"), V.str (Str.ofString "sum")] = true by decide +kernel)]
      generalize upd H p0 (.tup [V.str (Str.ofString "unlike"), V.str (Str.ofString "sum")]) = H1 at s1 ⊢
      have D1 := D.same s1
      have B1 := (But.refl (d := d) (l := l) H).same s1
      have h11 := s1 _ _ h1
      (try ctx_has vcx true_and h11)
      exact k w (.bh cs gap) H1 (WS_keep hW fun a xs e => s1 _ _ e) ⟨rfl, rfl⟩ D1 B1
theorem ok__law_mixed_upS {P : Program} {w : World} {K : PySem.W.Frag} {mg : Str → Option Value} {base : Heap}  (T : Txt mg base) (L : FnL K mg "_law_mixed_up" s__law_mixed_up ["_law_deal_here", "_law_wish_here"]) (F_law_mixed_up : Fn P w K mg base "_law_mixed_up" 3 ["_law_deal_here", "_law_wish_here"] (spMixB)) (F_law_some : Fn P w K mg base "_law_some" 2 ["_law_deal_here", "_law_things", "_law_least"] (spSome)) : Fn P w K mg base "_law_mixed_up" 4 ["_law_deal_here", "_law_wish_here"] (spMixS) := by
  have nd := sc__law_mixed_up.nd
  refine L.ok sc__law_mixed_up (fun vs H Q E h => ?_) (fun f cdv A outer s H vs Q E hr h => ?_)
  · obtain ⟨d, l, w, ws, ns, c, us, W, rfl, D, hW, hok, k⟩ := h
    rfl
  · obtain ⟨d, l, w, ws, ns, c, us, W, rfl, D, hW, hok, k⟩ := h
    have hu := hu_of hr
    refine ⟨_, (pss_cons (ps_if (pt_cmpR op_eq (pe_ix ix_T (pvM 1) pe_int (fun _ _ => rfl)) pe_str (nomark _)) (pss_one (ps_ret (pe_tup (pa_cons pe_str (pa_cons (pe_ix ix_T (pvM 1) pe_int (fun _ _ => rfl)) (pa_cons (pe_callF F_law_some (hr.mono (by first | decide | omega)) rfl (pa_cons (pvM 0) (pa_cons (pe_ix ix_T (pvM 1) pe_int (fun _ _ => rfl)) (pa_cons (pe_callB call_lenT rfl T.b_len PySem.boot_len (pa_cons (pe_ix ix_T (pvM 1) pe_int (fun _ _ => rfl)) pa_nil)) pa_nil)))) (pa_cons (pe_callF F_law_mixed_up (hr.mono (by first | decide | omega)) rfl (pa_cons (pvM 0) (pa_cons (pe_ix ix_T (pvM 1) pe_int (fun _ _ => rfl)) pa_nil))) pa_nil))))))) pss_nil)
      (pss_cons (ps_if (pt_cmpR op_eq (pe_ix ix_T (pvM 1) pe_int (fun _ _ => rfl)) pe_str (nomark _)) (pss_cons ps_never
      (pss_one ps_never)) pss_nil)
      (pss_cons (ps_if (pt_cmpR op_inT (pe_ix ix_T (pvM 1) pe_int (fun _ _ => rfl)) (pe_tup (pa_cons pe_str (pa_cons pe_str pa_nil))) (by with_unfolding_all rfl)) (pss_one ps_never) pss_nil)
      (pss_cons (ps_if (pt_cmpR op_eq (pe_ix ix_T (pvM 1) pe_int (fun _ _ => rfl)) pe_str (nomark _)) (pss_cons ps_never
      (pss_one ps_never)) pss_nil)
      (pss_cons (ps_if (pt_cmpR op_eq (pe_ix ix_T (pvM 1) pe_int (fun _ _ => rfl)) pe_str (nomark _)) (pss_cons ps_never
      (pss_cons ps_never
      (pss_one ps_never))) pss_nil)
      (pss_one ps_never)))))), ?_⟩
    obtain ⟨t, u, h1, h2, h3⟩ := hW
    have hul : us.length ≤ 20 := hok.2.1.2.2
    (try ctx_has vcx true_and h1 h2)
    refine some_all D (.inr h2) rfl (by rw [List.length_map]; omega) fun p1 got H1 hg h1p D1 B1 => ?_
    obtain ⟨us', hu', rfl⟩ := perm_map_ex hg rfl
    have h11 := B1.tup D h1
    (try ctx_has vcx true_and h11)
    refine ⟨d, l, u, ws, ns, W, rfl, D1, WS_keep h3 fun a xs e => B1.tup D e, hok.2.2.1, fun r W' H2 hr hm D2 B2 => ⟨by decide, fun p3 hp3 => ?_⟩⟩
    have s3 := Same.upd0 (o := .tup [V.str (Str.ofString "same"), V.str c, V.ref p1, V.ref r]) hp3
    exact k p3 (.sa c us' W') _ ⟨p1, r, upd_same, s3 _ _ (B2.tup D1 h1p), WS_keep hr fun a xs e => s3 _ _ e⟩ ⟨rfl, hu', hm⟩ (D2.same s3) ((B1.trans B2).same s3)
noncomputable def bD : Option Int → PyData | none => .none | some i => .int i
noncomputable def dataW : Wi → PyData
  | .un cs => .tuple [.str "unlike", .tuple (cs.map .str)]
  | .mn av cs lo hi => .tuple [.str "many", .tuple (av.map .int), .tuple (cs.map .str), .int lo, .int hi]
  | .sm ts lo hi => .tuple [.str "sum", .tuple (ts.map fun x => .tuple [.int x.1, .str x.2]), bD lo, bD hi]
  | .tb cs rows => .tuple [.str "table", .tuple (cs.map .str), .tuple (rows.map fun r => .tuple (r.map .int))]
  | .wy cs ps es => .tuple [.str "way", .tuple (cs.map .str), .tuple (ps.map fun x => .tuple [.int x.1, .int x.2.1, .int x.2.2]), .tuple (es.map .int)]
  | .bh cs gap => .tuple [.str "behind", .tuple (cs.map .str), .int gap]
noncomputable def dataX : Wx → PyData
  | .pl W => dataW W
  | .sa c vs W => .tuple [.str "same", .str c, .tuple (vs.map .int), dataW W]
theorem rep_b {K : PySem.W.Frag} {H : Hp} (o : Option Int) : Rep K H (bV o) (bD o) := by
  cases o with
  | none => exact .non
  | some i => exact .int i
theorem reps_of {K : PySem.W.Frag} {H : Hp} {α : Type} {f : α → V} {d : α → PyData} : ∀ {l : List α}, (∀ x ∈ l, Rep K H (f x) (d x)) → Reps K H (l.map f) (l.map d)
  | [], _ => .nil
  | x :: l, h => .cons (h x List.mem_cons_self) (reps_of fun y hy => h y (List.mem_cons_of_mem _ hy))
theorem rep_W {K : PySem.W.Frag} {H : Hp} {w : Addr} {W : Wi} (h : WS H w W) : Rep K H (.ref w) (dataW W) := by
  cases W with
  | un cs =>
    obtain ⟨c, h1, h2⟩ := h
    exact .tup (.of h1) (.cons (.str _) (.cons (.tup (.of h2) (Reps.strs cs)) .nil))
  | mn av cs lo hi =>
    obtain ⟨a, c, h1, h2, h3⟩ := h
    exact .tup (.of h1) (.cons (.str _) (.cons (.tup (.of h2) (Reps.ints av)) (.cons (.tup (.of h3) (Reps.strs cs)) (.cons (.int _) (.cons (.int _) .nil)))))
  | sm ts lo hi =>
    obtain ⟨t, h1, as, h2, rfl, h3⟩ := h
    refine .tup (.of h1) (.cons (.str _) (.cons (.tup (.of h2) ?_) (.cons (rep_b lo) (.cons (rep_b hi) .nil))))
    rw [List.map_map]
    exact reps_of fun x hx => .tup (.of (h3 x hx)) (.cons (.int _) (.cons (.str _) .nil))
  | tb cs rows =>
    obtain ⟨c, t, vs, h1, h2, h3, as, rfl, rfl, h4⟩ := h
    refine .tup (.of h1) (.cons (.str _) (.cons (.tup (.of h2) (Reps.strs cs)) (.cons (.tup (.of h3) ?_) .nil)))
    rw [List.map_map]
    exact reps_of fun x hx => .tup (.of (h4 x hx)) (Reps.ints x.2)
  | wy cs ps es =>
    obtain ⟨c, t, e, vs, h1, h2, h3, ⟨as, rfl, rfl, h4⟩, h5⟩ := h
    refine .tup (.of h1) (.cons (.str _) (.cons (.tup (.of h2) (Reps.strs cs)) (.cons (.tup (.of h3) ?_) (.cons (.tup (.of h5) (Reps.ints es)) .nil))))
    rw [List.map_map]
    exact reps_of fun x hx => .tup (.of (h4 x hx)) (.cons (.int _) (.cons (.int _) (.cons (.int _) .nil)))
  | bh cs gap =>
    obtain ⟨c, h1, h2⟩ := h
    exact .tup (.of h1) (.cons (.str _) (.cons (.tup (.of h2) (Reps.strs cs)) (.cons (.int _) .nil)))
theorem rep_X {K : PySem.W.Frag} {H : Hp} {w : Addr} {W : Wx} (h : WX H w W) : Rep K H (.ref w) (dataX W) := by
  cases W with
  | pl W => exact rep_W h
  | sa c vs W =>
    obtain ⟨t, u, h1, h2, h3⟩ := h
    exact .tup (.of h1) (.cons (.str _) (.cons (.str _) (.cons (.tup (.of h2) (Reps.ints vs)) (.cons (rep_W h3) .nil))))
theorem lay_of {α : Type} {d : α → PyData} : ∀ {l : List α}, (∀ x ∈ l, (d x).canLay0 = true) → PyData.canLayAll0 (l.map d) = true
  | [], _ => rfl
  | x :: l, h => by rw [List.map_cons, PyData.canLayAll0, h x List.mem_cons_self, lay_of fun y hy => h y (List.mem_cons_of_mem _ hy)]; rfl
theorem dep_of {α : Type} {d : α → PyData} {n : Nat} : ∀ {l : List α}, (∀ x ∈ l, (d x).depth ≤ n) → PyData.depthAll (l.map d) ≤ n
  | [], _ => Nat.zero_le _
  | x :: l, h => by rw [List.map_cons, PyData.depthAll]; exact Nat.max_le.mpr ⟨h x List.mem_cons_self, dep_of fun y hy => h y (List.mem_cons_of_mem _ hy)⟩
theorem lay_s {s : Str} (h : IsNm s) : (PyData.str s).canLay0 = true := by
  have := lay_strs (ws := [s]) (fun w hw => by rw [List.mem_singleton.mp hw]; exact h)
  rw [List.map_cons, PyData.canLayAll0, Bool.and_eq_true] at this
  exact this.1
theorem lay_i (i : Int) : (PyData.int i).canLay0 = true := by
  have := lay_ints [i]
  rw [List.map_cons, PyData.canLayAll0, Bool.and_eq_true] at this
  exact this.1
theorem lay_b (o : Option Int) : (bD o).canLay0 = true := by cases o with
  | none => rfl
  | some i => exact lay_i i
theorem dep_b (o : Option Int) : (bD o).depth = 0 := by cases o <;> rfl
theorem so_u : PyData.strOk (Str.ofString "unlike") = true := by decide +kernel
theorem so_m : PyData.strOk (Str.ofString "many") = true := by decide +kernel
theorem so_s : PyData.strOk (Str.ofString "sum") = true := by decide +kernel
theorem so_t : PyData.strOk (Str.ofString "table") = true := by decide +kernel
theorem so_w : PyData.strOk (Str.ofString "way") = true := by decide +kernel
theorem so_b : PyData.strOk (Str.ofString "behind") = true := by decide +kernel
theorem so_a : PyData.strOk (Str.ofString "same") = true := by decide +kernel
theorem lay_W {W : Wi} (h : ∀ c ∈ cellsW W, IsNm c) : (dataW W).canLay0 = true := by
  cases W with
  | un cs => simp [dataW, PyData.canLay0, PyData.canLayAll0, lay_strs (ws := cs) h, so_u]
  | mn av cs lo hi => simp [dataW, PyData.canLay0, PyData.canLayAll0, lay_strs (ws := cs) h, lay_ints av, so_m]
  | sm ts lo hi =>
    have h1 : PyData.canLayAll0 (ts.map fun x => .tuple [.int x.1, .str x.2]) = true := lay_of fun x hx => by
      have := lay_s (h x.2 (List.mem_map.mpr ⟨x, hx, rfl⟩))
      simp [PyData.canLay0, PyData.canLayAll0] at this ⊢
      exact this
    simp [dataW, PyData.canLay0, PyData.canLayAll0, h1, lay_b, so_s]
  | tb cs rows =>
    have h1 : PyData.canLayAll0 (rows.map fun r => .tuple (r.map .int)) = true := lay_of fun r _ => by rw [PyData.canLay0]; exact lay_ints r
    simp [dataW, PyData.canLay0, PyData.canLayAll0, lay_strs (ws := cs) h, h1, so_t]
  | wy cs ps es =>
    have h1 : PyData.canLayAll0 (ps.map fun x => .tuple [.int x.1, .int x.2.1, .int x.2.2]) = true := lay_of fun x _ => by
      simp [PyData.canLay0, PyData.canLayAll0]
    simp [dataW, PyData.canLay0, PyData.canLayAll0, lay_strs (ws := cs) h, lay_ints, h1, so_w]
  | bh cs gap => simp [dataW, PyData.canLay0, PyData.canLayAll0, lay_strs (ws := cs) h, so_b]
theorem lay_X {W : Wx} (h : ∀ c ∈ cellsX W, IsNm c) : (dataX W).canLay0 = true := by
  cases W with
  | pl W => exact lay_W h
  | sa c vs W =>
    have hs := lay_s (h c List.mem_cons_self)
    have hw := lay_W fun c hc => h c (List.mem_cons_of_mem _ hc)
    rw [PyData.canLay0] at hs
    simp [dataX, PyData.canLay0, PyData.canLayAll0, lay_ints, hw, hs, so_a]
theorem dep_W (W : Wi) : (dataW W).depth ≤ 3 := by
  cases W with
  | un cs => simp [dataW, PyData.depth, PyData.depthAll, depth_strs]
  | mn av cs lo hi => simp [dataW, PyData.depth, PyData.depthAll, depth_strs, depth_ints]
  | sm ts lo hi =>
    have h1 : PyData.depthAll (ts.map fun x => .tuple [.int x.1, .str x.2]) ≤ 1 := dep_of fun x _ => by simp [PyData.depth, PyData.depthAll]
    simp [dataW, PyData.depth, PyData.depthAll, dep_b]
    omega
  | tb cs rows =>
    have h1 : PyData.depthAll (rows.map fun r => .tuple (r.map .int)) ≤ 1 := dep_of fun r _ => by simp [PyData.depth, depth_ints]
    simp [dataW, PyData.depth, PyData.depthAll, depth_strs]
    omega
  | wy cs ps es =>
    have h1 : PyData.depthAll (ps.map fun x => .tuple [.int x.1, .int x.2.1, .int x.2.2]) ≤ 1 := dep_of fun x _ => by simp [PyData.depth, PyData.depthAll]
    simp [dataW, PyData.depth, PyData.depthAll, depth_strs, depth_ints]
    omega
  | bh cs gap => simp [dataW, PyData.depth, PyData.depthAll, depth_strs]
theorem dep_X (W : Wx) : (dataX W).depth ≤ 100 := by
  cases W with
  | pl W => exact Nat.le_trans (dep_W W) (by decide)
  | sa c vs W =>
    have := dep_W W
    simp [dataX, PyData.depth, PyData.depthAll, depth_ints]
    omega
theorem kept_two {w f : Addr} {W : Wx} {g : Str → Int} {H : Hp} {Q : VK} {E : XK} (hW : WX H w W) (hk : szX W) (F : FillAt H f (cellsX W) g) (k : ∀ H', Same H H' → Q (.bl (keptX W g)) H') : spKeptP [.ref w, .ref f] H Q E ∨ spSame [.ref w, .ref f] H Q E := by
  cases W with
  | pl W => exact .inl ⟨w, f, W, g, rfl, hW, hk, F, k⟩
  | sa c vs W => exact .inr ⟨w, f, c, vs, W, g, rfl, hW, hk, F, k⟩
theorem WX_tup {H : Hp} {w : Addr} {W : Wx} (h : WX H w W) : ∃ vs, H w = some (.tup vs) := by
  cases W with
  | pl W =>
    cases W with
    | un cs => obtain ⟨c, h1, _⟩ := h; exact ⟨_, h1⟩
    | mn av cs lo hi => obtain ⟨a, c, h1, _⟩ := h; exact ⟨_, h1⟩
    | sm ts lo hi => obtain ⟨t, h1, _⟩ := h; exact ⟨_, h1⟩
    | tb cs rows => obtain ⟨c, t, vs, h1, _⟩ := h; exact ⟨_, h1⟩
    | wy cs ps es => obtain ⟨c, t, e, vs, h1, _⟩ := h; exact ⟨_, h1⟩
    | bh cs gap => obtain ⟨c, h1, _⟩ := h; exact ⟨_, h1⟩
  | sa c vs W => obtain ⟨t, u, h1, _⟩ := h; exact ⟨_, h1⟩
theorem ne_sameX {K : PySem.W.Frag} {H : Hp} {a b : Addr} {W : Wx} {Q : VK} (hx : WX H a W) (hy : WX H b W) (h : ∀ c ∈ cellsX W, IsNm c) (q : Q (.bl false) H) : rNeD K (.ref a) (.ref b) H Q := by
  refine ⟨_, _, rep_X hx, rep_X hy, lay_X h, lay_X h, dep_X W, ?_⟩
  rw [PySem.SeqAt.eqv_refl _ (lay_X h)]
  exact q
theorem pl_two {w : Addr} {ws : List Str} {ns : List Int} {W : Wx} {H : Hp} {Q : VK} {E : XK} (tb : TabsOk H) (hW : WX H w W) (hk : okX ws ns W) (k : ∀ r H', Same H H' → WX H' r (plainX W) → Q (.ref r) H') : spPlB [.ref w] H Q E ∨ spPlS [.ref w] H Q E := by
  cases W with
  | pl W => exact .inl ⟨w, ws, ns, W, rfl, tb, hW, hk, k⟩
  | sa c vs W => exact .inr ⟨w, ws, ns, c, vs, W, rfl, tb, hW, hk, k⟩
theorem mx_two {d l w : Addr} {ws : List Str} {ns : List Int} {W : Wx} {H : Hp} {Q : VK} {E : XK} (D : DealAt H d l) (hW : WX H w W) (hk : okX ws ns W) (k : ∀ r W' H', WX H' r W' → mixX W W' → DealAt H' d l → But d l H H' → Q (.ref r) H') : spMixB [.ref d, .ref w] H Q E ∨ spMixS [.ref d, .ref w] H Q E := by
  cases W with
  | pl W => exact .inl ⟨d, l, w, ws, ns, W, rfl, D, hW, hk, fun r W' H' h m => k r (.pl W') H' h m⟩
  | sa c vs W => exact .inr ⟨d, l, w, ws, ns, c, vs, W, rfl, D, hW, hk, k⟩
theorem fp_fill {H : Hp} {x : V} {ws : List Str} {p : List Int} {rm : Str → List Int} (hn : ws.Nodup) (hl : ws.length ≤ 12) (h : IsFP H x ws p) (hp : p ∈ prodS rm ws) (hb : ∀ c ∈ ws, ∀ v ∈ rm c, -1000000 ≤ v ∧ v ≤ 1000000) : ∃ (f : Addr) (g : Str → Int), x = .ref f ∧ FillAt H f ws g := by
  obtain ⟨f, kvs, rfl, h1, h2, h3, h4, h5⟩ := h
  obtain ⟨g, g1, rfl⟩ := okP_fun hn ((mem_prodS ws).mp hp)
  refine ⟨f, g, rfl, ⟨kvs, h1, fun c hc => ?_, h5, by omega⟩, fun c hc => ?_⟩
  · obtain ⟨i, hi⟩ := List.getElem?_of_mem hc
    exact h3 i c _ hi (by rw [List.getElem?_map, hi]; rfl)
  · have := hb c hc _ (g1 c hc)
    omega
theorem TabsOk.but {H H' : Hp} {d l : Addr} (h : TabsOk H) (D : DealAt H d l) (B : But d l H H') : TabsOk H' := fun t ht => by
  obtain ⟨m, sd, n, xs, e1, e2, _⟩ := D.ex
  exact B _ _ (ne_of (h t ht) e1 (by intro z; cases z)) (ne_of (h t ht) e2 (by intro z; cases z)) (h t ht)
noncomputable def spLaw (K : PySem.W.Frag) : Sp := fun vs H Q _ => ∃ (a : Addr) (ns : List Int), vs = [.ref a] ∧ SqL K H a (ns.map V.int) ∧ ns.length ≤ 63 ∧ tabsH tabs H ∧ ∀ H', tabsH tabs H' → Q (.bl true) H'
theorem ok_law {P : Program} {w : World} {K : PySem.W.Frag} {mg : Str → Option Value} {base : Heap} {f : Addr} {fd : FuncData} (T : Txt mg base) (L : Fun K "law" "law" s_law f fd) (F_law_deal : Fn P w K mg base "_law_deal" 1 ["_law_script", "_law_start"] (spDeal K)) (F_law_draw : Fn P w K mg base "_law_draw" 1 ["_law_deal_here", "_law_many"] (spDraw)) (F_law_names : Fn P w K mg base "_law_names" 2 ["_law_deal_here", "_law_many"] (spNames)) (F_law_pool : Fn P w K mg base "_law_pool" 2 ["_law_deal_here"] (spPool5)) (F_law_rooms : Fn P w K mg base "_law_rooms" 2 ["_law_deal_here", "_law_names_here", "_law_pool_here", "_law_most"] (spRoomsP)) (F_law_wish : Fn P w K mg base "_law_wish" 15 ["_law_deal_here", "_law_names_here", "_law_rooms_here", "_law_pool_here", "_law_sorts"] (spWishL true)) (F_law_mixed_upB : Fn P w K mg base "_law_mixed_up" 3 ["_law_deal_here", "_law_wish_here"] (spMixB)) (F_law_mixed_upS : Fn P w K mg base "_law_mixed_up" 4 ["_law_deal_here", "_law_wish_here"] (spMixS)) (Fplain_formB : Fn P w K mg base "plain_form" 3 ["wish"] (spPlB)) (Fplain_formS : Fn P w K mg base "plain_form" 4 ["wish"] (spPlS)) (F_law_plainB : Fn P w K mg base "_law_plain" 4 ["_law_wish_here"] (spPlB)) (F_law_plainS : Fn P w K mg base "_law_plain" 5 ["_law_wish_here"] (spPlS)) (F_law_fillings : Fn P w K mg base "_law_fillings" 1 ["_law_names_here", "_law_rooms_here"] (spFillsP)) (F_law_keptB : Fn P w K mg base "_law_kept" 3 ["_law_wish_here", "_law_filling"] (spKeptP)) (F_law_keptS : Fn P w K mg base "_law_kept" 4 ["_law_wish_here", "_law_filling"] (spSame)) : FnOk P w K mg base CX0 30 f fd ["_law_script"] (spLaw K) := by
  have nd := sc_law.nd
  refine L.ok sc_law (fun vs H Q E h => ?_) (fun cdv A outer s H vs Q E hr h => ?_)
  · obtain ⟨a, ns0, rfl, hS, hlen, tb0, k⟩ := h
    rfl
  · obtain ⟨a, ns0, rfl, hS, hlen, tb0, k⟩ := h
    have hu := hu_of hr
    refine ⟨_, (pss_cons (ps_set (i := 1) nd rfl (by first | exact Or.inl rfl | exact Or.inr rfl) (pe_callF F_law_deal (hr.mono (by first | decide | omega)) rfl (pa_cons (pvM 0) (pa_cons pe_int pa_nil))))
      (pss_cons (ps_set (i := 2) nd rfl (by first | exact Or.inl rfl | exact Or.inr rfl) (pe_callF F_law_names (hr.mono (by first | decide | omega)) rfl (pa_cons (pvM 1) (pa_cons (pe_op op_add pe_int (pe_callF F_law_draw (hr.mono (by first | decide | omega)) rfl (pa_cons (pvM 1) (pa_cons pe_int pa_nil)))) pa_nil))))
      (pss_cons (ps_set (i := 3) nd rfl (by first | exact Or.inl rfl | exact Or.inr rfl) (pe_callF F_law_pool (hr.mono (by first | decide | omega)) rfl (pa_cons (pvM 1) pa_nil)))
      (pss_cons (ps_set (i := 4) nd rfl (by first | exact Or.inl rfl | exact Or.inr rfl) (pe_callF F_law_rooms (hr.mono (by first | decide | omega)) rfl (pa_cons (pvM 1) (pa_cons (pvM 2) (pa_cons (pvM 3) (pa_cons pe_int pa_nil))))))
      (pss_cons (ps_set (i := 5) nd rfl (by first | exact Or.inl rfl | exact Or.inr rfl) (pe_callF F_law_wish (hr.mono (by first | decide | omega)) rfl (pa_cons (pvM 1) (pa_cons (pvM 2) (pa_cons (pvM 4) (pa_cons (pvM 3) (pa_cons (pe_lst (pa_cons pe_str (pa_cons pe_str (pa_cons pe_str (pa_cons pe_str (pa_cons pe_str (pa_cons pe_str (pa_cons pe_str pa_nil)))))))) pa_nil)))))))
      (pss_cons (ps_set (i := 6) nd rfl (by first | exact Or.inl rfl | exact Or.inr rfl) (pe_callF2 F_law_mixed_upB F_law_mixed_upS (hr.mono (by first | decide | omega)) (hr.mono (by first | decide | omega)) rfl (pa_cons (pvM 1) (pa_cons (pvM 5) pa_nil))))
      (pss_cons (ps_set (i := 7) nd rfl (by first | exact Or.inl rfl | exact Or.inr rfl) (pe_callF2 Fplain_formB Fplain_formS (hr.mono (by first | decide | omega)) (hr.mono (by first | decide | omega)) rfl (pa_cons (pvM 5) pa_nil)))
      (pss_cons (ps_if (PW.pt (pw_or (pt_not (pt_val (pe_callB call_isB rfl T.b_isinstance (show bootBuiltins "isinstance" = some (.builtin "isinstance") by decide +kernel) (pa_cons (pvM 7) (pa_cons (pe_ty (T := "tuple") rfl T.b_tuple (by decide +kernel)) pa_nil))))) (pw_or (pt_cmpR (op_neD (hu100 hr)) (pvM 7) (pe_callF2 F_law_plainB F_law_plainS (hr.mono (by first | decide | omega)) (hr.mono (by first | decide | omega)) rfl (pa_cons (pvM 5) pa_nil)) (nomark _)) (pw_or1 (pt_cmpR (op_neD (hu100 hr)) (pe_callF2 Fplain_formB Fplain_formS (hr.mono (by first | decide | omega)) (hr.mono (by first | decide | omega)) rfl (pa_cons (pvM 6) pa_nil)) (pvM 7) (nomark _)))))) (pss_one (ps_ret pe_bl)) pss_nil)
      (pss_cons (ps_if (pt_cmpR (op_neD (hu100 hr)) (pe_callF2 Fplain_formB Fplain_formS (hr.mono (by first | decide | omega)) (hr.mono (by first | decide | omega)) rfl (pa_cons (pvM 7) pa_nil)) (pvM 7) (nomark _)) (pss_one (ps_ret pe_bl)) pss_nil)
      (pss_cons (ps_for PassesOwn.never rfl (pi_LK (K := K) rfl (pe_callF F_law_fillings (hr.mono (by first | decide | omega)) rfl (pa_cons (pvM 2) (pa_cons (pvM 4) pa_nil)))) (pg_name (i := 8) nd rfl (by first | exact Or.inl rfl | exact Or.inr rfl)) (pss_one (ps_if (pt_cmpR op_ne (pe_callF2 F_law_keptB F_law_keptS (hr.mono (by first | decide | omega)) (hr.mono (by first | decide | omega)) rfl (pa_cons (pvM 5) (pa_cons (pvM 8) pa_nil))) (pe_callF2 F_law_keptB F_law_keptS (hr.mono (by first | decide | omega)) (hr.mono (by first | decide | omega)) rfl (pa_cons (pvM 7) (pa_cons (pvM 8) pa_nil))) (nomark _)) (pss_one (ps_ret pe_bl)) pss_nil)))
      (pss_one (ps_ret pe_bl)))))))))))), ?_⟩
    (try ctx_has vcx true_and)
    refine ⟨a, ns0, 1, rfl, hS, hlen, by decide, by decide, fun d l H1 hd hl D1 sm1 => ?_⟩
    (try ctx_has vcx true_and)
    refine draw_rd D1 (by decide) (by decide) fun x1 H2 x10 x11 D2 B2 => ?_
    (try ctx_has vcx true_and)
    refine ⟨d, l, _, rfl, D2, by omega, by omega, fun ca ws H3 fca ok hws h3 D3 B3 => ?_⟩
    have nca := D2.ne fca
    (try ctx_has vcx true_and)
    refine ⟨d, l, rfl, D3, fun pa ns H4 fpa hn5 hpw hnb h4p D4 B4 => ?_⟩
    have npa := D3.ne fpa
    have h4 := B4 ca _ nca.1 nca.2 h3
    have hwl : 1 ≤ ws.length ∧ ws.length ≤ 4 := by omega
    have hwn : ws ≠ [] := fun e => by rw [e] at hwl; simp at hwl
    have tb4 := (((show TabsOk H from tb0).same sm1).but D1 B2).but D2 B3 |>.but D3 B4
    (try ctx_has vcx true_and h4)
    refine ⟨d, l, ca, pa, ws, ns, 3, rfl, D4, nca, npa, h4, by omega, h4p, hn5, hpw, by decide, by decide, fun ra kvs rm H6 fra h6r hrf hgd hpl hkl D6 B6 => ⟨by decide, fun so hso => ?_⟩⟩
    have nra := D4.ne fra
    have nso := D6.ne hso
    have s7 := Same.upd0 (o := .lst ((sortsL true).map V.str)) hso
    have M7 : FromAt (upd H6 so (.lst ((sortsL true).map V.str))) d l ca ra pa ws ns kvs rm := ⟨D6.same s7, nca, nra, npa, s7 _ _ (B6 _ _ nca.1 nca.2 h4), s7 _ _ h6r, s7 _ _ (B6 _ _ npa.1 npa.2 h4p), hrf.same fun x vs e => s7 _ _ e, hwn, ok.nd, by omega, hn5, hpw.imp fun h => by omega, ok.nm, fun c hc => by
      obtain ⟨g1, g2, g3, g4⟩ := hgd c hc
      exact ⟨g1, by omega, fun v hv => hnb v (g4 v hv)⟩⟩
    have tb7 := (tb4.but D4 B6).same s7
    refine ⟨d, l, ca, ra, pa, so, ws, ns, kvs, rm, rfl, M7, nso, upd_same, fun w W H8 hW hok _ D8 B8 => ?_⟩
    have M8 := M7.but D8 B8
    have tb8 := tb7.but M7.D B8
    (try ctx_has vcx true_and)
    refine mx_two D8 hW hok fun w2 W2 H9 hW2 hm D9 B9 => ?_
    have M9 := M8.but D9 B9
    have tb9 := tb8.but D8 B9
    have hW9 : WX H9 w W := WX_keep hW fun b xs e => B9.tup D8 e
    clear hS sm1 B2 B3 B4 B6 B8 B9 hd hl D1 D2 D3 D4 D6 D8
    (try ctx_has vcx true_and)
    refine pl_two tb9 hW9 hok fun w3 H10 s10 h10 => ?_
    obtain ⟨tv, htv⟩ := WX_tup h10
    refine ⟨true, .inl ⟨tv, htv, rfl⟩, ?_⟩
    rw [if_neg (by decide)]
    have hokP := ok_mixX hok (mix_plainX hok)
    have hnm : ∀ c ∈ cellsX (plainX W), IsNm c := fun c hc => ok.nm c (okX_cells hokP c hc)
    refine pl_two (tb9.same s10) (WX_keep hW9 fun b xs e => s10 _ _ e) hok fun w4 H11 s11 h11 => ?_
    refine ne_sameX (WX_keep h10 fun b xs e => s11 _ _ e) h11 hnm ⟨false, rfl, ?_⟩
    rw [if_neg Bool.false_ne_true]
    have s911 := s10.trans s11
    refine pl_two (tb9.same s911) (WX_keep hW2 fun b xs e => s911 _ _ e) (ok_mixX hok hm) fun w5 H12 s12 h12 => ?_
    rw [plain_mixX hok hm] at h12
    have s1012 := s11.trans s12
    refine ne_sameX h12 (WX_keep h10 fun b xs e => s1012 _ _ e) hnm ⟨false, rfl, ?_⟩
    rw [if_neg Bool.false_ne_true]
    have s912 := s911.trans s12
    refine pl_two (tb9.same s912) (WX_keep h10 fun b xs e => s1012 _ _ e) hokP fun w6 H13 s13 h13 => ?_
    rw [plain_mixX hok (mix_plainX hok)] at h13
    have s1013 := s1012.trans s13
    refine ne_sameX h13 (WX_keep h10 fun b xs e => s1013 _ _ e) hnm ⟨false, rfl, ?_⟩
    rw [if_neg Bool.false_ne_true]
    have s913 := s912.trans s13
    refine ⟨ca, ra, ws, kvs, rm, rfl, .inl (s913 _ _ M9.ha), s913 _ _ M9.hr, M9.rf.same fun x vs e => s913 _ _ e, ok.nd, by omega, prodS_small (by omega) (fun c hc => by have := (hgd c hc).2.1; omega), fun c hc => by have := (hgd c hc).2.1; omega, fun fl xs H14 _ h14 hFP s14 => ⟨fl, rfl, xs, h14, ?_⟩⟩
    have s1014 := s1013.trans s14
    have s914 := s913.trans s14
    refine for_g wlk_list (fun i σ H' => ∃ v8 : Option V, σ = [some (.ref a), some (.ref d), some (.ref ca), some (.ref pa), some (.ref ra), some (.ref w), some (.ref w2), some (.ref w3), v8] ∧ Same H14 H') ⟨_, rfl, Same.refl _⟩ (fun i σ H' zq53 => by obtain ⟨_, _, s⟩ := zq53; exact (.of (s _ _ h14))) ?_ ?_
    · rintro i x σ H15 hi hx ⟨v8, rfl, s15⟩
      have hpi : i < (prodS rm ws).length := by rw [← hFP.1]; exact hi
      have hip := (hFP.2 i x _ hx (List.getElem?_eq_getElem hpi)).keep fun b kvs e => s15 _ _ e
      obtain ⟨f, g, rfl, F⟩ := fp_fill ok.nd (by omega) hip (List.getElem_mem hpi) fun c hc v hv => hnb v ((hgd c hc).2.2.2 v hv)
      (try ctx_has vcx true_and)
      refine kept_two (WX_keep hW9 fun b xs e => s15 _ _ (s914 _ _ e)) (okX_sz hok) (F.sub (okX_cells hok)) fun H16 s16 => ?_
      refine kept_two (WX_keep h10 fun b xs e => s16 _ _ (s15 _ _ (s1014 _ _ e))) (okX_sz hokP) ((F.same s16).sub (okX_cells hokP)) fun H17 s17 => ?_
      rw [kept_mixX g hok (mix_plainX hok)]
      refine ⟨rfl, ?_⟩
      rw [if_neg (by rw [decide_eq_true rfl]; decide)]
      exact (s15.trans s16).trans s17
    · rintro σ H15 ⟨v8, rfl, s15⟩
      exact k _ ((tb9.same s914).same s15)
theorem lenq1 {α : Type} {us : List α} (h : us.length = 1) : ∃ u0, us = [u0] := by
  match us, h with
  | [u0], _ => exact ⟨u0, rfl⟩
theorem lenq2 {α : Type} {us : List α} (h : us.length = 2) : ∃ u0 u1, us = [u0, u1] := by
  match us, h with
  | [u0, u1], _ => exact ⟨u0, u1, rfl⟩
theorem lenq3 {α : Type} {us : List α} (h : us.length = 3) : ∃ u0 u1 u2, us = [u0, u1, u2] := by
  match us, h with
  | [u0, u1, u2], _ => exact ⟨u0, u1, u2, rfl⟩
theorem lenq4 {α : Type} {us : List α} (h : us.length = 4) : ∃ u0 u1 u2 u3, us = [u0, u1, u2, u3] := by
  match us, h with
  | [u0, u1, u2, u3], _ => exact ⟨u0, u1, u2, u3, rfl⟩
theorem lenq5 {α : Type} {us : List α} (h : us.length = 5) : ∃ u0 u1 u2 u3 u4, us = [u0, u1, u2, u3, u4] := by
  match us, h with
  | [u0, u1, u2, u3, u4], _ => exact ⟨u0, u1, u2, u3, u4, rfl⟩
theorem lenq6 {α : Type} {us : List α} (h : us.length = 6) : ∃ u0 u1 u2 u3 u4 u5, us = [u0, u1, u2, u3, u4, u5] := by
  match us, h with
  | [u0, u1, u2, u3, u4, u5], _ => exact ⟨u0, u1, u2, u3, u4, u5, rfl⟩
theorem lenq7 {α : Type} {us : List α} (h : us.length = 7) : ∃ u0 u1 u2 u3 u4 u5 u6, us = [u0, u1, u2, u3, u4, u5, u6] := by
  match us, h with
  | [u0, u1, u2, u3, u4, u5, u6], _ => exact ⟨u0, u1, u2, u3, u4, u5, u6, rfl⟩
theorem lenq8 {α : Type} {us : List α} (h : us.length = 8) : ∃ u0 u1 u2 u3 u4 u5 u6 u7, us = [u0, u1, u2, u3, u4, u5, u6, u7] := by
  match us, h with
  | [u0, u1, u2, u3, u4, u5, u6, u7], _ => exact ⟨u0, u1, u2, u3, u4, u5, u6, u7, rfl⟩
theorem lenq9 {α : Type} {us : List α} (h : us.length = 9) : ∃ u0 u1 u2 u3 u4 u5 u6 u7 u8, us = [u0, u1, u2, u3, u4, u5, u6, u7, u8] := by
  match us, h with
  | [u0, u1, u2, u3, u4, u5, u6, u7, u8], _ => exact ⟨u0, u1, u2, u3, u4, u5, u6, u7, u8, rfl⟩
theorem lenq10 {α : Type} {us : List α} (h : us.length = 10) : ∃ u0 u1 u2 u3 u4 u5 u6 u7 u8 u9, us = [u0, u1, u2, u3, u4, u5, u6, u7, u8, u9] := by
  match us, h with
  | [u0, u1, u2, u3, u4, u5, u6, u7, u8, u9], _ => exact ⟨u0, u1, u2, u3, u4, u5, u6, u7, u8, u9, rfl⟩
theorem lenq11 {α : Type} {us : List α} (h : us.length = 11) : ∃ u0 u1 u2 u3 u4 u5 u6 u7 u8 u9 u10, us = [u0, u1, u2, u3, u4, u5, u6, u7, u8, u9, u10] := by
  match us, h with
  | [u0, u1, u2, u3, u4, u5, u6, u7, u8, u9, u10], _ => exact ⟨u0, u1, u2, u3, u4, u5, u6, u7, u8, u9, u10, rfl⟩
theorem all_mk {l : PySem.W.OpenLaw} {w : World} {K : PySem.W.Frag} {h : Heap} {mg : Str → Option Value} {fa : Addr} (X : K.In h) (G : h.Ns mainGlobals mg) (hfa : mg "law" = some (.ref fa))
    {f0 : Addr} {oc0 : Value} {od0 an0 : Option Addr} {sl0 : Array (Option Value)} {kV0 dc0 pm0 cd0 ct0 : Value}
    {f1 : Addr} {oc1 : Value} {od1 an1 : Option Addr} {sl1 : Array (Option Value)} {kV1 dc1 pm1 cd1 ct1 : Value}
    {f2 : Addr} {oc2 : Value} {od2 an2 : Option Addr} {sl2 : Array (Option Value)} {kV2 dc2 pm2 cd2 ct2 : Value}
    {f3 : Addr} {oc3 : Value} {od3 an3 : Option Addr} {sl3 : Array (Option Value)} {kV3 dc3 pm3 cd3 ct3 : Value}
    {f4 : Addr} {oc4 : Value} {od4 an4 : Option Addr} {sl4 : Array (Option Value)} {kV4 dc4 pm4 cd4 ct4 : Value}
    {f5 : Addr} {oc5 : Value} {od5 an5 : Option Addr} {sl5 : Array (Option Value)} {kV5 dc5 pm5 cd5 ct5 : Value}
    {f6 : Addr} {oc6 : Value} {od6 an6 : Option Addr} {sl6 : Array (Option Value)} {kV6 dc6 pm6 cd6 ct6 : Value}
    {f7 : Addr} {oc7 : Value} {od7 an7 : Option Addr} {sl7 : Array (Option Value)} {kV7 dc7 pm7 cd7 ct7 : Value}
    {f8 : Addr} {oc8 : Value} {od8 an8 : Option Addr} {sl8 : Array (Option Value)} {kV8 dc8 pm8 cd8 ct8 : Value}
    {f9 : Addr} {oc9 : Value} {od9 an9 : Option Addr} {sl9 : Array (Option Value)} {kV9 dc9 pm9 cd9 ct9 : Value}
    {f10 : Addr} {oc10 : Value} {od10 an10 : Option Addr} {sl10 : Array (Option Value)} {kV10 dc10 pm10 cd10 ct10 : Value}
    {f11 : Addr} {oc11 : Value} {od11 an11 : Option Addr} {sl11 : Array (Option Value)} {kV11 dc11 pm11 cd11 ct11 : Value}
    {f12 : Addr} {oc12 : Value} {od12 an12 : Option Addr} {sl12 : Array (Option Value)} {kV12 dc12 pm12 cd12 ct12 : Value}
    {f13 : Addr} {oc13 : Value} {od13 an13 : Option Addr} {sl13 : Array (Option Value)} {kV13 dc13 pm13 cd13 ct13 : Value}
    {f14 : Addr} {oc14 : Value} {od14 an14 : Option Addr} {sl14 : Array (Option Value)} {kV14 dc14 pm14 cd14 ct14 : Value}
    {f15 : Addr} {oc15 : Value} {od15 an15 : Option Addr} {sl15 : Array (Option Value)} {kV15 dc15 pm15 cd15 ct15 : Value}
    {f16 : Addr} {oc16 : Value} {od16 an16 : Option Addr} {sl16 : Array (Option Value)} {kV16 dc16 pm16 cd16 ct16 : Value}
    {f17 : Addr} {oc17 : Value} {od17 an17 : Option Addr} {sl17 : Array (Option Value)} {kV17 dc17 pm17 cd17 ct17 : Value}
    {f18 : Addr} {oc18 : Value} {od18 an18 : Option Addr} {sl18 : Array (Option Value)} {kV18 dc18 pm18 cd18 ct18 : Value}
    {f19 : Addr} {oc19 : Value} {od19 an19 : Option Addr} {sl19 : Array (Option Value)} {kV19 dc19 pm19 cd19 ct19 : Value}
    {f20 : Addr} {oc20 : Value} {od20 an20 : Option Addr} {sl20 : Array (Option Value)} {kV20 dc20 pm20 cd20 ct20 : Value}
    {f21 : Addr} {oc21 : Value} {od21 an21 : Option Addr} {sl21 : Array (Option Value)} {kV21 dc21 pm21 cd21 ct21 : Value}
    (a0 : PySem.W.nsIn K mainGlobals "_law_draw" = some (some (.ref f0)))
    (l0 : K.lookup f0 = some ⟨oc0, od0, .func (PySem.W.fnOf "_law_draw" "_law_draw" (defArgs s__law_draw) (defBody s__law_draw) (defScope s__law_draw) .none kV0 dc0 pm0 an0 cd0 ct0), sl0⟩)
    (c0 : PySem.W.codeIn K cd0 "_law_draw" = true) (k0 : PySem.W.keepIn K (.ref f0) = true)
    (a1 : PySem.W.nsIn K mainGlobals "_law_deal" = some (some (.ref f1)))
    (l1 : K.lookup f1 = some ⟨oc1, od1, .func (PySem.W.fnOf "_law_deal" "_law_deal" (defArgs s__law_deal) (defBody s__law_deal) (defScope s__law_deal) .none kV1 dc1 pm1 an1 cd1 ct1), sl1⟩)
    (c1 : PySem.W.codeIn K cd1 "_law_deal" = true) (k1 : PySem.W.keepIn K (.ref f1) = true)
    (a2 : PySem.W.nsIn K mainGlobals "_law_names" = some (some (.ref f2)))
    (l2 : K.lookup f2 = some ⟨oc2, od2, .func (PySem.W.fnOf "_law_names" "_law_names" (defArgs s__law_names) (defBody s__law_names) (defScope s__law_names) .none kV2 dc2 pm2 an2 cd2 ct2), sl2⟩)
    (c2 : PySem.W.codeIn K cd2 "_law_names" = true) (k2 : PySem.W.keepIn K (.ref f2) = true)
    (a3 : PySem.W.nsIn K mainGlobals "_law_pool" = some (some (.ref f3)))
    (l3 : K.lookup f3 = some ⟨oc3, od3, .func (PySem.W.fnOf "_law_pool" "_law_pool" (defArgs s__law_pool) (defBody s__law_pool) (defScope s__law_pool) .none kV3 dc3 pm3 an3 cd3 ct3), sl3⟩)
    (c3 : PySem.W.codeIn K cd3 "_law_pool" = true) (k3 : PySem.W.keepIn K (.ref f3) = true)
    (a4 : PySem.W.nsIn K mainGlobals "_law_rooms" = some (some (.ref f4)))
    (l4 : K.lookup f4 = some ⟨oc4, od4, .func (PySem.W.fnOf "_law_rooms" "_law_rooms" (defArgs s__law_rooms) (defBody s__law_rooms) (defScope s__law_rooms) .none kV4 dc4 pm4 an4 cd4 ct4), sl4⟩)
    (c4 : PySem.W.codeIn K cd4 "_law_rooms" = true) (k4 : PySem.W.keepIn K (.ref f4) = true)
    (a5 : PySem.W.nsIn K mainGlobals "_law_some" = some (some (.ref f5)))
    (l5 : K.lookup f5 = some ⟨oc5, od5, .func (PySem.W.fnOf "_law_some" "_law_some" (defArgs s__law_some) (defBody s__law_some) (defScope s__law_some) .none kV5 dc5 pm5 an5 cd5 ct5), sl5⟩)
    (c5 : PySem.W.codeIn K cd5 "_law_some" = true) (k5 : PySem.W.keepIn K (.ref f5) = true)
    (a6 : PySem.W.nsIn K mainGlobals "_law_fillings" = some (some (.ref f6)))
    (l6 : K.lookup f6 = some ⟨oc6, od6, .func (PySem.W.fnOf "_law_fillings" "_law_fillings" (defArgs s__law_fillings) (defBody s__law_fillings) (defScope s__law_fillings) .none kV6 dc6 pm6 an6 cd6 ct6), sl6⟩)
    (c6 : PySem.W.codeIn K cd6 "_law_fillings" = true) (k6 : PySem.W.keepIn K (.ref f6) = true)
    (a7 : PySem.W.nsIn K mainGlobals "_law_kept" = some (some (.ref f7)))
    (l7 : K.lookup f7 = some ⟨oc7, od7, .func (PySem.W.fnOf "_law_kept" "_law_kept" (defArgs s__law_kept) (defBody s__law_kept) (defScope s__law_kept) .none kV7 dc7 pm7 an7 cd7 ct7), sl7⟩)
    (c7 : PySem.W.codeIn K cd7 "_law_kept" = true) (k7 : PySem.W.keepIn K (.ref f7) = true)
    (a8 : PySem.W.nsIn K mainGlobals "_law_bounds" = some (some (.ref f8)))
    (l8 : K.lookup f8 = some ⟨oc8, od8, .func (PySem.W.fnOf "_law_bounds" "_law_bounds" (defArgs s__law_bounds) (defBody s__law_bounds) (defScope s__law_bounds) .none kV8 dc8 pm8 an8 cd8 ct8), sl8⟩)
    (c8 : PySem.W.codeIn K cd8 "_law_bounds" = true) (k8 : PySem.W.keepIn K (.ref f8) = true)
    (a9 : PySem.W.nsIn K mainGlobals "_law_sum" = some (some (.ref f9)))
    (l9 : K.lookup f9 = some ⟨oc9, od9, .func (PySem.W.fnOf "_law_sum" "_law_sum" (defArgs s__law_sum) (defBody s__law_sum) (defScope s__law_sum) .none kV9 dc9 pm9 an9 cd9 ct9), sl9⟩)
    (c9 : PySem.W.codeIn K cd9 "_law_sum" = true) (k9 : PySem.W.keepIn K (.ref f9) = true)
    (a10 : PySem.W.nsIn K mainGlobals "_law_rows" = some (some (.ref f10)))
    (l10 : K.lookup f10 = some ⟨oc10, od10, .func (PySem.W.fnOf "_law_rows" "_law_rows" (defArgs s__law_rows) (defBody s__law_rows) (defScope s__law_rows) .none kV10 dc10 pm10 an10 cd10 ct10), sl10⟩)
    (c10 : PySem.W.codeIn K cd10 "_law_rows" = true) (k10 : PySem.W.keepIn K (.ref f10) = true)
    (a11 : PySem.W.nsIn K mainGlobals "_law_way" = some (some (.ref f11)))
    (l11 : K.lookup f11 = some ⟨oc11, od11, .func (PySem.W.fnOf "_law_way" "_law_way" (defArgs s__law_way) (defBody s__law_way) (defScope s__law_way) .none kV11 dc11 pm11 an11 cd11 ct11), sl11⟩)
    (c11 : PySem.W.codeIn K cd11 "_law_way" = true) (k11 : PySem.W.keepIn K (.ref f11) = true)
    (a12 : PySem.W.nsIn K mainGlobals "_law_wish" = some (some (.ref f12)))
    (l12 : K.lookup f12 = some ⟨oc12, od12, .func (PySem.W.fnOf "_law_wish" "_law_wish" (defArgs s__law_wish) (defBody s__law_wish) (defScope s__law_wish) .none kV12 dc12 pm12 an12 cd12 ct12), sl12⟩)
    (c12 : PySem.W.codeIn K cd12 "_law_wish" = true) (k12 : PySem.W.keepIn K (.ref f12) = true)
    (a13 : PySem.W.nsIn K mainGlobals "in_order" = some (some (.ref f13)))
    (l13 : K.lookup f13 = some ⟨oc13, od13, .func (PySem.W.fnOf "in_order" "in_order" (defArgs s_in_order) (defBody s_in_order) (defScope s_in_order) .none kV13 dc13 pm13 an13 cd13 ct13), sl13⟩)
    (c13 : PySem.W.codeIn K cd13 "in_order" = true) (k13 : PySem.W.keepIn K (.ref f13) = true)
    (a14 : PySem.W.nsIn K mainGlobals "_law_insert" = some (some (.ref f14)))
    (l14 : K.lookup f14 = some ⟨oc14, od14, .func (PySem.W.fnOf "_law_insert" "_law_insert" (defArgs s__law_insert) (defBody s__law_insert) (defScope s__law_insert) .none kV14 dc14 pm14 an14 cd14 ct14), sl14⟩)
    (c14 : PySem.W.codeIn K cd14 "_law_insert" = true) (k14 : PySem.W.keepIn K (.ref f14) = true)
    (a15 : PySem.W.nsIn K mainGlobals "_law_by_key" = some (some (.ref f15)))
    (l15 : K.lookup f15 = some ⟨oc15, od15, .func (PySem.W.fnOf "_law_by_key" "_law_by_key" (defArgs s__law_by_key) (defBody s__law_by_key) (defScope s__law_by_key) .none kV15 dc15 pm15 an15 cd15 ct15), sl15⟩)
    (c15 : PySem.W.codeIn K cd15 "_law_by_key" = true) (k15 : PySem.W.keepIn K (.ref f15) = true)
    (a16 : PySem.W.nsIn K mainGlobals "_law_rising" = some (some (.ref f16)))
    (l16 : K.lookup f16 = some ⟨oc16, od16, .func (PySem.W.fnOf "_law_rising" "_law_rising" (defArgs s__law_rising) (defBody s__law_rising) (defScope s__law_rising) .none kV16 dc16 pm16 an16 cd16 ct16), sl16⟩)
    (c16 : PySem.W.codeIn K cd16 "_law_rising" = true) (k16 : PySem.W.keepIn K (.ref f16) = true)
    (a17 : PySem.W.nsIn K mainGlobals "plain_table" = some (some (.ref f17)))
    (l17 : K.lookup f17 = some ⟨oc17, od17, .func (PySem.W.fnOf "plain_table" "plain_table" (defArgs s_plain_table) (defBody s_plain_table) (defScope s_plain_table) .none kV17 dc17 pm17 an17 cd17 ct17), sl17⟩)
    (c17 : PySem.W.codeIn K cd17 "plain_table" = true) (k17 : PySem.W.keepIn K (.ref f17) = true)
    (hcd17 : cd17 = .ref 25) (htb17 : PySem.W.codeHdIn K 25 23 = true)
    (a18 : PySem.W.nsIn K mainGlobals "plain_form" = some (some (.ref f18)))
    (l18 : K.lookup f18 = some ⟨oc18, od18, .func (PySem.W.fnOf "plain_form" "plain_form" (defArgs s_plain_form) (defBody s_plain_form) (defScope s_plain_form) .none kV18 dc18 pm18 an18 cd18 ct18), sl18⟩)
    (c18 : PySem.W.codeIn K cd18 "plain_form" = true) (k18 : PySem.W.keepIn K (.ref f18) = true)
    (hcd18 : cd18 = .ref 32) (htb18 : PySem.W.codeHdIn K 32 28 = true)
    (a19 : PySem.W.nsIn K mainGlobals "_law_plain" = some (some (.ref f19)))
    (l19 : K.lookup f19 = some ⟨oc19, od19, .func (PySem.W.fnOf "_law_plain" "_law_plain" (defArgs s__law_plain) (defBody s__law_plain) (defScope s__law_plain) .none kV19 dc19 pm19 an19 cd19 ct19), sl19⟩)
    (c19 : PySem.W.codeIn K cd19 "_law_plain" = true) (k19 : PySem.W.keepIn K (.ref f19) = true)
    (a20 : PySem.W.nsIn K mainGlobals "_law_mixed_up" = some (some (.ref f20)))
    (l20 : K.lookup f20 = some ⟨oc20, od20, .func (PySem.W.fnOf "_law_mixed_up" "_law_mixed_up" (defArgs s__law_mixed_up) (defBody s__law_mixed_up) (defScope s__law_mixed_up) .none kV20 dc20 pm20 an20 cd20 ct20), sl20⟩)
    (c20 : PySem.W.codeIn K cd20 "_law_mixed_up" = true) (k20 : PySem.W.keepIn K (.ref f20) = true)
    (a21 : PySem.W.nsIn K mainGlobals "law" = some (some (.ref f21)))
    (l21 : K.lookup f21 = some ⟨oc21, od21, .func (PySem.W.fnOf "law" "law" (defArgs s_law) (defBody s_law) (defScope s_law) .none kV21 dc21 pm21 an21 cd21 ct21), sl21⟩)
    (c21 : PySem.W.codeIn K cd21 "law" = true) (k21 : PySem.W.keepIn K (.ref f21) = true)
    (z0 : PySem.W.nsIn K mainGlobals "len" = some none)
    (z1 : PySem.W.nsIn K mainGlobals "max" = some none)
    (z2 : PySem.W.nsIn K mainGlobals "min" = some none)
    (z3 : PySem.W.nsIn K mainGlobals "sum" = some none)
    (z4 : PySem.W.nsIn K mainGlobals "list" = some none)
    (z5 : PySem.W.nsIn K mainGlobals "reversed" = some none)
    (z6 : PySem.W.nsIn K mainGlobals "range" = some none)
    (z7 : PySem.W.nsIn K mainGlobals "isinstance" = some none)
    (z8 : PySem.W.nsIn K mainGlobals "all" = some none)
    (z9 : PySem.W.nsIn K mainGlobals "dict" = some none)
    (z10 : PySem.W.nsIn K mainGlobals "tuple" = some none)
    (z11 : PySem.W.nsIn K mainGlobals "set" = some none)
    (z12 : PySem.W.nsIn K mainGlobals "int" = some none)
    (z13 : PySem.W.nsIn K mainGlobals "sorted" = some none) :
    ∃ fd : FuncData, (∀ (s : Shared) (v : Value), BindsTo s fd ⟨[v], []⟩ [("_law_script", v)]) ∧ ∀ base : Heap, K.In base → base.Ns mainGlobals mg → BMain mg base → FnOk l.prog w K mg base CX0 30 fa fd ["_law_script"] (spLaw K) := by
  have e := hfa.symm.trans (PySem.W.mg_of X G a21)
  cases e
  refine ⟨PySem.W.fnOf "law" "law" (defArgs s_law) (defBody s_law) (defScope s_law) .none kV21 dc21 pm21 an21 cd21 ct21, fun s v => .of_eq rfl, fun base _ _ bmn => ?_⟩
  have T : Txt mg base := ⟨PySem.W.mg_none_of X G z0, PySem.W.mg_none_of X G z1, PySem.W.mg_none_of X G z2, PySem.W.mg_none_of X G z3, PySem.W.mg_none_of X G z4, PySem.W.mg_none_of X G z5, PySem.W.mg_none_of X G z6, PySem.W.mg_none_of X G z7, PySem.W.mg_none_of X G z8, PySem.W.mg_none_of X G z9, PySem.W.mg_none_of X G z10, PySem.W.mg_none_of X G z11, PySem.W.mg_none_of X G z12, PySem.W.mg_none_of X G z13, bmn⟩
  have L0 : FnL K mg "_law_draw" s__law_draw ["_law_deal_here", "_law_many"] := fnL_mk X G a0 l0 c0 k0 fun _ _ _ _ _ _ us hl => by obtain ⟨u0, u1, rfl⟩ := lenq2 hl; rfl
  have L1 : FnL K mg "_law_deal" s__law_deal ["_law_script", "_law_start"] := fnL_mk X G a1 l1 c1 k1 fun _ _ _ _ _ _ us hl => by obtain ⟨u0, u1, rfl⟩ := lenq2 hl; rfl
  have L2 : FnL K mg "_law_names" s__law_names ["_law_deal_here", "_law_many"] := fnL_mk X G a2 l2 c2 k2 fun _ _ _ _ _ _ us hl => by obtain ⟨u0, u1, rfl⟩ := lenq2 hl; rfl
  have L3 : FnL K mg "_law_pool" s__law_pool ["_law_deal_here"] := fnL_mk X G a3 l3 c3 k3 fun _ _ _ _ _ _ us hl => by obtain ⟨u0, rfl⟩ := lenq1 hl; rfl
  have L4 : FnL K mg "_law_rooms" s__law_rooms ["_law_deal_here", "_law_names_here", "_law_pool_here", "_law_most"] := fnL_mk X G a4 l4 c4 k4 fun _ _ _ _ _ _ us hl => by obtain ⟨u0, u1, u2, u3, rfl⟩ := lenq4 hl; rfl
  have L5 : FnL K mg "_law_some" s__law_some ["_law_deal_here", "_law_things", "_law_least"] := fnL_mk X G a5 l5 c5 k5 fun _ _ _ _ _ _ us hl => by obtain ⟨u0, u1, u2, rfl⟩ := lenq3 hl; rfl
  have L6 : FnL K mg "_law_fillings" s__law_fillings ["_law_names_here", "_law_rooms_here"] := fnL_mk X G a6 l6 c6 k6 fun _ _ _ _ _ _ us hl => by obtain ⟨u0, u1, rfl⟩ := lenq2 hl; rfl
  have L7 : FnL K mg "_law_kept" s__law_kept ["_law_wish_here", "_law_filling"] := fnL_mk X G a7 l7 c7 k7 fun _ _ _ _ _ _ us hl => by obtain ⟨u0, u1, rfl⟩ := lenq2 hl; rfl
  have L8 : FnL K mg "_law_bounds" s__law_bounds ["_law_deal_here", "_law_low", "_law_high"] := fnL_mk X G a8 l8 c8 k8 fun _ _ _ _ _ _ us hl => by obtain ⟨u0, u1, u2, rfl⟩ := lenq3 hl; rfl
  have L9 : FnL K mg "_law_sum" s__law_sum ["_law_deal_here", "_law_some_here", "_law_rooms_here"] := fnL_mk X G a9 l9 c9 k9 fun _ _ _ _ _ _ us hl => by obtain ⟨u0, u1, u2, rfl⟩ := lenq3 hl; rfl
  have L10 : FnL K mg "_law_rows" s__law_rows ["_law_deal_here", "_law_some_here", "_law_pool_here"] := fnL_mk X G a10 l10 c10 k10 fun _ _ _ _ _ _ us hl => by obtain ⟨u0, u1, u2, rfl⟩ := lenq3 hl; rfl
  have L11 : FnL K mg "_law_way" s__law_way ["_law_deal_here", "_law_some_here", "_law_pool_here"] := fnL_mk X G a11 l11 c11 k11 fun _ _ _ _ _ _ us hl => by obtain ⟨u0, u1, u2, rfl⟩ := lenq3 hl; rfl
  have L12 : FnL K mg "_law_wish" s__law_wish ["_law_deal_here", "_law_names_here", "_law_rooms_here", "_law_pool_here", "_law_sorts"] := fnL_mk X G a12 l12 c12 k12 fun _ _ _ _ _ _ us hl => by obtain ⟨u0, u1, u2, u3, u4, rfl⟩ := lenq5 hl; rfl
  have L13 : FnL K mg "in_order" s_in_order ["things"] := fnL_mk X G a13 l13 c13 k13 fun _ _ _ _ _ _ us hl => by obtain ⟨u0, rfl⟩ := lenq1 hl; rfl
  have L14 : FnL K mg "_law_insert" s__law_insert ["_law_found", "_law_thing", "_law_key"] := fnL_mk X G a14 l14 c14 k14 fun _ _ _ _ _ _ us hl => by obtain ⟨u0, u1, u2, rfl⟩ := lenq3 hl; rfl
  have L15 : FnL K mg "_law_by_key" s__law_by_key ["_law_things", "_law_keys"] := fnL_mk X G a15 l15 c15 k15 fun _ _ _ _ _ _ us hl => by obtain ⟨u0, u1, rfl⟩ := lenq2 hl; rfl
  have L16 : FnL K mg "_law_rising" s__law_rising ["_law_things"] := fnL_mk X G a16 l16 c16 k16 fun _ _ _ _ _ _ us hl => by obtain ⟨u0, rfl⟩ := lenq1 hl; rfl
  have L17 : FnLT K mg "plain_table" s_plain_table ["wish"] 23 := fnLT_mk X G a17 l17 c17 k17 hcd17 htb17 fun _ _ _ _ _ _ us hl => by obtain ⟨u0, rfl⟩ := lenq1 hl; rfl
  have L18 : FnLT K mg "plain_form" s_plain_form ["wish"] 28 := fnLT_mk X G a18 l18 c18 k18 hcd18 htb18 fun _ _ _ _ _ _ us hl => by obtain ⟨u0, rfl⟩ := lenq1 hl; rfl
  have L19 : FnL K mg "_law_plain" s__law_plain ["_law_wish_here"] := fnL_mk X G a19 l19 c19 k19 fun _ _ _ _ _ _ us hl => by obtain ⟨u0, rfl⟩ := lenq1 hl; rfl
  have L20 : FnL K mg "_law_mixed_up" s__law_mixed_up ["_law_deal_here", "_law_wish_here"] := fnL_mk X G a20 l20 c20 k20 fun _ _ _ _ _ _ us hl => by obtain ⟨u0, u1, rfl⟩ := lenq2 hl; rfl
  have F_law_draw : Fn l.prog w K mg base "_law_draw" 1 ["_law_deal_here", "_law_many"] (spDraw) := ok__law_draw T L0 
  have F_law_deal : Fn l.prog w K mg base "_law_deal" 1 ["_law_script", "_law_start"] (spDeal K) := ok__law_deal T L1 
  have F_law_names : Fn l.prog w K mg base "_law_names" 2 ["_law_deal_here", "_law_many"] (spNames) := ok__law_names T L2 F_law_draw
  have F_law_pool : Fn l.prog w K mg base "_law_pool" 2 ["_law_deal_here"] (spPool5) := ok__law_pool T L3 F_law_draw
  have F_law_rooms : Fn l.prog w K mg base "_law_rooms" 2 ["_law_deal_here", "_law_names_here", "_law_pool_here", "_law_most"] (spRoomsP) := ok__law_rooms T L4 F_law_draw
  have F_law_some : Fn l.prog w K mg base "_law_some" 2 ["_law_deal_here", "_law_things", "_law_least"] (spSome) := ok__law_some T L5 F_law_draw
  have F_law_fillings : Fn l.prog w K mg base "_law_fillings" 1 ["_law_names_here", "_law_rooms_here"] (spFillsP) := ok__law_fillings T L6 
  have F_law_keptB : Fn l.prog w K mg base "_law_kept" 3 ["_law_wish_here", "_law_filling"] (spKeptP) := ok__law_keptB T L7 
  have F_law_keptS : Fn l.prog w K mg base "_law_kept" 4 ["_law_wish_here", "_law_filling"] (spSame) := ok__law_keptS T L7 F_law_keptB
  have F_law_bounds : Fn l.prog w K mg base "_law_bounds" 2 ["_law_deal_here", "_law_low", "_law_high"] (spBounds) := ok__law_bounds T L8 F_law_draw
  have F_law_sum : Fn l.prog w K mg base "_law_sum" 3 ["_law_deal_here", "_law_some_here", "_law_rooms_here"] (spSumL) := ok__law_sum T L9 F_law_draw F_law_bounds
  have F_law_rows : Fn l.prog w K mg base "_law_rows" 2 ["_law_deal_here", "_law_some_here", "_law_pool_here"] (spRowsL) := ok__law_rows T L10 F_law_draw
  have F_law_way : Fn l.prog w K mg base "_law_way" 2 ["_law_deal_here", "_law_some_here", "_law_pool_here"] (spWay) := ok__law_way T L11 F_law_draw
  have F_law_wish : Fn l.prog w K mg base "_law_wish" 15 ["_law_deal_here", "_law_names_here", "_law_rooms_here", "_law_pool_here", "_law_sorts"] (spWishL true) := (ok__law_wish (n := 4) (h := true) T L12 F_law_draw F_law_some F_law_sum F_law_rows F_law_way (by unfold spWish0; rw [if_pos rfl]; exact ok__law_wish (n := 0) (h := false) T L12 F_law_draw F_law_some F_law_sum F_law_rows F_law_way (by unfold spWish0; rw [if_neg Bool.false_ne_true]; exact fn_false L12))).mono (by decide)
  have Fin_order : Fn l.prog w K mg base "in_order" 1 ["things"] (spOrd) := ok_in_order T L13 
  have F_law_insert : Fn l.prog w K mg base "_law_insert" 1 ["_law_found", "_law_thing", "_law_key"] (spIns) := ok__law_insert T L14 
  have F_law_by_key : Fn l.prog w K mg base "_law_by_key" 2 ["_law_things", "_law_keys"] (spByK) := ok__law_by_key T L15 F_law_insert
  have F_law_rising : Fn l.prog w K mg base "_law_rising" 3 ["_law_things"] (spOrd) := ok__law_rising T L16 F_law_by_key
  have Fplain_table : Fn l.prog w K mg base "plain_table" 2 ["wish"] (spPT) := ok_plain_table T L17 Fin_order
  have Fplain_formB : Fn l.prog w K mg base "plain_form" 3 ["wish"] (spPlB) := ok_plain_formB T L18 Fin_order Fplain_table
  have Fplain_formS : Fn l.prog w K mg base "plain_form" 4 ["wish"] (spPlS) := ok_plain_formS T L18 Fplain_formB Fin_order
  have F_law_plainB : Fn l.prog w K mg base "_law_plain" 4 ["_law_wish_here"] (spPlB) := ok__law_plainB T L19 F_law_rising F_law_by_key
  have F_law_plainS : Fn l.prog w K mg base "_law_plain" 5 ["_law_wish_here"] (spPlS) := ok__law_plainS T L19 F_law_plainB F_law_rising
  have F_law_mixed_upB : Fn l.prog w K mg base "_law_mixed_up" 3 ["_law_deal_here", "_law_wish_here"] (spMixB) := ok__law_mixed_upB T L20 F_law_some
  have F_law_mixed_upS : Fn l.prog w K mg base "_law_mixed_up" 4 ["_law_deal_here", "_law_wish_here"] (spMixS) := ok__law_mixed_upS T L20 F_law_mixed_upB F_law_some
  exact ok_law T (fun_mk l21 c21 k21) F_law_deal F_law_draw F_law_names F_law_pool F_law_rooms F_law_wish F_law_mixed_upB F_law_mixed_upS Fplain_formB Fplain_formS F_law_plainB F_law_plainS F_law_fillings F_law_keptB F_law_keptS
theorem walk {l : PySem.W.OpenLaw} {q : Program} {loose : List Str} {XP : (Str → Option Value) → Heap → Prop} {YP : World → Heap → Prop} {d : DefRec} {K : Params → PySem.W.Frag} (hn : l.most = some 63) (hdf : d.params.defaults = [])
    (hY : ∀ (w : World) (h : Heap), YP w h → (K w.params).In h) (hT : ∀ (w : World) (h : Heap), YP w h → ∀ t ∈ tabs, h.get? t.2.1 = some (PySem.W.tabObj #[]))
    (hC : ∀ w : World, ∀ t ∈ tabs, PySem.W.codeHdIn (K w.params) t.1 t.2.1 = true) (hKt : ∀ w : World, ∀ t ∈ tabs, (K w.params).lookup t.2.1 = none)
    (F : ∀ (w : World) (mg : Str → Option Value) (fa : Addr) (h : Heap), (K w.params).In h → h.Ns mainGlobals mg → mg d.name = some (.ref fa) →
      ∃ fd : FuncData, (∀ (s : Shared) (u : Value), BindsTo s fd ⟨[u], []⟩ [("_law_script", u)]) ∧ ∀ base : Heap, (K w.params).In base → base.Ns mainGlobals mg → BMain mg base → FnOk l.prog w (K w.params) mg base CX0 30 fa fd ["_law_script"] (spLaw (K w.params))) :
    PySem.W.WalkO q loose XP YP l.row.toRowW d [] (fun f vs => PySem.call f vs) :=
  L2.walk_ofT (n := 63) (k := 30) (x := "_law_script") (tabs := tabs) (sp := fun w => spLaw (K w.params)) hn (by decide) hdf ⟨rfl, by decide, by decide⟩ hY hT hC hKt (by decide) F (fun _ _ a ns hl hT hS => ⟨a, ns, rfl, hS, hl, hT, fun _ z => ⟨rfl, z⟩⟩)
noncomputable def viewQ : Program := { PySem.Challenge.pw_seekhall_k51_plain_forms with main := { PySem.Challenge.pw_seekhall_k51_plain_forms.main with body := [1, 2, 3, 5, 6, 7, 8, 9, 10, 11, 12, 13, 14, 15, 16, 17, 18, 19, 20, 21, 22, 23].map top } }
end Lw
open PySem PySem.W PyProof.Rows
local macro_rules | `(tactic| o_head $H) => do
  let hw := Lean.mkIdent `hw
  let hc := Lean.mkIdent `hc
  `(tactic| (refine holds_open (q := Lw.viewQ) (loose := List.nil) (N := 4800) (hY := Hook.of $H) (hYk := Hook.keeps $H)
                (Yf := Hook.obs $H) (Ya := Hook.val $H) (YP := Hook.says $H) (XP := XL Lw.viewQ List.nil)
                (Xt := fun s => xlAt Lw.viewQ List.nil s && recOk (RowW.records PySem.Challenge.rw_seekhall_k51_plain_forms.row.toRowW) s)
                ?hl (fun s e => xl_of s (Bool.and_eq_true_iff.mp e).1) XL.keeps (by rfl) (by rfl) (by rfl)
                (fun s e => recFacts_of (Bool.and_eq_true_iff.mp e).2) (by rfl) (by assumption) (by decide +kernel)
                ⟨rfl, rfl, rfl, rfl, rfl, by decide +kernel⟩ ?$hw ?$hc
             (case hl => intro w; kernel_rfl)))
set_option maxRecDepth 100000 in
set_option maxHeartbeats 0 in
theorem PySem.Challenge.cw_seekhall_k51_plain_forms_holds : PySem.Challenge.rw_seekhall_k51_plain_forms.Holds := by
  w_on; o_law; k_head; (case hw => w_witness2)
  k_fill
  refine Lw.walk (l := PySem.Challenge.rw_seekhall_k51_plain_forms) rfl rfl (fun w h Y => PySem.W.km_in_of Y) ?hT ?hC ?hKt ?F
  (case hT => (intro w h Y t ht; have z := PySem.W.km_tabs_of Y; simp only [Lw.tabs, List.mem_cons, List.not_mem_nil, or_false] at ht; rcases ht with rfl | rfl <;> exact z _ (by decide)))
  (case hC => (intro w t ht; simp only [Lw.tabs, List.mem_cons, List.not_mem_nil, or_false] at ht; rcases ht with rfl | rfl <;> kernel_rfl))
  (case hKt => (intro w t ht; simp only [Lw.tabs, List.mem_cons, List.not_mem_nil, or_false] at ht; rcases ht with rfl | rfl <;> kernel_rfl))
  case F =>
    intro w mg fa h KX G hmg
    refine' Lw.all_mk KX G hmg ?a0 ?l0 ?c0 ?k0 ?a1 ?l1 ?c1 ?k1 ?a2 ?l2 ?c2 ?k2 ?a3 ?l3 ?c3 ?k3 ?a4 ?l4 ?c4 ?k4 ?a5 ?l5 ?c5 ?k5 ?a6 ?l6 ?c6 ?k6 ?a7 ?l7 ?c7 ?k7 ?a8 ?l8 ?c8 ?k8 ?a9 ?l9 ?c9 ?k9 ?a10 ?l10 ?c10 ?k10 ?a11 ?l11 ?c11 ?k11 ?a12 ?l12 ?c12 ?k12 ?a13 ?l13 ?c13 ?k13 ?a14 ?l14 ?c14 ?k14 ?a15 ?l15 ?c15 ?k15 ?a16 ?l16 ?c16 ?k16 ?a17 ?l17 ?c17 ?k17 ?hcd17 ?htb17 ?a18 ?l18 ?c18 ?k18 ?hcd18 ?htb18 ?a19 ?l19 ?c19 ?k19 ?a20 ?l20 ?c20 ?k20 ?a21 ?l21 ?c21 ?k21 ?z0 ?z1 ?z2 ?z3 ?z4 ?z5 ?z6 ?z7 ?z8 ?z9 ?z10 ?z11 ?z12 ?z13
    (case a0 => k_is)
    (case l0 => k_is)
    (case c0 => k_is)
    (case k0 => k_is)
    (case a1 => k_is)
    (case l1 => k_is)
    (case c1 => k_is)
    (case k1 => k_is)
    (case a2 => k_is)
    (case l2 => k_is)
    (case c2 => k_is)
    (case k2 => k_is)
    (case a3 => k_is)
    (case l3 => k_is)
    (case c3 => k_is)
    (case k3 => k_is)
    (case a4 => k_is)
    (case l4 => k_is)
    (case c4 => k_is)
    (case k4 => k_is)
    (case a5 => k_is)
    (case l5 => k_is)
    (case c5 => k_is)
    (case k5 => k_is)
    (case a6 => k_is)
    (case l6 => k_is)
    (case c6 => k_is)
    (case k6 => k_is)
    (case a7 => k_is)
    (case l7 => k_is)
    (case c7 => k_is)
    (case k7 => k_is)
    (case a8 => k_is)
    (case l8 => k_is)
    (case c8 => k_is)
    (case k8 => k_is)
    (case a9 => k_is)
    (case l9 => k_is)
    (case c9 => k_is)
    (case k9 => k_is)
    (case a10 => k_is)
    (case l10 => k_is)
    (case c10 => k_is)
    (case k10 => k_is)
    (case a11 => k_is)
    (case l11 => k_is)
    (case c11 => k_is)
    (case k11 => k_is)
    (case a12 => k_is)
    (case l12 => k_is)
    (case c12 => k_is)
    (case k12 => k_is)
    (case a13 => k_is)
    (case l13 => k_is)
    (case c13 => k_is)
    (case k13 => k_is)
    (case a14 => k_is)
    (case l14 => k_is)
    (case c14 => k_is)
    (case k14 => k_is)
    (case a15 => k_is)
    (case l15 => k_is)
    (case c15 => k_is)
    (case k15 => k_is)
    (case a16 => k_is)
    (case l16 => k_is)
    (case c16 => k_is)
    (case k16 => k_is)
    (case a17 => k_is)
    (case l17 => k_is)
    (case c17 => k_is)
    (case k17 => k_is)
    (case hcd17 => rfl)
    (case htb17 => kernel_rfl)
    (case a18 => k_is)
    (case l18 => k_is)
    (case c18 => k_is)
    (case k18 => k_is)
    (case hcd18 => rfl)
    (case htb18 => kernel_rfl)
    (case a19 => k_is)
    (case l19 => k_is)
    (case c19 => k_is)
    (case k19 => k_is)
    (case a20 => k_is)
    (case l20 => k_is)
    (case c20 => k_is)
    (case k20 => k_is)
    (case a21 => k_is)
    (case l21 => k_is)
    (case c21 => k_is)
    (case k21 => k_is)
    (case z0 => k_is)
    (case z1 => k_is)
    (case z2 => k_is)
    (case z3 => k_is)
    (case z4 => k_is)
    (case z5 => k_is)
    (case z6 => k_is)
    (case z7 => k_is)
    (case z8 => k_is)
    (case z9 => k_is)
    (case z10 => k_is)
    (case z11 => k_is)
    (case z12 => k_is)
    (case z13 => k_is)
namespace Lw
end Lw
