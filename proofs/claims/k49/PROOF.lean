import PyProof.Rows.All
import Wide.All
import OpenK.AllK
import Wide.FinOn
import Lean
import PyProof.EqAt
import PyProof.EqKinds
import PyProof.TupleCall
import PySem.Challenge.RW_seekhall_k49_turnings
set_option Elab.async false
set_option linter.all false
set_option maxRecDepth 100000
namespace L2
open PySem PySem.Spec PyProof.Rows
noncomputable abbrev Key := Sum Int Str
noncomputable def keyIs : Key → Value → Bool
  | .inl k, v => Value.isInt k v
  | .inr x, v => Value.isStrOf x v
noncomputable def keyH (w : World) : Key → Int
  | .inl k => hashInt k
  | .inr x => hashStr w x
theorem keyIs_shape : ∀ {k : Key} {v : Value}, keyIs k v = true → (∃ i t, k = Sum.inl i ∧ v = Value.int i t) ∨ (∃ x t, k = Sum.inr x ∧ v = Value.str x t)
  | .inl i, v, h => by
    obtain ⟨t, e⟩ := Value.isInt_shape (k := i) (v := v) h
    exact .inl ⟨i, t, rfl, e⟩
  | .inr x, v, h => by
    obtain ⟨t, e⟩ := Value.isStrOf_shape (x := x) (v := v) h
    exact .inr ⟨x, t, rfl, e⟩
theorem keyIs_int (i : Int) (t : Tok) : keyIs (.inl i) (.int i t) = true := by simp [keyIs, Value.isInt]
theorem keyIs_str (x : Str) (t : Tok) : keyIs (.inr x) (.str x t) = true := by simp [keyIs, Value.isStrOf]
theorem key_ll (a b : Int) : decide ((Sum.inl a : Key) = Sum.inl b) = (a == b) := by
  by_cases e : a = b
  · subst e; simp
  · have h : ¬ (Sum.inl a : Key) = Sum.inl b := fun q => e (Sum.inl.inj q)
    rw [decide_eq_false h]
    exact (beq_eq_false_iff_ne.mpr e).symm
theorem key_rr (a b : Str) : decide ((Sum.inr a : Key) = Sum.inr b) = decide (a = b) := by
  by_cases e : a = b
  · subst e; simp
  · have h : ¬ (Sum.inr a : Key) = Sum.inr b := fun q => e (Sum.inr.inj q)
    rw [decide_eq_false h, decide_eq_false e]
theorem key_lr (a : Int) (b : Str) : decide ((Sum.inl a : Key) = Sum.inr b) = false := decide_eq_false (fun q => nomatch q)
theorem key_rl (a : Str) (b : Int) : decide ((Sum.inr a : Key) = Sum.inl b) = false := decide_eq_false (fun q => nomatch q)
noncomputable def mixKind (prog : Program) (w : World) : PySem.KeyKind prog w Key where
  is := keyIs
  hash := keyH w
  inj := fun v a b ha hb => by
    rcases keyIs_shape ha with ⟨i, t, rfl, rfl⟩ | ⟨x, t, rfl, rfl⟩
    · rcases keyIs_shape hb with ⟨j, u, rfl, e⟩ | ⟨y, u, rfl, e⟩
      · injection e with e1 _; rw [e1]
      · exact nomatch e
    · rcases keyIs_shape hb with ⟨j, u, rfl, e⟩ | ⟨y, u, rfl, e⟩
      · exact nomatch e
      · injection e with e1 _; rw [e1]
  byValue := fun k v h => by
    rcases keyIs_shape h with ⟨i, t, rfl, rfl⟩ | ⟨x, t, rfl, rfl⟩ <;> rfl
  pyHash := fun hv h => by
    rcases keyIs_shape hv with ⟨i, t, rfl, rfl⟩ | ⟨x, t, rfl, rfl⟩
    · exact wpAny_pyHash_int h
    · exact wpAny_pyHash_str h
  eqBool := fun hu hv h => by
    rcases keyIs_shape hu with ⟨i, t, rfl, rfl⟩ | ⟨x, t, rfl, rfl⟩
    · rcases keyIs_shape hv with ⟨j, u, rfl, rfl⟩ | ⟨y, u, rfl, rfl⟩
      · rw [key_ll] at h; exact wpAny_eqBool_int h
      · rw [key_lr] at h; exact SeqAt.EqAt.int_str i t y u _ _ _ _ h
    · rcases keyIs_shape hv with ⟨j, u, rfl, rfl⟩ | ⟨y, u, rfl, rfl⟩
      · rw [key_rl] at h; exact SeqAt.EqAt.str_int x t j u _ _ _ _ h
      · rw [key_rr] at h; exact wpAny_eqBool_str h
  «strs» := fun k x t v h => by
    rcases keyIs_shape h with ⟨i, u, rfl, e⟩ | ⟨y, u, rfl, e⟩
    · exact nomatch e
    · injection e with e1 _
      subst e1
      cases v <;> rfl
theorem mixKind_int (prog : Program) (w : World) (i : Int) (t : Tok) : (mixKind prog w).is (.inl i) (.int i t) = true := keyIs_int i t
theorem mixKind_str (prog : Program) (w : World) (x : Str) (t : Tok) : (mixKind prog w).is (.inr x) (.str x t) = true := keyIs_str x t
end L2
namespace L2
open PySem PySem.Spec PyProof.Rows
inductive V where
  | non | bl (b : Bool) | int (i : Int) | str (x : Str) | byt (b : Array UInt8) | flt (b : UInt64) | ref (a : Addr) | ty (n : String)
  deriving DecidableEq
noncomputable def RelV : V → Value → Prop
  | .non, u => u = Value.none
  | .bl b, u => u = Value.bool b
  | .int i, u => ∃ t, u = Value.int i t
  | .str x, u => ∃ t, u = Value.str x t
  | .byt b, u => ∃ t, u = Value.bytes b t
  | .flt b, u => ∃ t, u = Value.float b t
  | .ref a, u => u = Value.ref a
  | .ty n, u => u = Value.type n
noncomputable abbrev Vals : List V → List Value → Prop := Paired RelV
theorem Vals.length {xs : List V} {us : List Value} (r : Vals xs us) : xs.length = us.length := Paired.length r
theorem Vals.get : ∀ {xs : List V} {us : List Value} {i : Nat} {x : V}, Vals xs us → xs[i]? = some x → ∃ u, us[i]? = some u ∧ RelV x u
  | _, _, _, _, .nil, e => by simp at e
  | _, _, 0, _, .cons r _, e => by simp at e; subst e; exact ⟨_, rfl, r⟩
  | _, _, i + 1, x, .cons _ t, e => by
    obtain ⟨u, h1, h2⟩ := Vals.get (i := i) (x := x) t (by simpa using e)
    exact ⟨u, by simpa using h1, h2⟩
theorem Vals.set {x : V} {u : Value} (r : RelV x u) : ∀ {xs : List V} {us : List Value} (i : Nat), Vals xs us → Vals (xs.set i x) (us.set i u)
  | _, _, _, .nil => .nil
  | _, _, 0, .cons _ t => .cons r t
  | _, _, i + 1, .cons q t => .cons q (Vals.set r i t)
theorem Vals.append : ∀ {xs ys : List V} {us ws : List Value}, Vals xs us → Vals ys ws → Vals (xs ++ ys) (us ++ ws)
  | _, _, _, _, .nil, s => s
  | _, _, _, _, .cons r t, s => .cons r (Vals.append t s)
theorem Vals.take : ∀ {xs : List V} {us : List Value} (n : Nat), Vals xs us → Vals (xs.take n) (us.take n)
  | _, _, 0, _ => .nil
  | _, _, _ + 1, .nil => .nil
  | _, _, n + 1, .cons r t => .cons r (Vals.take n t)
theorem Vals.drop : ∀ {xs : List V} {us : List Value} (n : Nat), Vals xs us → Vals (xs.drop n) (us.drop n)
  | _, _, 0, r => r
  | _, _, _ + 1, .nil => .nil
  | _, _, n + 1, .cons _ t => Vals.drop n t
noncomputable def RelO : Option V → Option Value → Prop
  | some v, some u => RelV v u
  | none, none => True
  | _, _ => False
noncomputable def KV {κ : Type} : List (κ × V) → List (κ × Value) → Prop := Paired fun (p : κ × V) (q : κ × Value) => p.1 = q.1 ∧ RelV p.2 q.2
noncomputable def kV : Key → V
  | .inl i => .int i
  | .inr x => .str x
inductive HO where
  /-- a list -/
  | lst (xs : List V)
  /-- a tuple (never changes) -/
  | tup (xs : List V)
  /-- a dict whose keys are ints and texts; one whose keys are tuples of ints and texts (the empty one is both) -/
  | dK (kvs : List (Key × V)) | dT (kvs : List (List Key × V))
  /-- a set of ints: its members, its size -/
  | set (S : Int → Bool) (n : Nat)
  /-- an instance of the class at C, its dict at dx, its attributes -/
  | ins (C dx : Addr) (fs : List (Str × V))
  /-- the dict of the instance at x -/
  | own (x : Addr)
  /-- the dict of an exception -/
  | xd (fs : List (Str × V))
  /-- a bound method, f of x -/
  | met (f x : Addr)
  /-- a range object lo, lo + 1, .. below hi -/
  | rng (lo hi : Int)
  /-- a thing that is known to the object (the script; a dict while a loop walks it): read, never written while it is so -/
  | frz (o : Obj) (u : HO)
  /-- a code object's table -/
  | tbl (ps : Array Value)
  /-- a def's table of codes made in its body, all of the qualified name q; the codes are its own -/
  | tab (q : Str)
  /-- any other thing, by what is true of its one object (a def of one's own: SetO a S n := HO.ext fun h => ..) -/
  | ext (φ : Heap → Prop)
noncomputable abbrev Hp := Addr → Option HO
noncomputable def upd (H : Hp) (a : Addr) (o : HO) : Hp := fun b => if b = a then some o else H b
theorem upd_same {H : Hp} {a : Addr} {o : HO} : upd H a o a = some o := by unfold upd; rw [if_pos rfl]
theorem upd_ne {H : Hp} {a b : Addr} {o : HO} (h : b ≠ a) : upd H a o b = H b := by unfold upd; rw [if_neg h]
theorem ne_of {H : Hp} {a b : Addr} {o u : HO} (h : H a = some o) (h' : H b = some u) (d : o ≠ u) : a ≠ b := by
  intro e; subst e; rw [h] at h'; exact d (Option.some.inj h')
theorem ne_of_none {H : Hp} {a b : Addr} {o : HO} (h : H a = some o) (h' : H b = none) : a ≠ b := by
  intro e; subst e; rw [h] at h'; cases h'
section
variable (P : Program) (w : World)
noncomputable def ObjOk (H : Hp) (h : Heap) (a : Addr) : HO → Prop
  | .lst xs => xs.length ≤ sizeLine ∧ ∃ (its : List Value) (n : Nat), Vals xs its ∧ h.get? a = some { cls := .type "list", data := .seq its.toArray n }
  | .tup xs => xs.length ≤ sizeLine ∧ ∃ its : List Value, Vals xs its ∧ IsTup h a its.toArray
  | .dK kvs => kvs.length ≤ sizeLine ∧ (a == sysModules) = false ∧ ∃ vs, KV kvs vs ∧ h.DictOf (mixKind P w) a vs
  | .dT kvs => kvs.length ≤ sizeLine ∧ (a == sysModules) = false ∧ ∃ xs : List (List Key × Addr × Value),
      Paired (fun (p : List Key × V) (q : List Key × Addr × Value) => p.1 = q.1 ∧ H q.2.1 = some (.tup (p.1.map kV)) ∧ RelV p.2 q.2.2) kvs xs ∧
      ∃ o es ep, h.get? a = some o ∧ o.ExactDict ∧ o.data = .dict es ep ∧ es.toList = xs.map (entryOfKey (tupleKind (mixKind P w))) ∧ (xs.map (·.1)).Nodup
  | .set S n => h.SetOf (intKind P w) a S n
  | .ins C dx fs => H dx = some (.own a) ∧ fs.length ≤ 1000 ∧ dx ≠ a ∧ h.get? a = some (PySem.W.instObj C dx) ∧
      ∃ mA, h.Ns1 dx mA ∧ (∀ f, RelO (fs.lookup f) (mA f)) ∧ PySem.Within mA (fs.map (·.1))
  | .own _ => ∃ o, h.get? a = some o
  | .xd fs => ∃ mA, h.Ns1 a mA ∧ ∀ f, RelO (fs.lookup f) (mA f)
  | .rng lo hi => ∃ t u v, h.get? a = some { cls := .type "range", data := .fields #[.int lo t, .int hi u, .int 1 v] }
  | .frz o u => h.get? a = some o ∧ ObjOk H h a u
  | .tbl ps => h.get? a = some { cls := .none, data := .fields ps }
  | .tab q => ∃ ps : Array Value, h.get? a = some { cls := .none, data := .fields ps } ∧ TriplesOk ps.toList ∧ ∀ pos cv, codeAmong pos ps.toList = some cv → ∃ c, cv = Value.ref c ∧ c ≠ a ∧ H c = some (.own a) ∧ h.CodeRec cv q
  | .met f x => h.get? a = some (PySem.W.methodObj (.ref f) (.ref x))
  | .ext φ => φ h ∧ (∃ o, h.get? a = some o) ∧ ∀ h1 h2 : Heap, φ h1 → (∀ o, h1.get? a = some o → h2.get? a = some o) → φ h2
noncomputable def HOk (H : Hp) (h : Heap) : Prop := ∀ a o, H a = some o → ObjOk P w H h a o
end
section
variable {P : Program} {w : World} {H H' : Hp} {h h' : Heap} {a : Addr} {o : HO}
theorem ObjOk.lt (x : ObjOk P w H h a o) : a < h.objs.size := by
  cases o with
  | lst xs => obtain ⟨_, _, _, _, e⟩ := x; exact Heap.lt_size e
  | tup xs => obtain ⟨_, _, _, p⟩ := x; exact p.lt
  | dK kvs => obtain ⟨_, _, _, _, o, _, _, e, _⟩ := x; exact Heap.lt_size e
  | dT kvs => obtain ⟨_, _, _, _, o, _, _, e, _⟩ := x; exact Heap.lt_size e
  | set S n => obtain ⟨o, _, _, _, e, _⟩ := x; exact Heap.lt_size e
  | ins C dx fs => obtain ⟨_, _, _, e, _⟩ := x; exact Heap.lt_size e
  | own y => obtain ⟨_, e⟩ := x; exact Heap.lt_size e
  | xd fs => obtain ⟨_, ⟨_, _, _, e, _⟩, _⟩ := x; exact Heap.lt_size e
  | rng lo hi => obtain ⟨_, _, _, e⟩ := x; exact Heap.lt_size e
  | frz ob u => obtain ⟨e, _⟩ := x; exact Heap.lt_size e
  | tbl ps => exact Heap.lt_size (show h.get? a = some _ from x)
  | tab q => obtain ⟨_, e, _⟩ := x; exact Heap.lt_size e
  | met f y => exact Heap.lt_size (show h.get? a = some _ from x)
  | ext φ => obtain ⟨_, ⟨_, e⟩, _⟩ := x; exact Heap.lt_size e
theorem Paired.mapP {α β : Type} {F G : α → β → Prop} : ∀ {l₁ : List α} {l₂ : List β}, Paired F l₁ l₂ → (∀ a b, F a b → G a b) → Paired G l₁ l₂
  | _, _, .nil, _ => .nil
  | _, _, .cons r t, f => .cons (f _ _ r) (Paired.mapP t f)
theorem ObjOk.stay (x : ObjOk P w H h a o) (k : ∀ b u, (b = a ∨ H b = some (.own a)) → h.get? b = some u → h'.get? b = some u)
    (ho : ∀ b, H b = some (.own a) → H' b = some (.own a)) (ht : ∀ b xs, H b = some (.tup xs) → H' b = some (.tup xs)) : ObjOk P w H' h' a o := by
  induction o with
  | lst xs => obtain ⟨z, its, n, r, e⟩ := x; exact ⟨z, its, n, r, k _ _ (.inl rfl) e⟩
  | tup xs => obtain ⟨z, its, r, ob, e, c⟩ := x; exact ⟨z, its, r, ob, k _ _ (.inl rfl) e, c⟩
  | dK kvs => obtain ⟨z, y, vs, r, ob, es, ep, e, c⟩ := x; exact ⟨z, y, vs, r, ob, es, ep, k _ _ (.inl rfl) e, c⟩
  | dT kvs =>
    obtain ⟨z, y, xs, r, ob, es, ep, e, c⟩ := x
    exact ⟨z, y, xs, Paired.mapP r fun p q z => ⟨z.1, ht _ _ z.2.1, z.2.2⟩, ob, es, ep, k _ _ (.inl rfl) e, c⟩
  | set S n => obtain ⟨ob, es, ep, t, e, c⟩ := x; exact ⟨ob, es, ep, t, k _ _ (.inl rfl) e, c⟩
  | ins C dx fs =>
    obtain ⟨d, z, ne, e, mA, ⟨od, es, ep, e2, c⟩, r⟩ := x
    exact ⟨ho _ d, z, ne, k _ _ (.inl rfl) e, mA, ⟨od, es, ep, k _ _ (.inr d) e2, c⟩, r⟩
  | own y => obtain ⟨ob, e⟩ := x; exact ⟨ob, k _ _ (.inl rfl) e⟩
  | xd fs => obtain ⟨mA, ⟨od, es, ep, e, c⟩, r⟩ := x; exact ⟨mA, ⟨od, es, ep, k _ _ (.inl rfl) e, c⟩, r⟩
  | rng lo hi => obtain ⟨t, u, v, e⟩ := x; exact ⟨t, u, v, k _ _ (.inl rfl) e⟩
  | frz ob u ih => obtain ⟨e, q⟩ := x; exact ⟨k _ _ (.inl rfl) e, ih q⟩
  | tbl ps =>
    have e : h.get? a = some { cls := .none, data := .fields ps } := x
    show h'.get? a = some { cls := .none, data := .fields ps }
    exact k a _ (.inl rfl) e
  | tab q =>
    obtain ⟨ps, e, t, hc⟩ := x
    refine ⟨ps, k _ _ (.inl rfl) e, t, fun pos cv z => ?_⟩
    obtain ⟨c, ec, ne, hw, c', o, vs, tk, e1, e2, e3⟩ := hc pos cv z
    subst ec
    cases e1
    exact ⟨c, rfl, ne, ho _ hw, c, o, vs, tk, rfl, k _ _ (.inr hw) e2, e3⟩
  | met f y =>
    have e : h.get? a = some (PySem.W.methodObj (.ref f) (.ref y)) := x
    show h'.get? a = some (PySem.W.methodObj (.ref f) (.ref y))
    exact k a _ (.inl rfl) e
  | ext φ => obtain ⟨p, ⟨o, e⟩, st⟩ := x; exact ⟨st _ _ p fun o q => k _ _ (.inl rfl) q, ⟨o, k _ _ (.inl rfl) e⟩, st⟩
theorem HOk.lt (x : HOk P w H h) (e : H a = some o) : a < h.objs.size := (x a o e).lt
theorem HOk.fresh (x : HOk P w H h) (e : h.objs.size ≤ a) : H a = none := by
  cases q : H a with
  | none => rfl
  | some u => exact absurd (Nat.lt_of_lt_of_le (x.lt q) e) (Nat.lt_irrefl _)
theorem HOk.kept (x : HOk P w H h) (k : ∀ b u, h.get? b = some u → h'.get? b = some u) : HOk P w H h' := fun a o e =>
  (x a o e).stay (fun b u _ q => k b u q) (fun _ q => q) fun _ _ q => q
theorem HOk.laid (x : HOk P w H h) (k : ∀ b u, h.get? b = some u → h'.get? b = some u) (hp : h.objs.size ≤ a) (new : ObjOk P w (upd H a o) h' a o) : HOk P w (upd H a o) h' := fun b u e => by
  have hn := x.fresh hp
  by_cases hb : b = a
  · subst hb; rw [upd_same] at e; cases e; exact new
  · rw [upd_ne hb] at e
    exact (x b u e).stay (fun c v _ q => k c v q) (fun c q => by rw [upd_ne (ne_of_none q hn)]; exact q) fun c xs q => by rw [upd_ne (ne_of_none q hn)]; exact q
end
noncomputable def Rd (H : Hp) (a : Addr) (u : HO) : Prop := H a = some u ∨ ∃ o, H a = some (.frz o u)
theorem Rd.ok {P : Program} {w : World} {H : Hp} {h : Heap} {a : Addr} {u : HO} (r : Rd H a u) (x : HOk P w H h) : ObjOk P w H h a u := by
  rcases r with r | ⟨o, r⟩
  · exact x a u r
  · obtain ⟨_, q⟩ := x a _ r
    exact q
noncomputable def Mut : Option HO → Prop
  | some (.lst _) => True
  | some (.dK _) => True
  | some (.dT _) => True
  | some (.set _ _) => True
  | some (.ins _ _ _) => True
  | some (.ext _) => True
  | some (.tab _) => True
  | _ => False
section
variable {P : Program} {w : World} {H : Hp} {h h' : Heap} {x e : Addr} {o' : HO}
theorem HOk.write (ok : HOk P w H h) (mu : Mut (H x)) (he : e = x ∨ H e = some (.own x)) (k : ∀ b u, b ≠ e → h.get? b = some u → h'.get? b = some u) (heo : ∃ u, h'.get? e = some u)
    (new : ObjOk P w (upd H x o') h' x o') : HOk P w (upd H x o') h' := fun b u q => by
  have nown : ∀ c y, H c = some (.own y) → c ≠ x := fun c y r z => by subst z; rw [r] at mu; exact mu
  have ntup : ∀ c xs, H c = some (.tup xs) → c ≠ x := fun c xs r z => by subst z; rw [r] at mu; exact mu
  by_cases hb : b = x
  · subst hb; rw [upd_same] at q; cases q; exact new
  · rw [upd_ne hb] at q
    by_cases hbe : b = e
    · have q' : H b = some (.own x) := by
        rcases he with z | z
        · exact absurd (hbe.trans z) hb
        · rw [hbe]; exact z
      rw [q] at q'; cases q'
      obtain ⟨v, hv⟩ := heo
      exact ⟨v, by rw [hbe]; exact hv⟩
    · refine (ok b u q).stay (fun c v hc r => k c v ?_ r) (fun c r => by rw [upd_ne (nown c b r)]; exact r) fun c xs r => by rw [upd_ne (ntup c xs r)]; exact r
      rcases hc with rfl | hc
      · exact hbe
      · rintro rfl
        rcases he with z | z
        · exact nown c b hc z
        · rw [hc] at z; cases z; exact hb rfl
end
structure Un (fs ex : List Addr) (H H' : Hp) (h h' : Heap) : Prop where
  keep : ∀ b o, h.get? b = some o → H b = none → b ∉ fs → b ∉ ex → h'.get? b = some o
  slot : ∀ b o, h.get? b = some o → H b = none → b ∈ fs → b ∉ ex → ∃ sl, h'.get? b = some { o with slots := sl }
  free : ∀ b o, h.get? b = some o → H b = none → b ∉ ex → H' b = none
  there : ∀ b o, h.get? b = some o → b ∉ ex → ∃ o', h'.get? b = some o'
  tups : ∀ b xs, H b = some (.tup xs) → H' b = some (.tup xs)
  frzs : ∀ b o u, H b = some (.frz o u) → H' b = some (.frz o u)
  tbls : ∀ b ps, H b = some (.tbl ps) → ∃ more, H' b = some (.tbl (ps ++ more))
section
variable {fs fs' ex ex' : List Addr} {H H1 H2 : Hp} {h h1 h2 h' : Heap} {a x e : Addr} {o : HO}
theorem Un.any (u : Un fs ex H H1 h h1) {b : Addr} {ob : Obj} (q : h.get? b = some ob) (n : H b = none) (hx : b ∉ ex) : ∃ sl, h1.get? b = some { ob with slots := sl } := by
  by_cases hb : b ∈ fs
  · exact u.slot b ob q n hb hx
  · exact ⟨ob.slots, u.keep b ob q n hb hx⟩
theorem Un.trans (a : Un fs ex H H1 h h1) (b : Un fs ex H1 H2 h1 h2) : Un fs ex H H2 h h2 where
  keep := fun c ob q n hc hx => b.keep c ob (a.keep c ob q n hc hx) (a.free c ob q n hx) hc hx
  slot := fun c ob q n hc hx => by
    obtain ⟨sl, e1⟩ := a.slot c ob q n hc hx
    obtain ⟨sl', e2⟩ := b.slot c _ e1 (a.free c ob q n hx) hc hx
    exact ⟨sl', e2⟩
  free := fun c ob q n hx => by
    obtain ⟨o', e1⟩ := a.there c ob q hx
    exact b.free c o' e1 (a.free c ob q n hx) hx
  there := fun c ob q hx => by
    obtain ⟨o', e1⟩ := a.there c ob q hx
    exact b.there c o' e1 hx
  tups := fun c xs q => b.tups c xs (a.tups c xs q)
  frzs := fun c ob xs q => b.frzs c ob xs (a.frzs c ob xs q)
  tbls := fun c ps q => by
    obtain ⟨m1, e1⟩ := a.tbls c ps q
    obtain ⟨m2, e2⟩ := b.tbls c _ e1
    exact ⟨m1 ++ m2, by rw [e2, Array.append_assoc]⟩
theorem Un.kept (k : ∀ b u, h.get? b = some u → h'.get? b = some u) : Un fs ex H H h h' :=
  ⟨fun b ob q _ _ _ => k b ob q, fun b ob q _ _ _ => ⟨ob.slots, k b ob q⟩, fun _ _ _ n _ => n, fun b ob q _ => ⟨ob, k b ob q⟩, fun _ _ q => q, fun _ _ _ q => q, fun _ ps q => ⟨#[], by rw [q]; simp⟩⟩
theorem Un.refl : Un fs ex H H h h := Un.kept fun _ _ q => q
theorem Un.laid (k : ∀ b u, h.get? b = some u → h'.get? b = some u) (hp : h.objs.size ≤ a) (hn : H a = none) : Un fs ex H (upd H a o) h h' where
  keep := fun b u q _ _ _ => k b u q
  slot := fun b u q _ _ _ => ⟨u.slots, k b u q⟩
  free := fun b u q n _ => by rw [upd_ne (Nat.ne_of_lt (Nat.lt_of_lt_of_le (Heap.lt_size q) hp))]; exact n
  there := fun b u q _ => ⟨u, k b u q⟩
  tups := fun b xs q => by rw [upd_ne (ne_of_none q hn)]; exact q
  frzs := fun b u xs q => by rw [upd_ne (ne_of_none q hn)]; exact q
  tbls := fun b ps q => ⟨#[], by rw [upd_ne (ne_of_none q hn), q]; simp⟩
theorem Un.write (mu : Mut (H x)) (he : e = x ∨ H e = some (.own x)) (k : ∀ b u, b ≠ e → h.get? b = some u → h'.get? b = some u) (heo : ∃ u, h'.get? e = some u) : Un fs ex H (upd H x o) h h' := by
  have hx : ∀ b, H b = none → b ≠ x := fun b n z => by subst z; rw [n] at mu; exact mu
  have hb : ∀ b, H b = none → b ≠ e := fun b n z => by
    subst z
    rcases he with r | r
    · exact hx b n r
    · rw [n] at r; cases r
  have hm : ∀ b u, H b = some u → ¬ Mut (some u) → b ≠ x := fun b u q nm z => by subst z; rw [q] at mu; exact nm mu
  refine ⟨fun b u q n _ _ => k b u (hb b n) q, fun b u q n _ _ => ⟨u.slots, k b u (hb b n) q⟩, fun b u q n _ => by rw [upd_ne (hx b n)]; exact n, fun b u q _ => ?_,
    fun b xs q => by rw [upd_ne (hm b _ q fun z => z)]; exact q, fun b u xs q => by rw [upd_ne (hm b _ q fun z => z)]; exact q, fun b ps q => ⟨#[], by rw [upd_ne (hm b _ q fun z => z), q]; simp⟩⟩
  by_cases hbe : b = e
  · subst hbe; exact heo
  · exact ⟨u, k b u hbe q⟩
end
noncomputable def trk (h : Heap) (H : Hp) : List Addr := (List.range h.objs.size).filter fun a => (H a).isSome
noncomputable def hidT (h : Heap) (H : Hp) : Heap := PySem.W.hideAll h (trk h H)
theorem hidT_size (h : Heap) (H : Hp) : (hidT h H).objs.size = h.objs.size := PySem.W.hideAll_size _ _
theorem hidT_get {h : Heap} {H : Hp} {b : Addr} {o : Obj} (e : h.get? b = some o) (n : H b = none) : (hidT h H).get? b = some o :=
  PySem.W.hideAll_get _ e fun hm => by
    have q : (H b).isSome = true := (List.mem_filter.mp hm).2
    rw [n] at q; simp at q
theorem of_hidT {h : Heap} {H : Hp} {b : Addr} {o : Obj} (e : (hidT h H).get? b = some o) : h.get? b = some o ∧ H b = none := by
  have e' : h.get? b = some o := PySem.W.of_hideAll (trk h H) e
  refine ⟨e', ?_⟩
  cases q : H b with
  | none => rfl
  | some x =>
    have hm : b ∈ trk h H := List.mem_filter.mpr ⟨List.mem_range.mpr (Heap.lt_size e'), by simp [q]⟩
    have z : (hidT h H).get? b = none := PySem.W.hideAll_none (trk h H) hm
    rw [z] at e; cases e
end L2
namespace L2
open PySem PySem.Spec PyProof.Rows
structure Mod (K : PySem.W.Frag) (mg : Str → Option Value) (base : Heap) : Prop where
  kin : K.In base
  glob : base.Ns mainGlobals mg
  blt : ∃ mb, base.Ns builtinsNs mb ∧ ∀ x : Str, x ≠ "__name__" → mb x = bootBuiltins x
  nolimit : base.NoLimit
structure Cx where
  prog : Program
  w : World
  K : PySem.W.Frag
  mg : Str → Option Value
  base : Heap
  A : Around
  N : List Str
  s₀ : Shared
  H₀ : Hp
  env : Env
  outer : List Env
  stack : List Env
  ex : List Addr
  fn : Str → Bool
  calm : Bool
  pn : List (Addr × Obj)
  xe : Value → Shared → Prop
noncomputable def frs (l : List Env) : List Addr := l.filterMap (·.frame)
noncomputable abbrev Cx.fs (X : Cx) : List Addr := frs X.outer
noncomputable def Vis (sc : Scope) (x : Str) : Prop := sc.names.lookup x = some .local ∨ sc.names.lookup x = some .cell ∨ sc.names.lookup x = some .free
noncomputable def Loc (sc : Scope) (x : Str) : Prop := sc.names.lookup x = some .local ∨ sc.names.lookup x = some .cell
noncomputable def Look (env : Env) (h : Heap) (m : Str → Option Value) (x : Str) (u : Value) : Prop :=
  (env.kindOf x = some .local ∧ m x = some u) ∨ ((env.kindOf x = some .cell ∨ env.kindOf x = some .free) ∧ ∃ c, env.cells.lookup x = some c ∧ h.IsCell c (some u))
structure Cx.Ok (X : Cx) : Prop where
  mod : Mod X.K X.mg X.base
  kind : X.env.scope.kind = .function
  glob : X.env.globals = mainGlobals
  blt : X.env.builtins = builtinsNs
  above : X.s₀.heap.objs.size ≤ X.env.locals
  inj : ∀ x y c, X.env.cells.lookup x = some c → X.env.cells.lookup y = some c → x = y
  has : ∀ x, (X.env.kindOf x = some .cell ∨ X.env.kindOf x = some .free) → ∃ c, X.env.cells.lookup x = some c
  cab : ∀ x c, X.fn x = true → X.env.cells.lookup x = some c → X.s₀.heap.objs.size ≤ c
  hd : X.calm = true → X.A.handled = none
  frames : X.A.frames = some X.stack
  stk : X.stack = X.outer ∨ (X.stack = X.env :: X.outer ∧ X.env.frame = some X.env.locals)
  exf : ∀ b ∈ X.ex, b ≠ X.env.locals ∧ ∀ x c, X.env.cells.lookup x = some c → c ≠ b
  bs : ∀ b o, X.base.get? b = some o → X.s₀.heap.get? b = some o ∧ X.H₀ b = none
  bsz : X.base.objs.size ≤ X.s₀.heap.objs.size
  noex : ∀ b o, X.base.get? b = some o → b ∉ X.ex
  exfs : ∀ b ∈ X.ex, b ∉ X.fs
  funs : X.s₀.heap.FunFrames X.base X.outer
  frf : ∀ b ∈ X.fs, X.H₀ b = none
structure Inv (X : Cx) (pins : List (Addr × Obj)) (σ : List (Option V)) (H : Hp) (s : Shared) : Prop where
  ok : X.Ok
  os : s.os = X.s₀.os
  bare : AllBare s.gens
  base : Un X.fs X.ex X.H₀ H X.s₀.heap s.heap
  loc : ∃ m, s.heap.Ns X.env.locals m ∧ ∀ (i : Nat) (x : Str) (v : V), X.N[i]? = some x → σ[i]? = some (some v) → Vis X.env.scope x → ∃ u, RelV v u ∧ Look X.env s.heap m x u
  cell : ∀ x c, X.env.cells.lookup x = some c → ∃ v, s.heap.IsCell c v
  free : H X.env.locals = none
  freeC : ∀ x c, X.env.cells.lookup x = some c → H c = none
  pin : ∀ p ∈ X.pn ++ pins, s.heap.get? p.1 = some p.2 ∧ H p.1 = none ∧ p.1 ≠ X.env.locals ∧ p.1 ∉ X.fs ∧ ∀ v, p.2.data ≠ .cell v
  hok : HOk X.prog X.w H s.heap
  len : σ.length = X.N.length
section
variable {X : Cx} {pins : List (Addr × Obj)} {σ : List (Option V)} {H H' : Hp} {s : Shared} {h' : Heap}
theorem Cx.Ok.nofr (ok : X.Ok) {b : Addr} {o : Obj} (e : X.base.get? b = some o) : b ∉ X.fs := fun hb => by
  have := (ok.funs.mem hb).1
  rw [e] at this; cases this
theorem Inv.bs (I : Inv X pins σ H s) : ∀ b o, X.base.get? b = some o → s.heap.get? b = some o ∧ H b = none := fun b o e =>
  ⟨I.base.keep b o (I.ok.bs b o e).1 (I.ok.bs b o e).2 (I.ok.nofr e) (I.ok.noex b o e), I.base.free b o (I.ok.bs b o e).1 (I.ok.bs b o e).2 (I.ok.noex b o e)⟩
theorem Inv.bk (I : Inv X pins σ H s) : ∀ b o, X.base.get? b = some o → s.heap.get? b = some o := fun b o e => (I.bs b o e).1
theorem Inv.mod (I : Inv X pins σ H s) : Mod X.K X.mg X.base := I.ok.mod
theorem Inv.kIn (I : Inv X pins σ H s) : X.K.In s.heap := I.ok.mod.kin.keeps I.bk
theorem Inv.lt (I : Inv X pins σ H s) : X.env.locals < s.heap.objs.size := let ⟨_, hn, _⟩ := I.loc; hn.lt
theorem Inv.sz (I : Inv X pins σ H s) : X.s₀.heap.objs.size ≤ s.heap.objs.size := Nat.le_trans I.ok.above (Nat.le_of_lt I.lt)
theorem Inv.nofs (I : Inv X pins σ H s) {a : Addr} (h : s.heap.objs.size ≤ a) : a ∉ X.fs := fun hb => by
  obtain ⟨_, o, ho, _⟩ := I.ok.funs.mem hb
  exact absurd (Nat.lt_of_lt_of_le (Heap.lt_size ho) (Nat.le_trans I.sz h)) (Nat.lt_irrefl _)
theorem Inv.cne (I : Inv X pins σ H s) : ∀ x c, X.env.cells.lookup x = some c → c ≠ X.env.locals := fun x c e z => by
  obtain ⟨v, o, ho, hd⟩ := I.cell x c e
  obtain ⟨m, ⟨o', es, ep, ho', hd', _⟩, _⟩ := I.loc
  rw [z, ho'] at ho; cases ho; rw [hd'] at hd; cases hd
theorem Inv.funs (I : Inv X pins σ H s) : s.heap.FunFrames X.base X.outer := by
  have all : ∀ (l : List Env), (∀ b ∈ frs l, b ∈ X.fs) → X.s₀.heap.FunFrames X.base l → s.heap.FunFrames X.base l := by
    intro l
    induction l with
    | nil => intro _ _; trivial
    | cons env r ih =>
      intro hs hl
      obtain ⟨hk, ⟨L, o, hf, hn, ho, hd⟩, hr⟩ := hl
      have hL : L ∈ X.fs := hs L (by unfold frs; rw [List.filterMap_cons, hf]; exact List.mem_cons_self)
      obtain ⟨sl, e⟩ := I.base.slot L o ho (I.ok.frf L hL) hL fun z => I.ok.exfs L z hL
      exact ⟨hk, ⟨L, _, hf, hn, e, hd⟩, ih (fun b hb => hs b (by unfold frs; rw [List.filterMap_cons, hf]; exact List.mem_cons_of_mem _ hb)) hr⟩
  exact all X.outer (fun _ hb => hb) I.ok.funs
theorem Inv.stack (I : Inv X pins σ H s) : s.heap.FunFrames X.base X.stack := by
  rcases I.ok.stk with e | ⟨e, hf⟩
  · rw [e]; exact I.funs
  · rw [e]
    obtain ⟨m, hn, _⟩ := I.loc
    refine .cons (by rw [I.ok.kind]; decide) hf hn ?_ I.funs
    exact Heap.get?_none_of_le (Nat.le_trans I.ok.bsz I.ok.above)
theorem Inv.stkSub (I : Inv X pins σ H s) : ∀ b ∈ frs X.stack, b ∈ X.env.locals :: X.fs := fun b hb => by
  rcases I.ok.stk with e | ⟨e, hf⟩
  · rw [e] at hb; exact List.mem_cons_of_mem _ hb
  · rw [e] at hb
    unfold frs at hb
    rw [List.filterMap_cons, hf] at hb
    exact hb
theorem Inv.stkFree (I : Inv X pins σ H s) : ∀ b ∈ frs X.stack, H b = none := fun b hb => by
  rcases List.mem_cons.mp (I.stkSub b hb) with e | hb
  · rw [e]; exact I.free
  · obtain ⟨_, o, ho, _⟩ := I.ok.funs.mem hb
    exact I.base.free b o ho (I.ok.frf b hb) fun z => I.ok.exfs b z hb
theorem Inv.step {g' : Array GenState} {t' : Nat} {d' : Drawn} {ch : List Addr} (I : Inv X pins σ H s)
    (hch : ∀ b ∈ ch, (b ∈ X.ex ∨ X.s₀.heap.objs.size ≤ b) ∧ b ≠ X.env.locals ∧ (∀ x c, X.env.cells.lookup x = some c → c ≠ b) ∧ ∀ p ∈ X.pn ++ pins, p.1 ≠ b)
    (keep : ∀ b o, b ≠ X.env.locals → b ∉ X.fs → b ∉ ch → s.heap.get? b = some o → H b = none → h'.get? b = some o)
    (slot : ∀ b o, b ≠ X.env.locals → b ∈ X.fs → b ∉ ch → s.heap.get? b = some o → H b = none → ∃ sl, h'.get? b = some { o with slots := sl }) (free : ∀ b o, b ∉ ch → s.heap.get? b = some o → H b = none → H' b = none)
    (there : ∀ b o, b ∉ ch → s.heap.get? b = some o → ∃ o', h'.get? b = some o')
    (tups : ∀ b xs, H b = some (.tup xs) → H' b = some (.tup xs)) (frzs : ∀ b o u, H b = some (.frz o u) → H' b = some (.frz o u)) (tbls : ∀ b ps, H b = some (.tbl ps) → ∃ more, H' b = some (.tbl (ps ++ more)))
    (ns : ∀ m, s.heap.Ns X.env.locals m → h'.Ns X.env.locals m) (hok : HOk X.prog X.w H' h') (hg : AllBare g') :
    Inv X pins σ H' { s with heap := h', gens := g', drawn := d', toks := t' } := by
  have neL : ∀ b o, X.s₀.heap.get? b = some o → b ≠ X.env.locals := fun b o e => Nat.ne_of_lt (Nat.lt_of_lt_of_le (Heap.lt_size e) I.ok.above)
  have neC : ∀ b o, X.s₀.heap.get? b = some o → b ∉ X.ex → b ∉ ch := fun b o e hx hb => by
    rcases (hch b hb).1 with z | z
    · exact hx z
    · exact absurd (Nat.lt_of_lt_of_le (Heap.lt_size e) z) (Nat.lt_irrefl _)
  have cellK : ∀ x c, X.env.cells.lookup x = some c → ∀ v, s.heap.IsCell c v → h'.IsCell c v := fun x c e v ⟨o, ho, hd⟩ => by
    have nch : c ∉ ch := fun z => (hch c z).2.2.1 x c e rfl
    by_cases hc : c ∈ X.fs
    · obtain ⟨sl, q⟩ := slot c o (I.cne x c e) hc nch ho (I.freeC x c e)
      exact ⟨_, q, hd⟩
    · exact ⟨o, keep c o (I.cne x c e) hc nch ho (I.freeC x c e), hd⟩
  refine ⟨I.ok, I.os, hg, ⟨fun b o e n hb hx => ?_, fun b o e n hb hx => ?_, fun b o e n hx => ?_, fun b o e hx => ?_, fun b xs e => tups b xs (I.base.tups b xs e), fun b o xs e => frzs b o xs (I.base.frzs b o xs e), fun b ps e => ?_⟩, ?_, fun x c e => ?_, ?_, fun x c e => ?_, fun p hp => ?_, hok, I.len⟩
  · exact keep b o (neL b o e) hb (neC b o e hx) (I.base.keep b o e n hb hx) (I.base.free b o e n hx)
  · obtain ⟨sl, e1⟩ := I.base.slot b o e n hb hx
    obtain ⟨sl', e2⟩ := slot b _ (neL b o e) hb (neC b o e hx) e1 (I.base.free b o e n hx)
    exact ⟨sl', e2⟩
  · obtain ⟨o', e1⟩ := I.base.there b o e hx
    exact free b o' (neC b o e hx) e1 (I.base.free b o e n hx)
  · obtain ⟨o', e1⟩ := I.base.there b o e hx
    exact there b o' (neC b o e hx) e1
  · obtain ⟨m1, e1⟩ := I.base.tbls b ps e
    obtain ⟨m2, e2⟩ := tbls b _ e1
    exact ⟨m1 ++ m2, by rw [e2, Array.append_assoc]⟩
  · obtain ⟨m, hn, hl⟩ := I.loc
    refine ⟨m, ns m hn, fun i x v e1 e2 e3 => ?_⟩
    obtain ⟨u, r, l⟩ := hl i x v e1 e2 e3
    refine ⟨u, r, ?_⟩
    rcases l with l | ⟨k, c, e, z⟩
    · exact .inl l
    · exact .inr ⟨k, c, e, cellK x c e _ z⟩
  · obtain ⟨v, z⟩ := I.cell x c e
    exact ⟨v, cellK x c e v z⟩
  · obtain ⟨m, ⟨o, _, _, ho, _⟩, _⟩ := I.loc
    exact free _ o (fun z => (hch _ z).2.1 rfl) ho I.free
  · obtain ⟨v, o, ho, hd⟩ := I.cell x c e
    exact free c o (fun z => (hch c z).2.2.1 x c e rfl) ho (I.freeC x c e)
  · obtain ⟨e, n, ne, nf, d⟩ := I.pin p hp
    have nch : p.1 ∉ ch := fun z => (hch p.1 z).2.2.2 p hp rfl
    exact ⟨keep p.1 p.2 ne nf nch e n, free p.1 p.2 nch e n, ne, nf, d⟩
theorem Inv.un {t' : Nat} (I : Inv X pins σ H s) (u : Un X.fs [] H H' s.heap h') (hok : HOk X.prog X.w H' h') : Inv X pins σ H' { s with heap := h', toks := t' } := by
  obtain ⟨m, ⟨o, es, ep, ho, r⟩, _⟩ := id I.loc
  obtain ⟨sl, hL⟩ := u.any ho I.free (by simp)
  exact I.step (g' := s.gens) (d' := s.drawn) (ch := []) (fun _ z => nomatch z) (fun b o _ hb _ e n => u.keep b o e n hb (by simp)) (fun b o _ hb _ e n => u.slot b o e n hb (by simp)) (fun b o _ e n => u.free b o e n (by simp)) (fun b o _ e => u.there b o e (by simp)) u.tups u.frzs u.tbls (fun m' hm => by
    obtain ⟨o', es', ep', ho', r'⟩ := hm
    rw [ho] at ho'; cases ho'
    exact ⟨_, es', ep', hL, r'⟩) hok I.bare
theorem Inv.call {g' : Array GenState} {t' : Nat} {d' : Drawn} {ch : List Addr} (I : Inv X pins σ H s) (u : Un (frs X.stack) ch H H' s.heap h') (hok : HOk X.prog X.w H' h') (hg : AllBare g')
    (hch : ∀ b ∈ ch, (b ∈ X.ex ∨ X.s₀.heap.objs.size ≤ b) ∧ b ≠ X.env.locals ∧ (∀ x c, X.env.cells.lookup x = some c → c ≠ b) ∧ ∀ p ∈ X.pn ++ pins, p.1 ≠ b) :
    Inv X pins σ H' { s with heap := h', gens := g', drawn := d', toks := t' } := by
  obtain ⟨m, ⟨o, es, ep, ho, r⟩, _⟩ := id I.loc
  obtain ⟨sl, hL⟩ := u.any ho I.free fun z => (hch _ z).2.1 rfl
  exact I.step (ch := ch) hch (fun b o hL hb hc e n => u.keep b o e n (fun z => (List.mem_cons.mp (I.stkSub b z)).elim hL hb) hc) (fun b o _ _ hc e n => u.any e n hc) (fun b o hc e n => u.free b o e n hc) (fun b o hc e => u.there b o e hc) u.tups u.frzs u.tbls (fun m' hm => by
    obtain ⟨o', es', ep', ho', r'⟩ := hm
    rw [ho] at ho'; cases ho'
    exact ⟨_, es', ep', hL, r'⟩) hok hg
theorem Inv.turned {t' : Nat} {it : Addr} (I : Inv X pins σ H s) (k : ∀ b o, b ≠ it → s.heap.get? b = some o → h'.get? b = some o) (hn : H it = none) (hL : it ≠ X.env.locals)
    (h1 : it ∈ X.ex ∨ X.s₀.heap.objs.size ≤ it) (h2 : ∀ x c, X.env.cells.lookup x = some c → c ≠ it) (h3 : ∀ p ∈ X.pn ++ pins, p.1 ≠ it) : Inv X pins σ H { s with heap := h', toks := t' } := by
  have nit : ∀ b u, H b = some u → b ≠ it := fun b u e z => by rw [z, hn] at e; cases e
  refine I.step (g' := s.gens) (d' := s.drawn) (ch := [it]) (fun b hb => ?_) (fun b o _ _ hc e _ => k b o (fun z => hc (by simp [z])) e) (fun b o _ _ hc e _ => ⟨o.slots, k b o (fun z => hc (by simp [z])) e⟩) (fun _ _ _ _ n => n)
    (fun b o hc e => ⟨o, k b o (fun z => hc (by simp [z])) e⟩) (fun _ _ e => e) (fun _ _ _ e => e) (fun b ps e => ⟨#[], by rw [e]; simp⟩) (fun m hm => ?_) (fun b u e => ?_) I.bare
  · have e : b = it := by simpa using hb
    subst e
    exact ⟨h1, hL, h2, h3⟩
  · obtain ⟨o, es, ep, ho, r⟩ := hm
    exact ⟨o, es, ep, k _ o (Ne.symm hL) ho, r⟩
  · refine (I.hok b u e).stay (fun c v hc q => k c v ?_ q) (fun _ q => q) fun _ _ q => q
    rcases hc with z | z
    · rw [z]; exact nit b u e
    · exact nit c _ z
theorem Inv.tok (I : Inv X pins σ H s) (t : Nat) : Inv X pins σ H { s with toks := t } := I.un (h' := s.heap) (t' := t) Un.refl I.hok
theorem Inv.kept {t' : Nat} (I : Inv X pins σ H s) (k : ∀ b u, s.heap.get? b = some u → h'.get? b = some u) : Inv X pins σ H { s with heap := h', toks := t' } := I.un (Un.kept k) (I.hok.kept k)
theorem Inv.laid {a : Addr} {o : HO} {t' : Nat} (I : Inv X pins σ H s) (k : ∀ b u, s.heap.get? b = some u → h'.get? b = some u) (hp : s.heap.objs.size ≤ a) (new : ObjOk X.prog X.w (upd H a o) h' a o) :
    Inv X pins σ (upd H a o) { s with heap := h', toks := t' } := I.un (Un.laid k hp (I.hok.fresh hp)) (I.hok.laid k hp new)
theorem Inv.write {x e : Addr} {o : HO} {t' : Nat} (I : Inv X pins σ H s) (mu : Mut (H x)) (he : e = x ∨ H e = some (.own x)) (k : ∀ b u, b ≠ e → s.heap.get? b = some u → h'.get? b = some u) (heo : ∃ u, h'.get? e = some u)
    (new : ObjOk X.prog X.w (upd H x o) h' x o) : Inv X pins σ (upd H x o) { s with heap := h', toks := t' } := I.un (Un.write mu he k heo) (I.hok.write mu he k heo new)
theorem Inv.weak {σ' : List (Option V)} (I : Inv X pins σ H s) (hl : σ'.length = σ.length) (w : ∀ (i : Nat) v, σ'[i]? = some (some v) → σ[i]? = some (some v)) : Inv X pins σ' H s :=
  ⟨I.ok, I.os, I.bare, I.base, let ⟨m, hn, hl'⟩ := I.loc; ⟨m, hn, fun i x v e1 e2 e3 => hl' i x v e1 (w i v e2) e3⟩, I.cell, I.free, I.freeC, I.pin, I.hok, hl.trans I.len⟩
theorem Inv.pins_of {pins' : List (Addr × Obj)} (I : Inv X pins σ H s) (h : ∀ p ∈ pins', s.heap.get? p.1 = some p.2 ∧ H p.1 = none ∧ p.1 ≠ X.env.locals ∧ p.1 ∉ X.fs ∧ ∀ v, p.2.data ≠ .cell v) : Inv X pins' σ H s :=
  ⟨I.ok, I.os, I.bare, I.base, I.loc, I.cell, I.free, I.freeC, fun p hp => (List.mem_append.mp hp).elim (fun z => I.pin p (List.mem_append_left _ z)) (h p), I.hok, I.len⟩
theorem nodup_ix {N : List Str} (hN : N.Nodup) {i j : Nat} {x : Str} (a : N[i]? = some x) (b : N[j]? = some x) : i = j := by
  obtain ⟨h1, e1⟩ := List.getElem?_eq_some_iff.mp a
  obtain ⟨h2, e2⟩ := List.getElem?_eq_some_iff.mp b
  exact (List.getElem_inj hN).mp (e1.trans e2.symm)
theorem store_ok2 {M : Model} {A : Around} {E : Value → Shared → Prop} {i : Nat} {x : Str} {v : V} {u : Value} {Q : Unit → Shared → Prop} (I : Inv X pins σ H s) (hN : X.N.Nodup) (hi : X.N[i]? = some x) (hx : Loc X.env.scope x) (r : RelV v u)
    (h : ∀ s', Inv X pins (σ.set i (some v)) H s' → (∃ a, Heap.SameBut a s.heap s'.heap ∧ (a = X.env.locals ∨ X.env.cells.lookup x = some a)) → Q () s') (hf : X.fn x = true ∨ X.env.scope.names.lookup x = some .local := by first | exact .inl rfl | exact .inr rfl | assumption) : wpAny M A (storeName X.env x u) Q E s := by
  obtain ⟨m, hn, hl⟩ := id I.loc
  have hcls : (X.env.scope.kind == .class || (X.env.scope.kind == .module && X.env.locals != X.env.globals)) = false := by rw [I.ok.kind]; rfl
  have hiσ : i < σ.length := by rw [I.len]; exact (List.getElem?_eq_some_iff.mp hi).1
  have cne := I.cne
  have tracked : ∀ {a : Addr} {h' : Heap}, (∃ o, s.heap.get? a = some o ∧ H a = none) → Heap.SameBut a s.heap h' → HOk X.prog X.w H h' := fun {a h'} ha hs b ob e => by
    obtain ⟨_, _, hfree⟩ := ha
    refine (I.hok b ob e).stay (fun c w' hc q => (hs.2 c ?_).trans q) (fun _ q => q) fun _ _ q => q
    rintro rfl
    rcases hc with rfl | hc
    · rw [hfree] at e; cases e
    · rw [hfree] at hc; cases hc
  rcases hx with hk | hk
  · refine wpAny_storeName_local hk hn (fun h' hn' hs => ?_) hcls
    obtain ⟨oL, _, _, hoL, _⟩ := id hn
    refine h _ ⟨I.ok, I.os, I.bare, ⟨fun b o e n hb hx => ?_, fun b o e n hb hx => ?_, I.base.free, fun b o e hx => ?_, I.base.tups, I.base.frzs, I.base.tbls⟩, ⟨_, hn', fun j y v' e1 e2 e3 => ?_⟩, fun y c e => ?_, I.free, I.freeC, fun p hp => ?_, tracked ⟨oL, hoL, I.free⟩ hs, by simpa using I.len⟩ ⟨_, hs, .inl rfl⟩
    · exact (hs.2 b (Nat.ne_of_lt (Nat.lt_of_lt_of_le (Heap.lt_size e) I.ok.above))).trans (I.base.keep b o e n hb hx)
    · obtain ⟨sl, e1⟩ := I.base.slot b o e n hb hx
      exact ⟨sl, (hs.2 b (Nat.ne_of_lt (Nat.lt_of_lt_of_le (Heap.lt_size e) I.ok.above))).trans e1⟩
    · obtain ⟨o', e1⟩ := I.base.there b o e hx
      exact ⟨o', (hs.2 b (Nat.ne_of_lt (Nat.lt_of_lt_of_le (Heap.lt_size e) I.ok.above))).trans e1⟩
    · by_cases hj : j = i
      · subst hj
        rw [hi] at e1; cases e1
        rw [List.getElem?_set_self hiσ] at e2
        cases e2
        exact ⟨u, r, .inl ⟨hk, by simp⟩⟩
      · rw [List.getElem?_set_ne (Ne.symm hj)] at e2
        obtain ⟨u', r', q⟩ := hl j y v' e1 e2 e3
        refine ⟨u', r', ?_⟩
        rcases q with ⟨k, e⟩ | ⟨k, c, e, z⟩
        · refine .inl ⟨k, ?_⟩
          have : y ≠ x := fun e => hj (nodup_ix hN e1 (e ▸ hi))
          simp [this, e]
        · exact .inr ⟨k, c, e, z.sameBut hs (cne y c e)⟩
    · obtain ⟨w', z⟩ := I.cell y c e
      exact ⟨w', z.sameBut hs (cne y c e)⟩
    · obtain ⟨e, n, ne, nf, d⟩ := I.pin p hp
      exact ⟨(hs.2 p.1 ne).trans e, n, ne, nf, d⟩
  · have hfn : X.fn x = true := by
      rcases hf with z | z
      · exact z
      · rw [z] at hk; cases hk
    obtain ⟨c, hc⟩ := I.ok.has x (.inl hk)
    obtain ⟨w', z⟩ := I.cell x c hc
    refine wpAny_storeName_cell I.ok.kind hk hc z (fun h' hc' hs => ?_)
    obtain ⟨oc, hoc, hocd⟩ := id z
    refine h { s with heap := h' } ⟨I.ok, I.os, I.bare, ⟨fun b o e n hb hx => ?_, fun b o e n hb hx => ?_, I.base.free, fun b o e hx => ?_, I.base.tups, I.base.frzs, I.base.tbls⟩, ⟨m, hn.sameBut hs (Ne.symm (cne x c hc)), fun j y v' e1 e2 e3 => ?_⟩, fun y c' e => ?_, I.free, I.freeC, fun p hp => ?_, tracked ⟨oc, hoc, I.freeC x c hc⟩ hs, by simpa using I.len⟩ ⟨c, hs, .inr hc⟩
    · exact (hs.2 b (Nat.ne_of_lt (Nat.lt_of_lt_of_le (Heap.lt_size e) (I.ok.cab x c hfn hc)))).trans (I.base.keep b o e n hb hx)
    · obtain ⟨sl, e1⟩ := I.base.slot b o e n hb hx
      exact ⟨sl, (hs.2 b (Nat.ne_of_lt (Nat.lt_of_lt_of_le (Heap.lt_size e) (I.ok.cab x c hfn hc)))).trans e1⟩
    · obtain ⟨o', e1⟩ := I.base.there b o e hx
      exact ⟨o', (hs.2 b (Nat.ne_of_lt (Nat.lt_of_lt_of_le (Heap.lt_size e) (I.ok.cab x c hfn hc)))).trans e1⟩
    · by_cases hj : j = i
      · subst hj
        rw [hi] at e1; cases e1
        rw [List.getElem?_set_self hiσ] at e2
        cases e2
        exact ⟨u, r, .inr ⟨.inl hk, c, hc, hc'⟩⟩
      · rw [List.getElem?_set_ne (Ne.symm hj)] at e2
        obtain ⟨u', r', q⟩ := hl j y v' e1 e2 e3
        refine ⟨u', r', ?_⟩
        rcases q with q | ⟨k, c', e, z'⟩
        · exact .inl q
        · refine .inr ⟨k, c', e, z'.sameBut hs ?_⟩
          rintro rfl
          exact hj (nodup_ix hN e1 (I.ok.inj _ _ _ e hc ▸ hi))
    · by_cases hcc : c' = c
      · subst hcc; exact ⟨_, hc'⟩
      · obtain ⟨w2, z2⟩ := I.cell y c' e
        exact ⟨w2, z2.sameBut hs hcc⟩
    · obtain ⟨e, n, ne, nf, d⟩ := I.pin p hp
      refine ⟨(hs.2 p.1 ?_).trans e, n, ne, nf, d⟩
      intro q
      rw [q, hoc] at e
      have q' : oc = p.2 := Option.some.inj e
      exact d w' (by rw [← q']; exact hocd)
theorem store_ok {M : Model} {A : Around} {E : Value → Shared → Prop} {i : Nat} {x : Str} {v : V} {u : Value} {Q : Unit → Shared → Prop} (I : Inv X pins σ H s) (hN : X.N.Nodup) (hi : X.N[i]? = some x) (hx : Loc X.env.scope x) (r : RelV v u)
    (h : ∀ s', Inv X pins (σ.set i (some v)) H s' → Q () s') (hf : X.fn x = true ∨ X.env.scope.names.lookup x = some .local := by first | exact .inl rfl | exact .inr rfl | assumption) : wpAny M A (storeName X.env x u) Q E s :=
  store_ok2 I hN hi hx r (fun s' I' _ => h s' I') hf
theorem Inv.call' {s' : Shared} {ch : List Addr} (I : Inv X pins σ H s) (ho : s'.os = s.os) (u : Un (frs X.stack) ch H H' s.heap s'.heap) (hok : HOk X.prog X.w H' s'.heap) (hg : AllBare s'.gens)
    (hch : ∀ b ∈ ch, (b ∈ X.ex ∨ X.s₀.heap.objs.size ≤ b) ∧ b ≠ X.env.locals ∧ (∀ x c, X.env.cells.lookup x = some c → c ≠ b) ∧ ∀ p ∈ X.pn ++ pins, p.1 ≠ b) : Inv X pins σ H' s' := by
  obtain ⟨h', g', d', t', o'⟩ := s'
  have e : o' = s.os := ho
  subst e
  exact I.call (g' := g') (t' := t') (d' := d') u hok hg hch
end
noncomputable abbrev XK := Value → Option Addr → Hp → Prop
noncomputable abbrev St := List (Option V)
noncomputable abbrev VK := V → Hp → Prop
noncomputable abbrev TE := St → Hp → VK → Prop
noncomputable abbrev TT := St → Hp → (Bool → Hp → Prop) → Prop
noncomputable abbrev TA := St → Hp → (List V → Hp → Prop) → Prop
structure Ends where
  nx : St → Hp → Prop
  rt : VK
  bk : St → Hp → Prop := fun _ _ => False
  ct : St → Hp → Prop := fun _ _ => False
noncomputable abbrev TS := Ends → St → Hp → Prop
noncomputable def EP (X : Cx) (pins : List (Addr × Obj)) (σ : St) (Q : VK) (u : Value) (s' : Shared) : Prop := ∃ v H', Inv X pins σ H' s' ∧ RelV v u ∧ Q v H'
noncomputable def TP (X : Cx) (pins : List (Addr × Obj)) (σ : St) (Q : Bool → Hp → Prop) (b : Bool) (s' : Shared) : Prop := ∃ H', Inv X pins σ H' s' ∧ Q b H'
noncomputable def AP (X : Cx) (pins : List (Addr × Obj)) (σ : St) (Q : List V → Hp → Prop) (us : List Value) (s' : Shared) : Prop := ∃ vs H', Inv X pins σ H' s' ∧ Vals vs us ∧ Q vs H'
noncomputable def SP (X : Cx) (pins : List (Addr × Obj)) (D : Ends) (f : Flow) (s' : Shared) : Prop :=
  match f with
  | .next => ∃ σ' H', Inv X pins σ' H' s' ∧ D.nx σ' H'
  | .brk => ∃ σ' H', Inv X pins σ' H' s' ∧ D.bk σ' H'
  | .cont => ∃ σ' H', Inv X pins σ' H' s' ∧ D.ct σ' H'
  | .ret u => ∃ v σ' H', Inv X pins σ' H' s' ∧ RelV v u ∧ D.rt v H'
noncomputable def PE (X : Cx) (e : Expr) (t : TE) : Prop :=
  ∀ (pins : List (Addr × Obj)) (s : Shared) (σ : St) (H : Hp) (Q : VK), Inv X pins σ H s → t σ H Q → wpAny (model X.prog X.w) X.A (eval e X.env) (EP X pins σ Q) X.xe s
noncomputable def PT (X : Cx) (e : Expr) (t : TT) : Prop :=
  ∀ (pins : List (Addr × Obj)) (s : Shared) (σ : St) (H : Hp) (Q : Bool → Hp → Prop), Inv X pins σ H s → t σ H Q → wpAny (model X.prog X.w) X.A (isTrue e X.env (eval e X.env)) (TP X pins σ Q) X.xe s
noncomputable def PW (X : Cx) (e : Expr) (t : TT) : Prop :=
  ∀ (whole : Sem Value) (pins : List (Addr × Obj)) (s : Shared) (σ : St) (H : Hp) (Q : Bool → Hp → Prop), Inv X pins σ H s → t σ H Q → wpAny (model X.prog X.w) X.A (isTrue e X.env whole) (TP X pins σ Q) X.xe s
theorem PW.pt {X : Cx} {e : Expr} {t : TT} (h : PW X e t) : PT X e t := h _
noncomputable def PA (X : Cx) (es : List Expr) (t : TA) : Prop :=
  ∀ (pos : Pos) (pins : List (Addr × Obj)) (s : Shared) (σ : St) (H : Hp) (Q : List V → Hp → Prop), Inv X pins σ H s → t σ H Q → wpAny (model X.prog X.w) X.A (spliced (backTo pos (starEach es X.env))) (AP X pins σ Q) X.xe s
noncomputable def PS (X : Cx) (st : Stmt) (t : TS) : Prop :=
  ∀ (pins : List (Addr × Obj)) (s : Shared) (σ : St) (H : Hp) (D : Ends), Inv X pins σ H s → t D σ H → wpAny (model X.prog X.w) X.A (exec st X.env) (SP X pins D) X.xe s
noncomputable def PSs (X : Cx) (st : List Stmt) (t : TS) : Prop :=
  ∀ (pins : List (Addr × Obj)) (s : Shared) (σ : St) (H : Hp) (D : Ends), Inv X pins σ H s → t D σ H → wpAny (model X.prog X.w) X.A (execs st X.env) (SP X pins D) X.xe s
theorem thn {α : Type} {t : Sem α} {Q Q' : α → Shared → Prop} {M : Model} {A : Around} {E : Value → Shared → Prop} {s : Shared} (h : wpAny M A t Q E s) (hQ : ∀ a s, Q a s → Q' a s) : wpAny M A t Q' E s := wpAny_mono h hQ fun _ _ x => x
end L2
namespace L2
open PySem PySem.Spec PyProof.Rows
section
variable {X : Cx}
noncomputable def tVar (i : Nat) : TE := fun σ H Q => ∃ v, σ[i]? = some (some v) ∧ Q v H
noncomputable def tC (v : V) : TE := fun _ H Q => Q v H
theorem pe_var {i : Nat} {x : Str} {pos : Pos} (hN : X.N[i]? = some x) (hv : Vis X.env.scope x) (hd : (x == ("__debug__" : Str)) = false := by decide) (hcd : (x == ("__classdict__" : Str)) = false := by decide) : PE X (.Name x pos) (tVar i) := by
  intro pins s σ H Q I h
  obtain ⟨v, e, h⟩ := h
  obtain ⟨m, hn, hl⟩ := I.loc
  obtain ⟨u, r, l⟩ := hl i x v hN e hv
  have fin : EP X pins σ Q u s := ⟨v, H, I, r, h⟩
  rcases l with ⟨hk, hm⟩ | ⟨hk, c, hc, hcell⟩
  · exact wpAny_Name (wpAny_loadName_local I.ok.kind hk hn hm fin) hd
  · rcases hk with hk | hk
    · exact wpAny_Name (wpAny_loadName_cell I.ok.kind hk hc hcell fin) hd
    · exact wpAny_Name (wpAny_loadName_free I.ok.kind hk hc hcell fin hcd) hd
theorem pe_int {i j pos} : PE X (.Constant (.int i) j pos) (tC (.int i)) := fun _ _ _ H _ I h => wpAny_Constant_int ⟨.int i, H, I.tok _, ⟨_, rfl⟩, h⟩
theorem pe_bl {b j pos} : PE X (.Constant (.bool b) j pos) (tC (.bl b)) := fun _ _ _ H _ I h => Constant_bool ⟨.bl b, H, I, rfl, h⟩
theorem pe_non {j pos} : PE X (.Constant .none j pos) (tC .non) := fun _ _ _ H _ I h => Constant_none ⟨.non, H, I, rfl, h⟩
theorem pe_str {x j pos} : PE X (.Constant (.str x) j pos) (tC (.str x)) := fun _ _ _ H _ I h => Calls.Constant_str ⟨.str x, H, I.tok _, ⟨_, rfl⟩, h⟩
noncomputable def Gl (X : Cx) (x : Str) : Prop := X.env.kindOf x = some .globalImplicit
theorem ld_glob {E : Value → Shared → Prop} {pins : List (Addr × Obj)} {s : Shared} {σ : St} {H : Hp} {x : Str} {u : Value} {pos : Pos} {Q : Value → Shared → Prop} (I : Inv X pins σ H s) (hg : Gl X x) (hm : X.mg x = some u) (h : Q u s)
    (hd : (x == ("__debug__" : Str)) = false := by decide) : wpAny (model X.prog X.w) X.A (eval (.Name x pos) X.env) Q E s :=
  Calls.Name_function_global I.ok.kind hg (Calls.loadGlobal_global (by rw [I.ok.glob]; exact I.mod.glob.keeps I.bk) hm h) hd
theorem ld_blt {E : Value → Shared → Prop} {pins : List (Addr × Obj)} {s : Shared} {σ : St} {H : Hp} {x : Str} {u : Value} {pos : Pos} {Q : Value → Shared → Prop} (I : Inv X pins σ H s) (hg : Gl X x) (hm : X.mg x = none) (hv : bootBuiltins x = some u) (h : Q u s)
    (hn : x ≠ "__name__" := by decide) (hd : (x == ("__debug__" : Str)) = false := by decide) : wpAny (model X.prog X.w) X.A (eval (.Name x pos) X.env) Q E s := by
  obtain ⟨mb, h1, h2⟩ := I.mod.blt
  exact Calls.Name_function_global I.ok.kind hg (Calls.loadGlobal_builtin (by rw [I.ok.glob]; exact I.mod.glob.keeps I.bk) hm (by rw [I.ok.blt]; exact h1.keeps I.bk) ((h2 x hn).trans hv) h) hd
theorem pe_glob {x : Str} {v : V} {u : Value} {pos : Pos} (hg : Gl X x) (hm : X.mg x = some u) (r : RelV v u) (hd : (x == ("__debug__" : Str)) = false := by decide) : PE X (.Name x pos) (tC v) :=
  fun _ _ _ H _ I h => ld_glob I hg hm ⟨v, H, I, r, h⟩ hd
theorem pe_bltn {x : Str} {v : V} {u : Value} {pos : Pos} (hg : Gl X x) (hm : X.mg x = none) (hv : bootBuiltins x = some u) (r : RelV v u) (hn : x ≠ "__name__" := by decide) (hd : (x == ("__debug__" : Str)) = false := by decide) : PE X (.Name x pos) (tC v) :=
  fun _ _ _ H _ I h => ld_blt I hg hm hv ⟨v, H, I, r, h⟩ hn hd
variable {a b : Expr} {ta tb : TE} {pos : Pos}
noncomputable def PC (X : Cx) (op : CmpOp) (a b : Expr) (t : TE) : Prop :=
  ∀ (pins : List (Addr × Obj)) (s : Shared) (σ : St) (H : Hp) (Q : VK), Inv X pins σ H s → t σ H Q →
    wpAny (model X.prog X.w) X.A (eval a X.env) (fun v s₁ => wpAny (model X.prog X.w) X.A (eval b X.env) (fun u s₂ => wpAny (model X.prog X.w) X.A (compareOp op v u) (EP X pins σ Q) X.xe s₂) X.xe s₁) X.xe s
theorem nobehind (b : Expr) {op : CmpOp} (h : op ≠ .In) (h2 : op ≠ .NotIn) : behindInMarks op b = false := by
  have e1 : (op == CmpOp.In) = false := by cases op <;> first | rfl | exact absurd rfl h
  have e2 : (op == CmpOp.NotIn) = false := by cases op <;> first | rfl | exact absurd rfl h2
  cases b <;> simp [behindInMarks, e1, e2]
noncomputable def tB (t : TE) : TT := fun σ H Q => t σ H fun x H1 => ∃ c, x = .bl c ∧ Q c H1
theorem pe_cmp {op : CmpOp} {t : TE} (h : PC X op a b t) (h1 : behindInMarks op b = false := by first | exact nobehind _ (by decide) (by decide) | rfl) : PE X (.Compare a [op] [b] pos) t := fun pins s σ H Q I hw => wpAny_Compare1 (h pins s σ H Q I hw) h1
theorem pt_val {e : Expr} {t : TE} (h : PE X e t) (he : ∀ whole, isTrue e X.env whole = (do let v ← whole; standAt e.pos; holding [v] (truthy v)) := by intro _; rfl) : PT X e (tB t) := by
  intro pins s σ H Q I hw
  refine isTrue_plain (thn (h pins s σ H _ I hw) fun v s1 zr733 => ?_) (he _)
  obtain ⟨x, H1, I1, r1, q1⟩ := zr733
  obtain ⟨d, rfl, q⟩ := q1
  cases r1
  exact wpAny_truthy_bool ⟨H1, I1, q⟩
variable {tA tB' : TT} {rest : List Expr}
noncomputable def tAnd (t u : TT) : TT := fun σ H Q => t σ H fun c H1 => if c = true then u σ H1 Q else Q false H1
noncomputable def tOr (t u : TT) : TT := fun σ H Q => t σ H fun c H1 => if c = true then Q true H1 else u σ H1 Q
noncomputable def tNot (t : TT) : TT := fun σ H Q => t σ H fun c H1 => Q (!c) H1
theorem pw_and1 (ha : PT X a tA) : PW X (.BoolOp .And [a] pos) tA := by
  intro wh pins s σ H Q I h
  refine isTrue_and (thn (ha pins s σ H Q I h) fun c s1 e => ?_)
  cases c with
  | true => exact isTrue_and_nil e
  | false => exact e
theorem pw_or1 (ha : PT X a tA) : PW X (.BoolOp .Or [a] pos) tA := by
  intro wh pins s σ H Q I h
  refine isTrue_or (thn (ha pins s σ H Q I h) fun c s1 e => ?_)
  cases c with
  | false => exact isTrue_or_nil e
  | true => exact e
theorem pw_and (ha : PT X a tA) (hb : PW X (.BoolOp .And (b :: rest) pos) tB') : PW X (.BoolOp .And (a :: b :: rest) pos) (tAnd tA tB') := by
  intro wh pins s σ H Q I h
  refine isTrue_and (thn (ha pins s σ H _ I h) fun c s1 zr755 => ?_)
  obtain ⟨H1, I1, q1⟩ := zr755
  cases c with
  | true => exact hb wh pins s1 σ H1 Q I1 q1
  | false => exact ⟨H1, I1, q1⟩
theorem pw_or (ha : PT X a tA) (hb : PW X (.BoolOp .Or (b :: rest) pos) tB') : PW X (.BoolOp .Or (a :: b :: rest) pos) (tOr tA tB') := by
  intro wh pins s σ H Q I h
  refine isTrue_or (thn (ha pins s σ H _ I h) fun c s1 zr761 => ?_)
  obtain ⟨H1, I1, q1⟩ := zr761
  cases c with
  | true => exact ⟨H1, I1, q1⟩
  | false => exact hb wh pins s1 σ H1 Q I1 q1
theorem pt_not (ha : PT X a tA) : PT X (.UnaryOp .Not a pos) (tNot tA) := by
  intro pins s σ H Q I h
  exact isTrue_not (ha pins s σ H (fun c H1 => Q (!c) H1) I h)
noncomputable def tAndV (ta tb : TE) : TE := fun σ H Q => ta σ H fun x H1 => ∃ c, x = .bl c ∧ if c = true then tb σ H1 Q else Q (.bl false) H1
noncomputable def tNotV (ta : TE) : TE := fun σ H Q => ta σ H fun x H1 => ∃ c, x = .bl c ∧ Q (.bl (!c)) H1
theorem pe_one {op} {t : TE} (h : PE X a t) : PE X (.BoolOp op [a] pos) t := fun pins s σ H Q I hw => BoolOp_one (h pins s σ H Q I hw)
theorem pe_and (ha : PE X a ta) (hb : PE X (.BoolOp .And (b :: rest) pos) tb) : PE X (.BoolOp .And (a :: b :: rest) pos) (tAndV ta tb) := by
  intro pins s σ H Q I h
  refine BoolOp_and (thn (ha pins s σ H _ I h) fun v s1 zr773 => ?_)
  obtain ⟨x, H1, I1, r1, q1⟩ := zr773
  obtain ⟨c, rfl, q1⟩ := q1
  cases r1
  refine wpAny_truthy_bool ?_
  cases c with
  | true => exact hb pins s1 σ H1 Q I1 q1
  | false => exact ⟨.bl false, H1, I1, rfl, q1⟩
theorem pe_not (ha : PE X a ta) : PE X (.UnaryOp .Not a pos) (tNotV ta) := by
  intro pins s σ H Q I h
  refine UnaryOp_ (thn (ha pins s σ H _ I h) fun v s1 zr782 => ?_)
  obtain ⟨x, H1, I1, r1, q1⟩ := zr782
  obtain ⟨c, rfl, q1⟩ := q1
  cases r1
  exact not_of (wpAny_truthy_bool ⟨.bl (!c), H1, I1, rfl, q1⟩)
end
end L2
namespace L2
open PySem PySem.Spec PyProof.Rows
noncomputable def SqL (K : PySem.W.Frag) (H : Hp) (a : Addr) (xs : List V) : Prop :=
  Rd H a (.lst xs) ∨
    ∃ (o : Obj) (its : Array Value) (n : Nat), K.lookup a = some o ∧ o.cls = .type "list" ∧ o.dict = none ∧ o.data = .seq its n ∧ its.size ≤ sizeLine ∧ Vals xs its.toList
noncomputable def SqT (K : PySem.W.Frag) (H : Hp) (a : Addr) (xs : List V) : Prop :=
  Rd H a (.tup xs) ∨
    ∃ (o : Obj) (its : Array Value) (n : Nat), K.lookup a = some o ∧ o.cls = .type "tuple" ∧ o.data = .seq its n ∧ its.size ≤ sizeLine ∧ Vals xs its.toList
noncomputable def absV : Value → Option V
  | .none => some .non
  | .bool b => some (.bl b)
  | .int i _ => some (.int i)
  | .str x _ => some (.str x)
  | .bytes b _ => some (.byt b)
  | .float b _ => some (.flt b)
  | .ref a => some (.ref a)
  | .type n => some (.ty n)
  | _ => none
theorem RelV.abs {x : V} {u : Value} (r : RelV x u) : absV u = some x := by
  cases x with
  | non => cases r; rfl
  | bl _ => cases r; rfl
  | int _ => obtain ⟨t, rfl⟩ := r; rfl
  | str _ => obtain ⟨t, rfl⟩ := r; rfl
  | byt _ => obtain ⟨t, rfl⟩ := r; rfl
  | flt _ => obtain ⟨t, rfl⟩ := r; rfl
  | ref _ => cases r; rfl
  | ty _ => cases r; rfl
theorem RelV.inj {x y : V} {u : Value} (r : RelV x u) (q : RelV y u) : x = y := Option.some.inj (r.abs.symm.trans q.abs)
theorem Vals.inj : ∀ {xs ys : List V} {us : List Value}, Vals xs us → Vals ys us → xs = ys
  | _, _, _, .nil, .nil => rfl
  | _, _, _, .cons r t, .cons r' t' => by rw [r.inj r', Vals.inj t t']
section
variable {X : Cx} {pins : List (Addr × Obj)} {σ : St} {H : Hp} {s : Shared} {a : Addr} {xs ys : List V}
theorem SqL.of {K : PySem.W.Frag} (h : H a = some (.lst xs)) : SqL K H a xs := .inl (.inl h)
theorem SqT.of {K : PySem.W.Frag} (h : H a = some (.tup xs)) : SqT K H a xs := .inl (.inl h)
theorem Inv.list (I : Inv X pins σ H s) (h : SqL X.K H a xs) : ∃ its : List Value, Vals xs its ∧ PlainL s.heap a its.toArray ∧ xs.length ≤ sizeLine := by
  rcases h with h | ⟨o, its, n, hk, hc, hd, hs, hz, r⟩
  · obtain ⟨z, its, n, r, e⟩ := h.ok I.hok
    exact ⟨its, r, ⟨_, n, e, rfl, rfl, rfl⟩, z⟩
  · refine ⟨its.toList, r, ⟨o, n, I.kIn a o hk, hc, hd, by simpa using hs⟩, ?_⟩
    have e := r.length
    simp only [Array.length_toList] at e
    omega
theorem Inv.tuple (I : Inv X pins σ H s) (h : SqT X.K H a xs) : ∃ its : List Value, Vals xs its ∧ IsTup s.heap a its.toArray ∧ xs.length ≤ sizeLine := by
  rcases h with h | ⟨o, its, n, hk, hc, hs, hz, r⟩
  · obtain ⟨z, its, r, p⟩ := h.ok I.hok
    exact ⟨its, r, p, z⟩
  · refine ⟨its.toList, r, ⟨o, I.kIn a o hk, hc, n, by simpa using hs⟩, ?_⟩
    have e := r.length
    simp only [Array.length_toList] at e
    omega
theorem Inv.list_inj (I : Inv X pins σ H s) (h : SqL X.K H a xs) (h' : SqL X.K H a ys) : xs = ys := by
  obtain ⟨its, r, ⟨o, n, e, _, _, d⟩, _⟩ := I.list h
  obtain ⟨its', r', ⟨o', n', e', _, _, d'⟩, _⟩ := I.list h'
  rw [e] at e'; cases e'
  rw [d] at d'
  injection d' with d1 _
  have : its = its' := by simpa using congrArg Array.toList d1
  subst this
  exact r.inj r'
theorem Inv.tuple_inj (I : Inv X pins σ H s) (h : SqT X.K H a xs) (h' : SqT X.K H a ys) : xs = ys := by
  obtain ⟨its, r, ⟨o, e, _, n, d⟩, _⟩ := I.tuple h
  obtain ⟨its', r', ⟨o', e', _, n', d'⟩, _⟩ := I.tuple h'
  rw [e] at e'; cases e'
  rw [d] at d'
  injection d' with d1 _
  have : its = its' := by simpa using congrArg Array.toList d1
  subst this
  exact r.inj r'
end
noncomputable abbrev Cx.wish (X : Cx) (E : Value → Shared → Prop) : Cx := { X with xe := E }
noncomputable abbrev Cx.nox (X : Cx) : Cx := X.wish fun _ _ => False
theorem Cx.Ok.wish {X : Cx} (ok : X.Ok) (E : Value → Shared → Prop) : (X.wish E).Ok :=
  ⟨ok.mod, ok.kind, ok.glob, ok.blt, ok.above, ok.inj, ok.has, ok.cab, ok.hd, ok.frames, ok.stk, ok.exf, ok.bs, ok.bsz, ok.noex, ok.exfs, ok.funs, ok.frf⟩
theorem Cx.Ok.unwish {X : Cx} {E : Value → Shared → Prop} (ok : (X.wish E).Ok) : X.Ok :=
  ⟨ok.mod, ok.kind, ok.glob, ok.blt, ok.above, ok.inj, ok.has, ok.cab, ok.hd, ok.frames, ok.stk, ok.exf, ok.bs, ok.bsz, ok.noex, ok.exfs, ok.funs, ok.frf⟩
section
variable {X : Cx} {pins : List (Addr × Obj)} {σ : St} {H : Hp} {s : Shared} {E : Value → Shared → Prop}
theorem Inv.wish (I : Inv X pins σ H s) (E : Value → Shared → Prop) : Inv (X.wish E) pins σ H s := ⟨I.ok.wish E, I.os, I.bare, I.base, I.loc, I.cell, I.free, I.freeC, I.pin, I.hok, I.len⟩
theorem Inv.unwish (I : Inv (X.wish E) pins σ H s) : Inv X pins σ H s := ⟨I.ok.unwish, I.os, I.bare, I.base, I.loc, I.cell, I.free, I.freeC, I.pin, I.hok, I.len⟩
theorem SP.unwish {D : Ends} {f : Flow} {s' : Shared} (h : SP (X.wish E) pins D f s') : SP X pins D f s' := by
  cases f with
  | next => obtain ⟨σ', H', I, q⟩ := h; exact ⟨σ', H', I.unwish, q⟩
  | brk => obtain ⟨σ', H', I, q⟩ := h; exact ⟨σ', H', I.unwish, q⟩
  | cont => obtain ⟨σ', H', I, q⟩ := h; exact ⟨σ', H', I.unwish, q⟩
  | ret u => obtain ⟨v, σ', H', I, r, q⟩ := h; exact ⟨v, σ', H', I.unwish, r, q⟩
theorem PSs.nox {st : List Stmt} {t : TS} (h : PSs X.nox st t) : PSs X st t := fun pins s σ H D I hw =>
  wpAny_mono (h pins s σ H D (I.wish _) hw) (fun _ _ q => q.unwish) fun _ _ z => False.elim z
end
section
variable {X : Cx} {st : Stmt} {rest : List Stmt} {t u : TS} {e : Expr} {te : TE} {pos : Pos}
noncomputable def tNext : TS := fun D σ H => D.nx σ H
noncomputable def tSeq (t u : TS) : TS := fun D σ H => t { D with nx := u D } σ H
theorem pss_nil : PSs X [] tNext := fun _ _ σ H _ I h => wpAny_execs_nil ⟨σ, H, I, h⟩
theorem pss_cons (h1 : PS X st t) (h2 : PSs X rest u) : PSs X (st :: rest) (tSeq t u) := by
  intro pins s σ H D I h
  refine wpAny_execs_cons (thn (h1 pins s σ H { D with nx := u D } I h) fun f s1 q => ?_)
  cases f with
  | next =>
    obtain ⟨σ', H', I', q⟩ := q
    exact h2 pins s1 σ' H' D I' q
  | ret v => exact q
  | brk => exact q
  | cont => exact q
theorem pss_one (h1 : PS X st t) : PSs X [st] t := by
  intro pins s σ H D I h
  refine wpAny_execs_cons (thn (h1 pins s σ H D I h) fun f s1 q => ?_)
  cases f with
  | next => exact wpAny_execs_nil q
  | ret v => exact q
  | brk => exact q
  | cont => exact q
theorem Inv.quiet {pins : List (Addr × Obj)} {σ : St} {H : Hp} {s : Shared} (I : Inv X pins σ H s) : interactive X.env = false := by simp [interactive, I.ok.kind]
noncomputable def tDrop (te : TE) : TS := fun D σ H => te σ H fun _ H1 => D.nx σ H1
theorem ps_expr (he : PE X e te) (hs : swapsWith e none pos.line X.env = pure false := by rfl) : PS X (.Expr e pos) (tDrop te) := by
  intro pins s σ H D I h
  exact wpAny_Expr_any (thn (he pins s σ H _ I h) fun v s1 zq0 => by obtain ⟨x, H1, I1, r1, q1⟩ := zq0; exact (⟨σ, H1, I1, q1⟩)) I.quiet hs
noncomputable def tRet (te : TE) : TS := fun D σ H => te σ H D.rt
theorem ps_ret (he : PE X e te) : PS X (.Return (some e) pos) (tRet te) := by
  intro pins s σ H D I h
  exact wpAny_Return_some (thn (he pins s σ H _ I h) fun v s1 zq1 => by obtain ⟨x, H1, I1, r1, q1⟩ := zq1; exact (⟨x, σ, H1, I1, r1, q1⟩))
noncomputable def tIfS (c : TT) (t u : TS) : TS := fun D σ H => c σ H fun b H1 => if b = true then t D σ H1 else u D σ H1
theorem ps_if {c : Expr} {a b : List Stmt} {tc : TT} (hc : PT X c tc) (ha : PSs X a t) (hb : PSs X b u) : PS X (.If c a b pos) (tIfS tc t u) := by
  intro pins s σ H D I h
  refine wpAny_If (thn (hc pins s σ H _ I h) fun d s1 zr913 => ?_)
  obtain ⟨H1, I1, q1⟩ := zr913
  cases d with
  | true => exact ha pins s1 σ H1 D I1 q1
  | false => exact hb pins s1 σ H1 D I1 q1
noncomputable def tNever : TS := fun _ _ _ => False
theorem ps_never : PS X st tNever := fun _ _ _ _ _ _ h => h.elim
end
noncomputable abbrev TG := V → St → Hp → (St → Hp → Prop) → Prop
noncomputable abbrev TGs := List V → St → Hp → (St → Hp → Prop) → Prop
noncomputable def PG (X : Cx) (target : Expr) (t : TG) : Prop :=
  ∀ (pins : List (Addr × Obj)) (s : Shared) (σ : St) (H : Hp) (v : V) (u : Value) (Q : St → Hp → Prop), Inv X pins σ H s → RelV v u → t v σ H Q →
    wpAny (model X.prog X.w) X.A (assign target X.env u) (fun _ s' => ∃ σ' H', Inv X pins σ' H' s' ∧ Q σ' H') X.xe s
noncomputable def PGs (X : Cx) (ts : List Expr) (t : TGs) : Prop :=
  ∀ (pins : List (Addr × Obj)) (s : Shared) (σ : St) (H : Hp) (vs : List V) (us : List Value) (Q : St → Hp → Prop), Inv X pins σ H s → Vals vs us → t vs σ H Q →
    wpAny (model X.prog X.w) X.A (assignInOrder ((assignEach ts X.env).map (·.2)) us) (fun _ s' => ∃ σ' H', Inv X pins σ' H' s' ∧ Q σ' H') X.xe s
noncomputable abbrev TSet := V → V → V → Hp → (Hp → Prop) → Prop
noncomputable def PSet (X : Cx) (t : TSet) : Prop :=
  ∀ (pins : List (Addr × Obj)) (s : Shared) (σ : St) (H : Hp) (o i v : V) (ov iv u : Value) (Q : Hp → Prop), Inv X pins σ H s → RelV o ov → RelV i iv → RelV v u → t o i v H Q →
    wpAny (model X.prog X.w) X.A (setItem ov iv u) (fun _ s' => ∃ H', Inv X pins σ H' s' ∧ Q H') X.xe s
section
variable {X : Cx} {pos : Pos}
noncomputable def gName (i : Nat) : TG := fun v σ H Q => Q (σ.set i (some v)) H
theorem pg_name {i : Nat} {x : Str} (hN : X.N.Nodup) (hi : X.N[i]? = some x) (hx : Loc X.env.scope x) (hf : X.fn x = true ∨ X.env.scope.names.lookup x = some .local := by first | exact .inl rfl | exact .inr rfl | assumption) : PG X (.Name x pos) (gName i) := by
  intro pins s σ H v u Q I r h
  exact wpAny_assign_Name (store_ok I hN hi hx r (fun s' I' => ⟨_, H, I', h⟩) hf)
noncomputable def gNil : TGs := fun vs σ H Q => vs = [] ∧ Q σ H
noncomputable def gCons (t : TG) (u : TGs) : TGs := fun vs σ H Q => ∃ v r, vs = v :: r ∧ t v σ H fun σ' H' => u r σ' H' Q
theorem pgs_nil : PGs X [] gNil := by
  intro pins s σ H vs us Q I r h
  obtain ⟨e, h⟩ := h
  subst e
  cases r
  exact assignInOrder_nil ⟨σ, H, I, h⟩
theorem pgs_cons {e : Expr} {es : List Expr} {t : TG} {u : TGs} (h1 : PG X e t) (h2 : PGs X es u)
    (hs : (assignEach (e :: es) X.env).map (·.2) = assign e X.env :: (assignEach es X.env).map (·.2) := by rfl) : PGs X (e :: es) (gCons t u) := by
  intro pins s σ H vs us Q I r h
  obtain ⟨v, vr, e1, h⟩ := h
  subst e1
  cases r with
  | cons r rr =>
    rw [hs]
    refine assignInOrder_cons (thn (h1 pins s σ H _ _ _ I r h) fun _ s1 zr954 => ?_)
    obtain ⟨σ1, H1, I1, q1⟩ := zr954
    exact h2 pins s1 σ1 H1 _ _ Q I1 rr q1
noncomputable def gTup (K : PySem.W.Frag) (n : Nat) (t : TGs) : TG := fun v σ H Q => ∃ a xs, v = .ref a ∧ SqT K H a xs ∧ xs.length = n ∧ t xs σ H Q
theorem pg_tup {es : List Expr} {k : Nat} {t : TGs} {n : Nat} (hc : X.calm = true) (h : PGs X es t)
    (hn : (assignEach es X.env).length = n := by rfl) (hst : (assignEach es X.env).findIdx? (·.1) = none := by rfl) : PG X (.Tuple es k pos) (gTup X.K n t) := by
  intro pins s σ H v u Q I r hw
  obtain ⟨a, xs, e1, hq, hl, hw⟩ := hw
  subst e1
  cases r
  obtain ⟨its, rv, ht, hz⟩ := I.tuple hq
  refine assign_Tuple_tuple (I.ok.hd hc) ht (by simp [hn, ← hl, rv.length]) hst fun h' hx => ?_
  have I1 : Inv X pins σ H { s with heap := h' } := I.kept (t' := s.toks) fun b o e => hx b o (Nat.ne_of_lt (Heap.lt_size e)) e
  exact h pins _ σ H xs _ Q I1 (by simpa using rv) hw
noncomputable def gSub (to ti : TE) (t : TSet) : TG := fun v σ H Q => to σ H fun o H1 => ti σ H1 fun i H2 => t o i v H2 fun H3 => Q σ H3
theorem pg_sub {o i : Expr} {to ti : TE} {t : TSet} (ho : PE X o to) (hi : PE X i ti) (hs : PSet X t)
    (ha : ∀ v, assign (.Subscript o i pos) X.env v = (do
      let ov ← holding [v] (eval o X.env)
      let iv ← holding [v, ov] (eval i X.env)
      standAt pos
      holding [v, ov, iv] (setItem ov iv v)
      release [v, ov, iv] []) := by intro _; rfl) : PG X (.Subscript o i pos) (gSub to ti t) := by
  intro pins s σ H v u Q I r h
  rw [ha]
  refine wpAny_bind (wpAny_holding (thn (ho pins s σ H _ I h) fun ov s1 zr977 => ?_))
  obtain ⟨x, H1, I1, r1, q1⟩ := zr977
  refine wpAny_bind (wpAny_holding (thn (hi pins s1 σ H1 _ I1 q1) fun iv s2 zr978 => ?_))
  obtain ⟨y, H2, I2, r2, q2⟩ := zr978
  refine wpAny_bind (wpAny_standAt (wpAny_bind (wpAny_holding (thn (hs pins s2 σ H2 x y v ov iv u _ I2 r1 r2 r q2) fun _ s3 zr979 => ?_))))
  obtain ⟨H3, I3, q3⟩ := zr979
  exact wpAny_release ⟨σ, H3, I3, q3⟩
noncomputable def tAsg (te : TE) (g : TG) : TS := fun D σ H => te σ H fun x H1 => g x σ H1 D.nx
theorem ps_asg {tg e : Expr} {te : TE} {g : TG} (he : PE X e te) (hg : PG X tg g) (hs : swapsWithSole [tg] e pos.line X.env = pure false := by rfl) (hw : swappedStores [tg] e X.env = pure none := by rfl)
    (h1 : (assignEach [tg] X.env).map (·.2) = [assign tg X.env] := by rfl) : PS X (.Assign [tg] e pos) (tAsg te g) := by
  intro pins s σ H D I h
  refine wpAny_Assign_stores (thn (he pins s σ H _ I h) fun v s1 zr985 => ?_) hs hw
  obtain ⟨x, H1, I1, r1, q1⟩ := zr985
  rw [h1]
  exact thn (hg pins s1 σ H1 x v _ I1 r1 q1) fun _ s2 q => q
theorem ps_set {i : Nat} {x : Str} {e : Expr} {te : TE} {pos' : Pos} (hN : X.N.Nodup) (hi : X.N[i]? = some x) (hx : Loc X.env.scope x) (he : PE X e te) (hs : swapsWith e (some (.Name x pos')) pos.line X.env = pure false := by rfl) (hf : X.fn x = true ∨ X.env.scope.names.lookup x = some .local := by first | exact .inl rfl | exact .inr rfl | assumption) :
    PS X (.Assign [.Name x pos'] e pos) (tAsg te (gName i)) := by
  intro pins s σ H D I h
  refine wpAny_Assign_Name (thn (he pins s σ H _ I h) fun v s1 zr991 => ?_) hs
  obtain ⟨y, H1, I1, r1, q1⟩ := zr991
  exact store_ok I1 hN hi hx r1 (fun s2 I2 => ⟨_, H1, I2, q1⟩) hf
end
section
variable {X : Cx} {pos : Pos}
noncomputable def tWhile (c : TT) (tb : TS) : TS := fun D σ H => ∃ W : Nat → St → Hp → Prop, (∃ m, W m σ H) ∧ ∀ m σ H, W m σ H →
  c σ H fun b H1 => if b = true then ∃ N : St → Hp → Prop, (∀ σ' H', N σ' H' → ∃ m', m' < m ∧ W m' σ' H') ∧ tb { D with nx := N, ct := N, bk := D.nx } σ H1 else D.nx σ H1
theorem ps_while {c : Expr} {body : List Stmt} {tc : TT} {tb : TS} (hp : PassesOwn (model X.prog X.w) X.A X.env X.xe) (hc : PT X c tc) (hb : PSs X body tb) : PS X (.While c body [] pos) (tWhile tc tb) := by
  intro pins s σ H D I h
  obtain ⟨W, ⟨m0, w0⟩, turn⟩ := h
  refine wpAny_While (codeAny_whileLoop (fun n s' => ∃ σ' H', Inv X pins σ' H' s' ∧ W n σ' H') ?_ m0 ⟨σ, H, I, w0⟩)
  rintro n s1 ⟨σ1, H1, I1, w1⟩
  refine wpAny_passesOwn hp (thn (hc pins s1 σ1 H1 _ I1 (turn n σ1 H1 w1)) fun b s2 zr1003 => ?_)
  obtain ⟨H2, I2, q2⟩ := zr1003
  cases b with
  | true =>
    obtain ⟨N, hN, q2⟩ := q2
    rw [if_pos rfl]
    refine wpAny_passesOwn hp (thn (hb pins s2 σ1 H2 _ I2 q2) fun f s3 q3 => ?_)
    cases f with
    | next =>
      obtain ⟨σ3, H3, I3, n3⟩ := q3
      obtain ⟨m', hm, w3⟩ := hN σ3 H3 n3
      exact ⟨m', hm, σ3, H3, I3, w3⟩
    | cont =>
      obtain ⟨σ3, H3, I3, n3⟩ := q3
      obtain ⟨m', hm, w3⟩ := hN σ3 H3 n3
      exact ⟨m', hm, σ3, H3, I3, w3⟩
    | brk => exact q3
    | ret v => exact q3
  | false =>
    rw [if_neg Bool.false_ne_true]
    exact wpAny_execs_nil ⟨σ1, H2, I2, q2⟩
end
structure It where
  go : Nat → Hp → Prop
  yld : Nat → Hp → V → Hp → Prop
  stop : Nat → Hp → Prop
noncomputable def FpOk (X : Cx) (pins : List (Addr × Obj)) (H : Hp) (b : Addr) : Prop :=
  H b = none ∧ b ≠ X.env.locals ∧ b ∉ X.fs ∧ (b ∈ X.ex ∨ X.s₀.heap.objs.size ≤ b) ∧ (∀ x c, X.env.cells.lookup x = some c → c ≠ b) ∧ ∀ p ∈ X.pn ++ pins, p.1 ≠ b
theorem Inv.fpOk {X : Cx} {pins : List (Addr × Obj)} {σ : St} {H H' : Hp} {s : Shared} {b : Addr} (I : Inv X pins σ H s) (hb : s.heap.objs.size ≤ b) (hn : H' b = none) : FpOk X pins H' b := by
  refine ⟨hn, Nat.ne_of_gt (Nat.lt_of_lt_of_le I.lt hb), I.nofs hb, .inr (Nat.le_trans I.sz hb), fun x c e z => ?_, fun p hp z => ?_⟩
  · obtain ⟨v, q⟩ := I.cell x c e
    exact absurd (Nat.lt_of_lt_of_le q.lt (by rw [z]; exact hb)) (Nat.lt_irrefl _)
  · exact absurd (Nat.lt_of_lt_of_le (Heap.lt_size (I.pin p hp).1) (by rw [z]; exact hb)) (Nat.lt_irrefl _)
structure Turn (P : Program) (w : World) (K : PySem.W.Frag) (tg : Expr) (J : It) (fp : List Addr) (it : Addr) (tn : Nat → Heap → Prop) : Prop where
  mem : it ∈ fp
  obj : ∀ i h, tn i h → ∀ b ∈ fp, ∃ o, h.get? b = some o ∧ ∀ v, o.data ≠ .cell v
  keep : ∀ i h h', tn i h → (∀ b ∈ fp, ∀ o, h.get? b = some o → h'.get? b = some o) → tn i h'
  item : ∀ (X : Cx), X.prog = P → X.w = w → X.K = K → X.calm = true → ∀ (i : Nat) (pins : List (Addr × Obj)) (s : Shared) (σ : St) (H : Hp) (E : Value → Shared → Prop), Inv X pins σ H s → (∀ b ∈ fp, FpOk X pins H b) → tn i s.heap → J.go i H →
    wpAny (model P w) X.A (pyNext (.ref it)) (fun r s1 => ∃ u, r = some u ∧
      wpAny (model P w) X.A (letOwnedTupleGo tg (.ref it) u) (fun _ s2 => ∃ x H', Inv X pins σ H' s2 ∧ RelV x u ∧ J.yld i H x H' ∧ tn (i + 1) s2.heap ∧ ∀ b ∈ fp, H' b = none) E s1) E s
  done : ∀ (X : Cx), X.prog = P → X.w = w → X.K = K → X.calm = true → ∀ (i : Nat) (pins : List (Addr × Obj)) (s : Shared) (σ : St) (H : Hp) (E : Value → Shared → Prop), Inv X pins σ H s → (∀ b ∈ fp, FpOk X pins H b) → tn i s.heap → J.stop i H →
    wpAny (model P w) X.A (pyNext (.ref it)) (fun r s1 => r = none ∧ Inv X pins σ H s1) E s
  self : ∀ (A : Around) (i : Nat) (s : Shared) (Q : Value → Shared → Prop) (E : Value → Shared → Prop), tn i s.heap → Q (.ref it) s → wpAny (model P w) A (pyIter (.ref it)) Q E s
noncomputable abbrev TI := St → Hp → (It → Hp → Prop) → Prop
noncomputable def PIE (X : Cx) (pins : List (Addr × Obj)) (σ : St) (tg : Expr) (R : It → Hp → Prop) (itv : Value) (s2 : Shared) : Prop :=
  ∃ (it : Addr) (fp : List Addr) (tn : Nat → Heap → Prop) (J : It) (H' : Hp), itv = .ref it ∧ Inv X pins σ H' s2 ∧ Turn X.prog X.w X.K tg J fp it tn ∧ tn 0 s2.heap ∧ (∀ b ∈ fp, FpOk X pins H' b) ∧ R J H'
noncomputable def PI (X : Cx) (tg iter : Expr) (wi : TI) : Prop :=
  ∀ (pins : List (Addr × Obj)) (s : Shared) (σ : St) (H : Hp) (R : It → Hp → Prop), Inv X pins σ H s → wi σ H R →
    wpAny (model X.prog X.w) X.A (eval iter X.env) (fun v s1 => wpAny (model X.prog X.w) X.A (pyIter v) (PIE X pins σ tg R) X.xe s1) X.xe s
theorem go_of {M : Model} {A : Around} {E : Value → Shared → Prop} {s : Shared} {tg : Expr} {it : Addr} {u : Value} {o : Obj} {n : String} {vs : Array Value} {Q : Unit → Shared → Prop} (ho : s.heap.get? it = some o) (hc : o.cls = .type n) (hd : o.data = .fields vs)
    (hn : ["enumerate", "zip", "dict_itemiterator", "dict_reverseitemiterator", "odict_iterator", "itertools.zip_longest", "itertools.pairwise"].contains n = false) (hQ : Q () s) : wpAny M A (letOwnedTupleGo tg (.ref it) u) Q E s := by
  unfold letOwnedTupleGo
  cases tg <;> first
    | exact wpAny_pure hQ
    | (cases u <;> first
        | exact wpAny_pure hQ
        | (refine wpAny_bind (wpAny_load ho ?_)
           rw [hc, hd]
           show wpAny M A (if (["enumerate", "zip", "dict_itemiterator", "dict_reverseitemiterator", "odict_iterator", "itertools.zip_longest", "itertools.pairwise"].contains n && vs[0]? == some (rawInt _)) = true then _ else _) Q E s
           rw [if_neg (by intro h; rw [hn, Bool.false_and] at h; cases h)]
           exact wpAny_pure hQ))
noncomputable def Itl (K : PySem.W.Frag) (a : Addr) : It :=
  ⟨fun i H => ∃ xs x, SqL K H a xs ∧ xs[i]? = some x, fun i H x H' => H' = H ∧ ∀ xs, SqL K H a xs → xs[i]? = some x, fun i H => ∃ xs, SqL K H a xs ∧ xs.length ≤ i⟩
noncomputable def Itt (K : PySem.W.Frag) (a : Addr) : It :=
  ⟨fun i H => ∃ xs x, SqT K H a xs ∧ xs[i]? = some x, fun i H x H' => H' = H ∧ ∀ xs, SqT K H a xs → xs[i]? = some x, fun i H => ∃ xs, SqT K H a xs ∧ xs.length ≤ i⟩
noncomputable def Itr (lo : Int) (n : Nat) : It := ⟨fun i _ => i < n, fun i H x H' => H' = H ∧ x = .int (lo + i), fun i _ => n ≤ i⟩
theorem turn_list {P : Program} {w : World} {K : PySem.W.Frag} {tg : Expr} (a it : Addr) : Turn P w K tg (Itl K a) [it] it (fun i h => h.IsListIter it a i) where
  mem := by simp
  obj := fun i h st b hb => by
    have e : b = it := by simpa using hb
    subst e
    obtain ⟨o, e, c, d⟩ := st
    exact ⟨o, e, fun v z => by rw [d] at z; cases z⟩
  keep := fun i h h' st k => st.at fun o e => k it (by simp) o e
  item := by
    intro X hP hw hK hc i pins s σ H E I hf st hg
    subst hP hw hK
    obtain ⟨xs, x, hq, hx⟩ := hg
    obtain ⟨its, rv, p, hz⟩ := I.list hq
    obtain ⟨u, hu, ru⟩ := rv.get hx
    obtain ⟨f0, f1, f2, f3, f4, f5⟩ := hf it (by simp)
    refine wpAny_pyNext_list_item st p.isList (x := u) (by simpa using hu) fun h' st' sb => ?_
    have I1 : Inv X pins σ H { s with heap := h' } := I.turned (t' := s.toks) (fun b o hb e => (sb.2 b hb).trans e) f0 f1 f3 f4 f5
    obtain ⟨o, e, c, d⟩ := id st'
    exact ⟨u, rfl, go_of (s := { s with heap := h' }) e c d (by decide) ⟨x, H, I1, ru, ⟨rfl, fun ys hy => by rw [I.list_inj hy hq]; exact hx⟩, st', fun b hb => (hf b hb).1⟩⟩
  done := by
    intro X hP hw hK hc i pins s σ H E I hf st hg
    subst hP hw hK
    obtain ⟨xs, hq, hx⟩ := hg
    obtain ⟨its, rv, p, hz⟩ := I.list hq
    obtain ⟨f0, f1, f2, f3, f4, f5⟩ := hf it (by simp)
    have hl := rv.length
    exact wpAny_pyNext_list_end (I.ok.hd hc) st p.isList (by simp; omega) fun h' eb => ⟨rfl, I.turned (t' := s.toks) (fun b o hb e => eb b o hb e) f0 f1 f3 f4 f5⟩
  self := fun _ _ _ _ _ st h => wpAny_pyIter_listiter st h
theorem turn_tuple {P : Program} {w : World} {K : PySem.W.Frag} {tg : Expr} (a it : Addr) : Turn P w K tg (Itt K a) [it] it (fun i h => h.IsTupleIter it a i) where
  mem := by simp
  obj := fun i h st b hb => by
    have e : b = it := by simpa using hb
    subst e
    obtain ⟨o, e, c, d⟩ := st
    exact ⟨o, e, fun v z => by rw [d] at z; cases z⟩
  keep := fun i h h' st k => st.at fun o e => k it (by simp) o e
  item := by
    intro X hP hw hK hc i pins s σ H E I hf st hg
    subst hP hw hK
    obtain ⟨xs, x, hq, hx⟩ := hg
    obtain ⟨its, rv, p, hz⟩ := I.tuple hq
    obtain ⟨u, hu, ru⟩ := rv.get hx
    obtain ⟨f0, f1, f2, f3, f4, f5⟩ := hf it (by simp)
    refine wpAny_pyNext_tuple_item st (show s.heap.IsTuple a its.toArray from p) (x := u) (by simpa using hu) fun h' st' sb => ?_
    have I1 : Inv X pins σ H { s with heap := h' } := I.turned (t' := s.toks) (fun b o hb e => (sb.2 b hb).trans e) f0 f1 f3 f4 f5
    obtain ⟨o, e, c, d⟩ := id st'
    exact ⟨u, rfl, go_of (s := { s with heap := h' }) e c d (by decide) ⟨x, H, I1, ru, ⟨rfl, fun ys hy => by rw [I.tuple_inj hy hq]; exact hx⟩, st', fun b hb => (hf b hb).1⟩⟩
  done := by
    intro X hP hw hK hc i pins s σ H E I hf st hg
    subst hP hw hK
    obtain ⟨xs, hq, hx⟩ := hg
    obtain ⟨its, rv, p, hz⟩ := I.tuple hq
    obtain ⟨f0, f1, f2, f3, f4, f5⟩ := hf it (by simp)
    have hl := rv.length
    exact wpAny_pyNext_tuple_end (I.ok.hd hc) st (show s.heap.IsTuple a its.toArray from p) (by simp; omega) fun h' eb => ⟨rfl, I.turned (t' := s.toks) (fun b o hb e => eb b o hb e) f0 f1 f3 f4 f5⟩
  self := fun _ _ _ _ _ st h => wpAny_pyIter_tupleiter st h
theorem turn_range {P : Program} {w : World} {K : PySem.W.Frag} {tg : Expr} (it : Addr) (lo : Int) (n : Nat) : Turn P w K tg (Itr lo n) [it] it (fun i h => IsRangeIter h it (lo + (i : Nat) * 1) ((n : Int) - (i : Nat)) 1) where
  mem := by simp
  obj := fun i h st b hb => by
    have e : b = it := by simpa using hb
    subst e
    exact ⟨_, st, fun v z => by
      have z' : Data.fields _ = Data.cell v := z
      cases z'⟩
  keep := fun i h h' st k => k it (by simp) _ st
  item := by
    intro X hP hw hK hc i pins s σ H E I hf st hg
    subst hP hw hK
    obtain ⟨f0, f1, f2, f3, f4, f5⟩ := hf it (by simp)
    have W := Walks.range (prog := X.prog) (w := X.w) (I.ok.hd hc) it lo 1 n
    refine W.item i s _ _ hg st fun v h' tk hv st' kk => ?_
    obtain ⟨t, rfl⟩ := hv
    have I1 : Inv X pins σ H { s with heap := h', toks := tk } := I.turned (fun b o hb e => kk b o (by simpa using hb) e) f0 f1 f3 f4 f5
    refine ⟨_, rfl, go_of (s := { s with heap := h', toks := tk }) (n := "range_iterator") st' rfl rfl (by decide) ⟨.int (lo + i), H, I1, ⟨t, ?_⟩, ⟨rfl, rfl⟩, st', fun b hb => (hf b hb).1⟩⟩
    rw [Int.mul_one]
  done := by
    intro X hP hw hK hc i pins s σ H E I hf st hg
    subst hP hw hK
    obtain ⟨f0, f1, f2, f3, f4, f5⟩ := hf it (by simp)
    exact wpAny_pyNext_range_end (I.ok.hd hc) st (by have : n ≤ i := hg; omega) fun h' eb => ⟨rfl, I.turned (t' := s.toks) (fun b o hb e => eb b o hb e) f0 f1 f3 f4 f5⟩
  self := fun _ _ _ _ _ st h => wpAny_pyIter_rangeiter st h
end L2
namespace L2
open PySem PySem.Spec PyProof.Rows
section
variable {X : Cx} {tg : Expr}
theorem range_it {pins : List (Addr × Obj)} {σ : St} {H : Hp} {s : Shared} {R : It → Hp → Prop} {E : Value → Shared → Prop} {lo hi : Int} {t u v : Tok} {tk : Nat} (I : Inv X pins σ H s) (h1 : -(2 ^ 62) ≤ lo) (h2 : lo < 2 ^ 62) (h3 : -(2 ^ 62) ≤ hi) (h4 : hi < 2 ^ 62)
    (q : R (Itr lo (hi - lo).toNat) H) : wpAny (model X.prog X.w) X.A (pyIter (.ref s.heap.objs.size)) (PIE X pins σ tg R) E { s with heap := s.heap.push { cls := .type "range", data := .fields #[.int lo t, .int hi u, .int 1 v] }, toks := tk } := by
  refine wpAny_pyIter_range (IsRange.new ..) (small_one h1 h2 h3 h4) ?_
  have I1 : Inv X pins σ H { s with heap := s.heap.push { cls := .type "range", data := .fields #[.int lo t, .int hi u, .int 1 v] }, toks := tk } := I.kept fun b o e => Heap.get?_push_of_some _ e
  refine ⟨(s.heap.push { cls := .type "range", data := .fields #[.int lo t, .int hi u, .int 1 v] }).objs.size, [(s.heap.push { cls := .type "range", data := .fields #[.int lo t, .int hi u, .int 1 v] }).objs.size], _, _, H, rfl,
    I1.kept (t' := tk) fun b o e => Heap.get?_push_of_some _ e, turn_range _ lo (hi - lo).toNat, ?_, fun b hb => ?_, q⟩
  · have e1 : lo + ((0 : Nat) : Int) * 1 = lo := by simp
    have e2 : (((hi - lo).toNat : Nat) : Int) - ((0 : Nat) : Int) = Builtin.Range.rangeSize lo hi 1 := by rw [rangeSize_one]; split <;> omega
    show IsRangeIter _ _ (lo + ((0 : Nat) : Int) * 1) ((((hi - lo).toNat : Nat) : Int) - ((0 : Nat) : Int)) 1
    rw [e1, e2]
    exact Heap.get?_push_size _ rfl
  · have e : b = (s.heap.push { cls := .type "range", data := .fields #[.int lo t, .int hi u, .int 1 v] }).objs.size := by simpa using hb
    subst e
    exact I1.fpOk (Nat.le_refl _) (I1.hok.fresh (Nat.le_refl _))
noncomputable def iRng1 (ta : TA) : TI := fun σ H R => ta σ H fun vs H1 => ∃ j : Int, vs = [.int j] ∧ -(2 ^ 62) ≤ j ∧ j < 2 ^ 62 ∧ R (Itr 0 j.toNat) H1
theorem pi_range1 {a : Expr} {ta : TA} {p pos : Pos} (hg : Gl X "range") (hm : X.mg "range" = none) (ha : PA X [a] ta) (hs : starEach [a] X.env = [(false, eval a X.env)] := by rfl) : PI X tg (.Call (.Name "range" p) [a] [] pos) (iRng1 ta) := by
  intro pins s σ H R I h
  refine Call_ (ld_blt I hg hm boot_range (PyProof.Rows.callWith_type1 (thn (ha pos pins s σ H _ I h) fun us s1 zr1171 => ?_) hs rfl))
  obtain ⟨vs, H1, I1, r1, q1⟩ := zr1171
  obtain ⟨j, e, q1, q2, q⟩ := q1
  subst e
  cases r1 with
  | cons r rr =>
    cases rr
    obtain ⟨t, rfl⟩ := r
    exact call_range_1 (range_it I1 (by omega) (by omega) q1 q2 (by simpa using q))
noncomputable def tFor (wi : TI) (g : TG) (tb : TS) : TS := fun D σ H => wi σ H fun J H1 => ∃ W : Nat → Nat → St → Hp → Prop, (∃ m, W 0 m σ H1) ∧ ∀ i m σ H, W i m σ H →
  (J.stop i H ∧ D.nx σ H) ∨ (J.go i H ∧ ∃ N : St → Hp → Prop, (∀ σ' H', N σ' H' → ∃ m', m' < m ∧ W (i + 1) m' σ' H') ∧ ∀ x H', J.yld i H x H' → g x σ H' fun σ2 H2 => tb { D with nx := N, ct := N, bk := D.nx } σ2 H2)
noncomputable def pinsAt (fp : List Addr) (h : Heap) : List (Addr × Obj) := fp.filterMap fun b => (h.get? b).map fun o => (b, o)
theorem mem_pinsAt {fp : List Addr} {h : Heap} {b : Addr} {o : Obj} (hb : b ∈ fp) (e : h.get? b = some o) : (b, o) ∈ pinsAt fp h := List.mem_filterMap.mpr ⟨b, hb, by rw [e]; rfl⟩
theorem of_pinsAt {fp : List Addr} {h : Heap} {p : Addr × Obj} (hp : p ∈ pinsAt fp h) : p.1 ∈ fp ∧ h.get? p.1 = some p.2 := by
  obtain ⟨b, hb, e⟩ := List.mem_filterMap.mp hp
  cases q : h.get? b with
  | none => rw [q] at e; cases e
  | some o =>
    rw [q] at e
    have e' : (b, o) = p := Option.some.inj e
    subst e'
    exact ⟨hb, q⟩
theorem Inv.pinned {pins : List (Addr × Obj)} {σ : St} {H : Hp} {s : Shared} {fp : List Addr} (I : Inv X pins σ H s) (hf : ∀ b ∈ fp, FpOk X pins H b) (ho : ∀ b ∈ fp, ∃ o, s.heap.get? b = some o ∧ ∀ v, o.data ≠ .cell v) : Inv X (pins ++ pinsAt fp s.heap) σ H s :=
  I.pins_of fun p hp => (List.mem_append.mp hp).elim (fun z => I.pin p (List.mem_append_right _ z)) fun z => by
    obtain ⟨hb, e⟩ := of_pinsAt z
    obtain ⟨f0, f1, f2, _⟩ := hf p.1 hb
    obtain ⟨o, e', d⟩ := ho p.1 hb
    rw [e] at e'; cases e'
    exact ⟨e, f0, f1, f2, d⟩
theorem Inv.unpinned {pins pl : List (Addr × Obj)} {σ : St} {H : Hp} {s : Shared} (I : Inv X (pins ++ pl) σ H s) : Inv X pins σ H s := I.pins_of fun p hp => I.pin p (List.mem_append_right _ (List.mem_append_left _ hp))
theorem ps_for {iter : Expr} {body : List Stmt} {wi : TI} {g : TG} {tb : TS} {pos : Pos} (hp : PassesOwn (model X.prog X.w) X.A X.env X.xe) (hc : X.calm = true) (hi : PI X tg iter wi) (hg : PG X tg g) (hb : PSs X body tb)
    (hs : ∀ x, foldedSetIterable iter X.env x = pure x := by intro _; rfl) : PS X (.For tg iter body [] pos) (tFor wi g tb) := by
  intro pins s σ H D I h
  refine wpAny_For (thn (hi pins s σ H _ I h) fun v s1 h1 => thn h1 fun itv s2 h2 => ?_) hs
  obtain ⟨it, fp, tn, J, H2, e, I2, T, st2, f2, W, ⟨m0, w0⟩, turn⟩ := h2
  subst e
  -- what stays true of the iterator's objects through the loop
  have stat : ∀ {H' : Hp}, (∀ b ∈ fp, H' b = none) → ∀ b ∈ fp, FpOk X pins H' b := fun hn b hb => ⟨hn b hb, (f2 b hb).2⟩
  refine codeAny_forLoop_any (fun n s' => ∃ i σ' H', Inv X pins σ' H' s' ∧ tn i s'.heap ∧ (∀ b ∈ fp, H' b = none) ∧ W i n σ' H') ?_ m0 ⟨0, σ, H2, I2, st2, fun b hb => (f2 b hb).1, w0⟩
  rintro n s3 ⟨i, σ3, H3, I3, st3, fr3, w3⟩
  rcases turn i n σ3 H3 w3 with ⟨stop, qn⟩ | ⟨go, N, hN, step⟩
  · refine wpAny_passesOwn hp (thn (T.done X rfl rfl rfl hc i pins s3 σ3 H3 X.xe I3 (stat fr3) st3 stop) fun r s4 zr1211 => ?_)
    obtain ⟨hr, I4⟩ := zr1211
    subst hr
    exact wpAny_execs_nil ⟨σ3, H3, I4, qn⟩
  · refine wpAny_passesOwn hp (thn (T.item X rfl rfl rfl hc i pins s3 σ3 H3 X.xe I3 (stat fr3) st3 go) fun r s4 zr1214 => ?_)
    obtain ⟨u, hr, h4⟩ := zr1214
    subst hr
    refine wpAny_passesOwn hp (thn h4 fun _ s5 zr1216 => ?_)
    obtain ⟨x, H5, I5, r5, y5, st5, fr5⟩ := zr1216
    have I5' := I5.pinned (stat fr5) (T.obj _ _ st5)
    refine wpAny_passesOwn hp (thn (hg _ s5 σ3 H5 x u _ I5' r5 (step x H5 y5)) fun _ s6 zr1218 => ?_)
    obtain ⟨σ6, H6, I6, q6⟩ := zr1218
    refine wpAny_passesOwn hp (thn (hb _ s6 σ6 H6 _ I6 q6) fun f s7 q7 => ?_)
    have again : ∀ {σ7 : St} {H7 : Hp}, Inv X (pins ++ pinsAt fp s5.heap) σ7 H7 s7 → N σ7 H7 → ∃ m, m < n ∧ ∃ i σ' H', Inv X pins σ' H' s7 ∧ tn i s7.heap ∧ (∀ b ∈ fp, H' b = none) ∧ W i m σ' H' := fun {σ7 H7} I7 n7 => by
      obtain ⟨m', hm, w7⟩ := hN σ7 H7 n7
      refine ⟨m', hm, i + 1, σ7, H7, I7.unpinned, T.keep _ _ _ st5 fun b hb o e => (I7.pin (b, o) (List.mem_append_right _ (List.mem_append_right _ (mem_pinsAt hb e)))).1, fun b hb => ?_, w7⟩
      obtain ⟨o, e, d⟩ := T.obj _ _ st5 b hb
      exact (I7.pin (b, o) (List.mem_append_right _ (List.mem_append_right _ (mem_pinsAt hb e)))).2.1
    cases f with
    | next => obtain ⟨σ7, H7, I7, n7⟩ := q7; exact again I7 n7
    | cont => obtain ⟨σ7, H7, I7, n7⟩ := q7; exact again I7 n7
    | brk => obtain ⟨σ7, H7, I7, q7⟩ := q7; exact ⟨σ7, H7, I7.unpinned, q7⟩
    | ret v => obtain ⟨x7, σ7, H7, I7, r7, q7⟩ := q7; exact ⟨x7, σ7, H7, I7.unpinned, r7, q7⟩
end
end L2
namespace L2
open PySem PySem.Spec PyProof.Rows
noncomputable abbrev R2 := V → V → Hp → VK → Prop
noncomputable def OpR (X : Cx) (f : Value → Value → Sem Value) (r : R2) : Prop :=
  ∀ (pins : List (Addr × Obj)) (s : Shared) (σ : St) (H : Hp) (x y : V) (v u : Value) (Q : VK), Inv X pins σ H s → RelV x v → RelV y u → r x y H Q →
    wpAny (model X.prog X.w) X.A (f v u) (EP X pins σ Q) X.xe s
noncomputable def UnR (X : Cx) (f : Value → Sem Value) (r : V → Hp → VK → Prop) : Prop :=
  ∀ (pins : List (Addr × Obj)) (s : Shared) (σ : St) (H : Hp) (x : V) (v : Value) (Q : VK), Inv X pins σ H s → RelV x v → r x H Q →
    wpAny (model X.prog X.w) X.A (f v) (EP X pins σ Q) X.xe s
noncomputable def CallR (X : Cx) (f : Value) (r : List V → Hp → VK → Prop) : Prop :=
  ∀ (pins : List (Addr × Obj)) (s : Shared) (σ : St) (H : Hp) (xs : List V) (us : List Value) (Q : VK), Inv X pins σ H s → Vals xs us → r xs H Q →
    wpAny (model X.prog X.w) X.A (call f us) (EP X pins σ Q) X.xe s
noncomputable def tOp (r : R2) (ta tb : TE) : TE := fun σ H Q => ta σ H fun x H1 => tb σ H1 fun y H2 => r x y H2 Q
noncomputable def tUn (r : V → Hp → VK → Prop) (ta : TE) : TE := fun σ H Q => ta σ H fun x H1 => r x H1 Q
noncomputable def rI (C : Int → Int → Prop) (g : Int → Int → V) : R2 := fun x y H Q => ∃ i j, x = .int i ∧ y = .int j ∧ C i j ∧ Q (g i j) H
noncomputable def rI0 (g : Int → Int → V) : R2 := fun x y H Q => ∃ i j, x = .int i ∧ y = .int j ∧ Q (g i j) H
noncomputable def rU (g : Int → V) : V → Hp → VK → Prop := fun x H Q => ∃ i, x = .int i ∧ Q (g i) H
section
variable {X : Cx} {a b c : Expr} {ta tb tc : TE} {pos : Pos}
theorem binT (ha : PE X a ta) (hb : PE X b tb) {pins : List (Addr × Obj)} {s : Shared} {σ : St} {H : Hp} {R : V → V → Hp → Prop} (I : Inv X pins σ H s)
    (h : ta σ H fun x H1 => tb σ H1 fun y H2 => R x y H2) {Q : Value → Shared → Prop} {f : Value → Value → Sem Value}
    (hf : ∀ v u s2 x y H2, Inv X pins σ H2 s2 → RelV x v → RelV y u → R x y H2 → wpAny (model X.prog X.w) X.A (f v u) Q X.xe s2) :
    wpAny (model X.prog X.w) X.A (eval a X.env) (fun v s₁ => wpAny (model X.prog X.w) X.A (eval b X.env) (fun u s₂ => wpAny (model X.prog X.w) X.A (f v u) Q X.xe s₂) X.xe s₁) X.xe s := by
  refine thn (ha pins s σ H _ I h) fun v s1 zr1255 => ?_
  obtain ⟨x, H1, I1, r1, q1⟩ := zr1255
  refine thn (hb pins s1 σ H1 _ I1 q1) fun u s2 zr1256 => ?_
  obtain ⟨y, H2, I2, r2, q2⟩ := zr1256
  exact hf v u s2 x y H2 I2 r1 r2 q2
theorem pe_op {op : Operator} {r : R2} (ho : OpR X (binaryOp op) r) (ha : PE X a ta) (hb : PE X b tb) : PE X (.BinOp a op b pos) (tOp r ta tb) := by
  intro pins s σ H Q I h
  exact wpAny_BinOp (binT ha hb I h fun v u s2 x y H2 I2 rx ry q => ho pins s2 σ H2 x y v u Q I2 rx ry q)
theorem pe_un {op : UnaryOp} {r : V → Hp → VK → Prop} (ho : UnR X (unaryOp op) r) (ha : PE X a ta) : PE X (.UnaryOp op a pos) (tUn r ta) := by
  intro pins s σ H Q I h
  exact UnaryOp_ (thn (ha pins s σ H _ I h) fun v s1 zq2 => by obtain ⟨x, H1, I1, r1, q1⟩ := zq2; exact (ho pins s1 σ H1 x v Q I1 r1 q1))
theorem opI {f : Value → Value → Sem Value} {C : Int → Int → Prop} {g : Int → Int → Int}
    (rule : ∀ (i j : Int) (t u : Tok) (s : Shared) (Q : Value → Shared → Prop) (E : Value → Shared → Prop), C i j → Q (.int (g i j) s.toks) { s with toks := s.toks + 1 } → wpAny (model X.prog X.w) X.A (f (.int i t) (.int j u)) Q E s) :
    OpR X f (rI C fun i j => .int (g i j)) := by
  intro pins s σ H x y v u Q I rx ry h
  obtain ⟨i, j, rfl, rfl, hc, q⟩ := h
  obtain ⟨t, rfl⟩ := rx
  obtain ⟨t', rfl⟩ := ry
  exact rule i j t t' s _ _ hc ⟨.int (g i j), H, I.tok _, ⟨_, rfl⟩, q⟩
theorem opI0 {f : Value → Value → Sem Value} {g : Int → Int → Int}
    (rule : ∀ (i j : Int) (t u : Tok) (s : Shared) (Q : Value → Shared → Prop) (E : Value → Shared → Prop), Q (.int (g i j) s.toks) { s with toks := s.toks + 1 } → wpAny (model X.prog X.w) X.A (f (.int i t) (.int j u)) Q E s) :
    OpR X f (rI0 fun i j => .int (g i j)) := by
  intro pins s σ H x y v u Q I rx ry h
  obtain ⟨i, j, rfl, rfl, q⟩ := h
  obtain ⟨t, rfl⟩ := rx
  obtain ⟨t', rfl⟩ := ry
  exact rule i j t t' s _ _ ⟨.int (g i j), H, I.tok _, ⟨_, rfl⟩, q⟩
theorem opB0 {f : Value → Value → Sem Value} {g : Int → Int → Bool}
    (rule : ∀ (i j : Int) (t u : Tok) (s : Shared) (Q : Value → Shared → Prop) (E : Value → Shared → Prop), Q (.bool (g i j)) s → wpAny (model X.prog X.w) X.A (f (.int i t) (.int j u)) Q E s) :
    OpR X f (rI0 fun i j => .bl (g i j)) := by
  intro pins s σ H x y v u Q I rx ry h
  obtain ⟨i, j, rfl, rfl, q⟩ := h
  obtain ⟨t, rfl⟩ := rx
  obtain ⟨t', rfl⟩ := ry
  exact rule i j t t' s _ _ ⟨.bl (g i j), H, I, rfl, q⟩
noncomputable def CPow (i j : Int) : Prop := 0 ≤ j ∧ j ≤ 1000000 ∧ i.natAbs < 2 ^ 64
noncomputable def CMul (i j : Int) : Prop := (-(2 ^ 64) < i ∧ i < 2 ^ 64) ∨ (-(2 ^ 64) < j ∧ j < 2 ^ 64)
theorem CMul.ok {i j : Int} (h : CMul i j) : IntMulOk i j := by
  rcases h with ⟨h1, h2⟩ | ⟨h1, h2⟩
  · exact .of_left (intBits_le_64 h1 h2)
  · exact .of_right (intBits_le_64 h1 h2)
theorem op_add : OpR X (binaryOp .Add) (rI0 fun i j => .int (i + j)) := opI0 fun _ _ _ _ _ _ _ q => add_int q
theorem op_sub : OpR X (binaryOp .Sub) (rI0 fun i j => .int (i - j)) := opI0 fun _ _ _ _ _ _ _ q => sub_int q
theorem op_mul : OpR X (binaryOp .Mult) (rI CMul fun i j => .int (i * j)) := opI fun _ _ _ _ _ _ _ hc q => mul_int q hc.ok
theorem op_mod : OpR X (binaryOp .Mod) (rI (fun _ j => 0 < j) fun i j => .int (i % j)) := opI fun i j _ _ _ _ _ hc q => by
  have h1 : (0 : Int) < j := hc
  exact mod_int' (by omega) (by rw [Int.fmod_eq_emod_of_nonneg i (by omega)]; exact q)
theorem op_pow : OpR X (binaryOp .Pow) (rI CPow fun i j => .int (i ^ j.toNat)) := opI fun _ _ _ _ _ _ _ hc q => pow_int_small hc.1 hc.2.1 hc.2.2 q
theorem unI {f : Value → Sem Value} {g : Int → Int}
    (rule : ∀ (i : Int) (t : Tok) (s : Shared) (Q : Value → Shared → Prop) (E : Value → Shared → Prop), Q (.int (g i) s.toks) { s with toks := s.toks + 1 } → wpAny (model X.prog X.w) X.A (f (.int i t)) Q E s) :
    UnR X f (rU fun i => .int (g i)) := by
  intro pins s σ H x v Q I rx h
  obtain ⟨i, rfl, q⟩ := h
  obtain ⟨t, rfl⟩ := rx
  exact rule i t s _ _ ⟨.int (g i), H, I.tok _, ⟨_, rfl⟩, q⟩
theorem un_neg : UnR X (unaryOp .USub) (rU fun i => .int (-i)) := unI fun _ _ _ _ _ q => neg_int q
end
noncomputable def scal : V → V → Bool
  | .non, .non => true | .non, .int _ => true | .int _, .non => true | .non, .bl _ => true | .bl _, .non => true | .non, .str _ => true | .str _, .non => true
  | .int _, .int _ => true | .bl _, .bl _ => true | .str _, .str _ => true | .byt _, .byt _ => true
  | .int _, .str _ => true | .str _, .int _ => true | .bl _, .str _ => true | .str _, .bl _ => true
  | _, _ => false
noncomputable def rEq : R2 := fun x y H Q => scal x y = true ∧ Q (.bl (decide (x = y))) H
theorem dec_int {i j : Int} : decide (V.int i = V.int j) = (i == j) := by
  rw [Bool.eq_iff_iff]
  simp
theorem dec_bl {i j : Bool} : decide (V.bl i = V.bl j) = (i == j) := by
  rw [Bool.eq_iff_iff]
  simp
theorem dec_str {i j : Str} : decide (V.str i = V.str j) = (i == j) := by
  rw [Bool.eq_iff_iff]
  simp
theorem dec_byt {i j : Array UInt8} : decide (V.byt i = V.byt j) = (i.toList == j.toList) := by
  rw [Bool.eq_iff_iff]
  cases i
  cases j
  simp
section
variable {X : Cx} {a b c : Expr} {ta tb tc : TE} {pos : Pos}
theorem fin_bl {pins : List (Addr × Obj)} {σ : St} {H : Hp} {s : Shared} {Q : VK} {k k' : Bool} (I : Inv X pins σ H s) (q : Q (.bl k) H) (e : k = k') : EP X pins σ Q (.bool k') s := by
  subst e
  exact ⟨.bl k, H, I, rfl, q⟩
theorem op_eq : OpR X (compareOp .Eq) rEq := by
  intro pins s σ H x y v u Q I rx ry h
  obtain ⟨hs, q⟩ := h
  cases x with
  | non =>
    cases rx
    cases y with
    | non => cases ry; exact PySem.EqNone.eq_none_none (fin_bl I q (by simp))
    | bl j => cases ry; exact PySem.EqNone.eq_none_bool (fin_bl I q (by simp))
    | int j => obtain ⟨t', rfl⟩ := ry; exact PySem.EqNone.eq_none_int (fin_bl I q (by simp))
    | str j => obtain ⟨t', rfl⟩ := ry; exact PySem.EqNone.eq_none_str (fin_bl I q (by simp))
    | _ => exact absurd (show false = true from hs) Bool.false_ne_true
  | bl i =>
    cases rx
    cases y with
    | non => cases ry; exact PySem.EqNone.eq_bool_none (fin_bl I q (by simp))
    | bl j => cases ry; exact eq_bool (fin_bl I q dec_bl)
    | str j => obtain ⟨t', rfl⟩ := ry; exact PySem.EqMixed.eq_bool_str (fin_bl I q (by simp))
    | _ => exact absurd (show false = true from hs) Bool.false_ne_true
  | int i =>
    obtain ⟨t, rfl⟩ := rx
    cases y with
    | non => cases ry; exact PySem.EqNone.eq_int_none (fin_bl I q (by simp))
    | int j => obtain ⟨t', rfl⟩ := ry; exact eq_int (fin_bl I q dec_int)
    | str j => obtain ⟨t', rfl⟩ := ry; exact PySem.EqMixed.eq_int_str (fin_bl I q (by simp))
    | _ => exact absurd (show false = true from hs) Bool.false_ne_true
  | str i =>
    obtain ⟨t, rfl⟩ := rx
    cases y with
    | non => cases ry; exact PySem.EqNone.eq_str_none (fin_bl I q (by simp))
    | bl j => cases ry; exact PySem.EqMixed.eq_str_bool (fin_bl I q (by simp))
    | int j => obtain ⟨t', rfl⟩ := ry; exact PySem.EqMixed.eq_str_int (fin_bl I q (by simp))
    | str j => obtain ⟨t', rfl⟩ := ry; exact eq_str (fin_bl I q dec_str)
    | _ => exact absurd (show false = true from hs) Bool.false_ne_true
  | byt i =>
    obtain ⟨t, rfl⟩ := rx
    cases y with
    | byt j => obtain ⟨t', rfl⟩ := ry; exact PySem.W.eq_bytes (fin_bl I q dec_byt)
    | _ => exact absurd (show false = true from hs) Bool.false_ne_true
  | _ => cases y <;> exact absurd (show false = true from hs) Bool.false_ne_true
theorem op_le : OpR X (compareOp .LtE) (rI0 fun i j => .bl (decide (i ≤ j))) := opB0 fun _ _ _ _ _ _ _ q => le_int q
theorem op_gt : OpR X (compareOp .Gt) (rI0 fun i j => .bl (decide (j < i))) := opB0 fun _ _ _ _ _ _ _ q => gt_int q
theorem op_in_str : OpR X (compareOp .In) (fun x y H Q => ∃ i j, x = .str i ∧ y = .str j ∧ Q (.bl (!(Builtin.Str.occurrences j i 0 j.length 1).isEmpty)) H) := by
  intro pins s σ H x y v u Q I rx ry h
  obtain ⟨i, j, rfl, rfl, q⟩ := h
  obtain ⟨t, rfl⟩ := rx
  obtain ⟨t', rfl⟩ := ry
  exact in_str (fin_bl I q rfl)
theorem nomark (b : Expr) {op : CmpOp} (h : op ≠ .In := by decide) (h2 : op ≠ .NotIn := by decide) : behindInMarks op b = false := by
  have e1 : (op == CmpOp.In) = false := by cases op <;> first | rfl | exact absurd rfl h
  have e2 : (op == CmpOp.NotIn) = false := by cases op <;> first | rfl | exact absurd rfl h2
  cases b <;> simp [behindInMarks, e1, e2]
theorem pe_cmpR {op : CmpOp} {r : R2} (ho : OpR X (compareOp op) r) (ha : PE X a ta) (hb : PE X b tb) (hm : behindInMarks op b = false) : PE X (.Compare a [op] [b] pos) (tOp r ta tb) := by
  intro pins s σ H Q I h
  exact wpAny_Compare1 (binT ha hb I h fun v u s2 x y H2 I2 rx ry q => ho pins s2 σ H2 x y v u Q I2 rx ry q) hm
noncomputable def tTest (t : TE) : TT := fun σ H Q => t σ H fun x H' => ∃ k, x = .bl k ∧ Q k H'
theorem pt_cmpR {op : CmpOp} {r : R2} (ho : OpR X (compareOp op) r) (ha : PE X a ta) (hb : PE X b tb) (hm : behindInMarks op b = false) : PT X (.Compare a [op] [b] pos) (tTest (tOp r ta tb)) := by
  intro pins s σ H Q I h
  refine wpAny_isTrue_Compare1 (thn (ha pins s σ H _ I h) fun v s1 ⟨x, H1, I1, r1, q1⟩ => thn (hb pins s1 σ H1 _ I1 q1) fun u s2 ⟨y, H2, I2, r2, q2⟩ =>
    thn (ho pins s2 σ H2 x y v u _ I2 r1 r2 q2) fun c s3 ⟨z, H3, I3, r3, k, e, q3⟩ => ?_) hm
  subst e
  cases r3
  exact wpAny_truthy_bool ⟨H3, I3, q3⟩
noncomputable def tChain (r r' : R2) (ta tb tc : TE) : TE := fun σ H Q => ta σ H fun x H1 => tb σ H1 fun y H2 => r x y H2 fun z H3 => ∃ k, z = .bl k ∧
  (if k = true then tc σ H3 fun w' H4 => r' y w' H4 Q else Q (.bl false) H3)
theorem pe_chain {op op' : CmpOp} {r r' : R2} (ho : OpR X (compareOp op) r) (ho' : OpR X (compareOp op') r') (ha : PE X a ta) (hb : PE X b tb) (hc : PE X c tc)
    (hm : lastMarks [op, op'] [b, c] = false := by with_unfolding_all rfl) : PE X (.Compare a [op, op'] [b, c] pos) (tChain r r' ta tb tc) := by
  intro pins s σ H Q I h
  refine Compare_chain (thn (ha pins s σ H _ I h) fun v s1 ⟨x, H1, I1, r1, q1⟩ => chain_link (thn (hb pins s1 σ H1 _ I1 q1) fun u s2 ⟨y, H2, I2, r2, q2⟩ =>
    thn (ho pins s2 σ H2 x y v u _ I2 r1 r2 q2) fun d s3 ⟨z, H3, I3, r3, k, e, q3⟩ => ?_)) hm
  subst e
  cases r3
  refine wpAny_truthy_bool ?_
  cases k with
  | false => exact ite_ff ⟨.bl false, H3, I3, rfl, q3⟩
  | true => exact ite_tt (chain_last (thn (hc pins s3 σ H3 _ I3 q3) fun w' s4 zq3 => by obtain ⟨z', H4, I4, r4, q4⟩ := zq3; exact (ho' pins s4 σ H4 y z' u w' Q I4 r2 r4 q4)))
theorem pt_chain {op op' : CmpOp} {r r' : R2} (ho : OpR X (compareOp op) r) (ho' : OpR X (compareOp op') r') (ha : PE X a ta) (hb : PE X b tb) (hc : PE X c tc)
    (hm : lastMarks [op, op'] [b, c] = false := by with_unfolding_all rfl) : PT X (.Compare a [op, op'] [b, c] pos) (tTest (tChain r r' ta tb tc)) := by
  intro pins s σ H Q I h
  refine isTrue_chain (thn (ha pins s σ H _ I h) fun v s1 ⟨x, H1, I1, r1, q1⟩ => test_link (thn (hb pins s1 σ H1 _ I1 q1) fun u s2 ⟨y, H2, I2, r2, q2⟩ =>
    thn (ho pins s2 σ H2 x y v u _ I2 r1 r2 q2) fun d s3 ⟨z, H3, I3, r3, k, e, q3⟩ => ?_)) hm
  subst e
  cases r3
  refine wpAny_truthy_bool ?_
  cases k with
  | false =>
    obtain ⟨k', e', q'⟩ := q3
    cases e'
    exact ite_ff ⟨H3, I3, q'⟩
  | true =>
    refine ite_tt (test_last (thn (hc pins s3 σ H3 _ I3 q3) fun w' s4 ⟨z', H4, I4, r4, q4⟩ => thn (ho' pins s4 σ H4 y z' u w' _ I4 r2 r4 q4) fun d' s5 zr1425 => ?_))
    obtain ⟨z2, H5, I5, r5, k2, e2, q5⟩ := zr1425
    subst e2
    cases r5
    exact wpAny_truthy_bool ⟨H5, I5, q5⟩
theorem line63 : (sizeLine : Nat) < 2 ^ 63 := by rw [sizeLine_eq]; decide
theorem op_add_str : OpR X (binaryOp .Add) (fun x y H Q => ∃ i j, x = .str i ∧ y = .str j ∧ i.length + j.length ≤ sizeLine ∧ Q (.str (i ++ j)) H) := by
  intro pins s σ H x y v u Q I rx ry h
  obtain ⟨i, j, rfl, rfl, hz, q⟩ := h
  obtain ⟨t, rfl⟩ := rx
  obtain ⟨t', rfl⟩ := ry
  exact add_str (fun t' tk => ⟨.str (i ++ j), H, I.tok _, ⟨_, rfl⟩, q⟩) hz
theorem vals1 {x : V} {us : List Value} (r : Vals [x] us) : ∃ u, us = [u] ∧ RelV x u := by
  cases r with
  | cons r1 r2 => cases r2; exact ⟨_, rfl, r1⟩
theorem vals2 {x y : V} {us : List Value} (r : Vals [x, y] us) : ∃ u w', us = [u, w'] ∧ RelV x u ∧ RelV y w' := by
  cases r with
  | cons r1 r2 =>
    cases r2 with
    | cons r3 r4 => cases r4; exact ⟨_, _, rfl, r1, r3⟩
theorem call_max2 (hc : X.calm = true) : CallR X (.builtin "max") (fun xs H Q => ∃ i j, xs = [.int i, .int j] ∧ Q (.int (if j > i then j else i)) H) := by
  intro pins s σ H xs us Q I r h
  obtain ⟨i, j, rfl, q⟩ := h
  obtain ⟨u, w', rfl, ⟨t, rfl⟩, ⟨t', rfl⟩⟩ := vals2 r
  refine max_two_ints (I.ok.hd hc) fun h' tk k => ⟨_, H, I.kept k, ?_, q⟩
  by_cases hj : j > i
  · rw [if_pos hj, if_pos hj]; exact ⟨_, rfl⟩
  · rw [if_neg hj, if_neg hj]; exact ⟨_, rfl⟩
end
end L2
namespace L2
open PySem PySem.Spec PyProof.Rows
structure ObjM (h : Heap) (x dx C : Addr) (mA : Str → Option Value) : Prop where
  obj : h.get? x = some (PySem.W.instObj C dx)
  ns : h.Ns1 dx mA
  ne : dx ≠ x
theorem lookIn_ns {h : Heap} {dx : Addr} {mA : Str → Option Value} (n : h.Ns1 dx mA) : ∃ od, h.get? dx = some od ∧ ∀ name, PySem.W.lookIn name od = some (mA name) := by
  obtain ⟨o, es, ep, ho, hd, hk, _, hm⟩ := n
  refine ⟨o, ho, fun name => ?_⟩
  have e := hm name
  unfold nsFind findBy at e
  rw [← Array.find?_toList] at e
  unfold PySem.W.lookIn
  rw [hd]
  dsimp only
  split
  · rename_i y q
    rw [q] at e
    exact congrArg some e
  · rename_i q
    rw [q] at e
    have a : es.toList.any (·.refKey) = false := by
      rw [List.any_eq_false]
      intro y hy
      obtain ⟨z, t, hkey⟩ := hk y (Array.mem_toList_iff.mp hy)
      simp [DictEntry.refKey, hkey]
    have a' : ¬ es.toList.any (·.refKey) = true := by rw [a]; exact Bool.false_ne_true
    rw [if_neg a']
    exact congrArg some e
theorem ObjM.look {h : Heap} {x dx C : Addr} {mA : Str → Option Value} (I : ObjM h x dx C mA) : ∃ od, PySem.W.InstAt h x (PySem.W.instObj C dx) C (some od) ∧ ∀ name, PySem.W.lookIn name od = some (mA name) :=
  let ⟨od, ho, hl⟩ := lookIn_ns I.ns
  ⟨od, ⟨I.obj, rfl, rfl, ho⟩, hl⟩
section
variable {prog : Program} {w : World} {A : Around} {E : Value → Shared → Prop} {s : Shared} {K : PySem.W.Frag} {x dx C f : Addr} {mA : Str → Option Value} {name : Str} {v : Value}
end
theorem RelO.some_of {v : V} {o : Option Value} (r : RelO (some v) o) : ∃ u, o = some u ∧ RelV v u := by
  cases o with
  | none => exact (show False from r).elim
  | some u => exact ⟨u, rfl, r⟩
section
variable {P : Program} {w : World} {H H' : Hp} {h h' : Heap} {a C dx : Addr} {fs fs' : List (Str × V)}
theorem ins_get (hok : HOk P w H h) (e : H a = some (.ins C dx fs)) : ∃ mA, ObjM h a dx C mA ∧ (∀ f, RelO (fs.lookup f) (mA f)) ∧ PySem.Within mA (fs.map (·.1)) ∧ fs.length ≤ 1000 ∧ H dx = some (.own a) := by
  obtain ⟨d, z, ne, ob, mA, n, r, q⟩ := (show ObjOk P w H h a (.ins C dx fs) from hok a _ e)
  exact ⟨mA, ⟨ob, n, ne⟩, r, q, z, d⟩
end
structure Cls (K : PySem.W.Frag) (C : Addr) : Prop where
  pg : PySem.W.plainGet K C Str.empty = true
  hd : PySem.W.hasDictIn K C = true
  po : PySem.W.plainOver K C = true
  sa : PySem.W.findIn K (.ref C) "__setattr__" = some (some (.builtin "object.__setattr__"))
theorem Cls.get {K : PySem.W.Frag} {C : Addr} (c : Cls K C) (f : Str) : PySem.W.plainGet K C f = true := c.pg
section
variable {X : Cx} {pins : List (Addr × Obj)} {σ : St} {H : Hp} {s : Shared} {a C dx : Addr} {fs : List (Str × V)} {f : Str} {v : V} {A : Around} {E : Value → Shared → Prop}
end
section
variable {X : Cx} {o e value : Expr} {f : Str} {pos pos' tpos : Pos} {ta tv : TE}
end
section
variable {X : Cx} {pins : List (Addr × Obj)} {σ : St} {H : Hp} {s : Shared} {A : Around} {E : Value → Shared → Prop} {Q : Value → Shared → Prop} {c : Value} {b : Bool}
inductive TyOf (K : PySem.W.Frag) (H : Hp) : V → Value → Prop where
  | non : TyOf K H .non (.type "NoneType")
  | bl (x : Bool) : TyOf K H (.bl x) (.type "bool")
  | int (i : Int) : TyOf K H (.int i) (.type "int")
  | str (x : Str) : TyOf K H (.str x) (.type "str")
  | flt (x : UInt64) : TyOf K H (.flt x) (.type "float")
  | lst {a : Addr} {xs : List V} (e : H a = some (.lst xs)) : TyOf K H (.ref a) (.type "list")
  | frz {a : Addr} {o : Obj} {xs : List V} (e : H a = some (.frz o (.lst xs))) : TyOf K H (.ref a) (.type "list")
  | tup {a : Addr} {xs : List V} (e : H a = some (.tup xs)) : TyOf K H (.ref a) (.type "tuple")
  | dK {a : Addr} {kvs : List (Key × V)} (e : H a = some (.dK kvs)) : TyOf K H (.ref a) (.type "dict")
  | dT {a : Addr} {kvs : List (List Key × V)} (e : H a = some (.dT kvs)) : TyOf K H (.ref a) (.type "dict")
  | ins {a C dx : Addr} {fs : List (Str × V)} (e : H a = some (.ins C dx fs)) (cl : Cls K C) (ha : PySem.W.findIn K (.ref C) "__class__" = some (some (.builtin "object.__class__")))
      (hn : PySem.W.specialIn K (.builtin "object.__class__") "__get__" = some (some (.builtin "getset_descriptor.__get__"))) (htk : PySem.W.takesIn K (.builtin "object.__class__") = some true)
      (hm : PySem.W.mroIn K C (.type "object") = some true) : TyOf K H (.ref a) (.ref C)
theorem isinst_ok {x : V} {u t : Value} (I : Inv X pins σ H s) (rx : RelV x u) (ty : TyOf X.K H x t) (e : PySem.W.kitOne X.K t c = some b) (h : ∀ tk, Q (.bool b) { s with toks := tk }) :
    wpAny (model X.prog X.w) A (call (.builtin "isinstance") [u, c]) Q E s := by
  cases ty with
  | non => cases (show u = Value.none from rx); exact PySem.W.kia_one PySem.W.kitx_none I.kIn True.intro e (fun z => nomatch z) h
  | bl y => cases (show u = Value.bool y from rx); exact PySem.W.kia_one PySem.W.kitx_bool I.kIn True.intro e (fun z => nomatch z) h
  | int i => obtain ⟨t, q⟩ := (show ∃ t, u = Value.int i t from rx); cases q; exact PySem.W.kia_one PySem.W.kitx_int I.kIn True.intro e (fun z => nomatch z) h
  | str y => obtain ⟨t, q⟩ := (show ∃ t, u = Value.str y t from rx); cases q; exact PySem.W.kia_one PySem.W.kitx_str I.kIn True.intro e (fun z => nomatch z) h
  | flt y => obtain ⟨t, q⟩ := (show ∃ t, u = Value.float y t from rx); cases q; exact PySem.W.kia_one PySem.W.kitx_float I.kIn True.intro e (fun z => nomatch z) h
  | @lst a xs ea =>
    cases (show u = Value.ref a from rx)
    obtain ⟨_, _, n, _, h1⟩ := (show ObjOk X.prog X.w H s.heap a (.lst xs) from I.hok a _ ea)
    exact PySem.W.kia_one PySem.W.kitx_list I.kIn ⟨_, h1, rfl⟩ e (fun z => nomatch z) h
  | @frz a ob xs ea =>
    cases (show u = Value.ref a from rx)
    obtain ⟨_, _, _, n, _, h1⟩ := (show ObjOk X.prog X.w H s.heap a (.frz ob (.lst xs)) from I.hok a _ ea)
    exact PySem.W.kia_one PySem.W.kitx_list I.kIn ⟨_, h1, rfl⟩ e (fun z => nomatch z) h
  | @tup a xs ea =>
    cases (show u = Value.ref a from rx)
    obtain ⟨_, _, _, p⟩ := (show ObjOk X.prog X.w H s.heap a (.tup xs) from I.hok a _ ea)
    obtain ⟨o, h1, h2, _⟩ := p
    exact PySem.W.kia_one PySem.W.kitx_tuple I.kIn ⟨o, h1, h2⟩ e (fun z => nomatch z) h
  | @dK a kvs ea =>
    cases (show u = Value.ref a from rx)
    obtain ⟨_, _, vs, _, p⟩ := (show ObjOk X.prog X.w H s.heap a (.dK kvs) from I.hok a _ ea)
    obtain ⟨o, es, ep, h1, h2, _⟩ := p
    exact PySem.W.kia_one PySem.W.kitx_dict I.kIn ⟨o, h1, h2.1⟩ e (fun z => nomatch z) h
  | @dT a kvs ea =>
    cases (show u = Value.ref a from rx)
    obtain ⟨_, _, xs, _, o, es, ep, h1, h2, _⟩ := (show ObjOk X.prog X.w H s.heap a (.dT kvs) from I.hok a _ ea)
    exact PySem.W.kia_one PySem.W.kitx_dict I.kIn ⟨o, h1, h2.1⟩ e (fun z => nomatch z) h
  | @ins a C dx fs ea cl ha hn htk hm =>
    cases (show u = Value.ref a from rx)
    obtain ⟨mA, O, _⟩ := ins_get I.hok ea
    obtain ⟨od, J, _⟩ := O.look
    exact PySem.W.kia_one (PySem.W.kitx_own (cl.get _) cl.hd ha hn htk hm) I.kIn J e (fun z => nomatch z) h
end
end L2
namespace L2
open PySem PySem.Spec PyProof.Rows
structure Room (k : Nat) (A : Around) : Prop where
  hd : A.handled = none
  dp : A.depth + 3 * k + 5 < recursionLimit
  un : A.units + 16 * k + 200 < cLine
theorem Room.mono {j k : Nat} {A : Around} (r : Room k A) (h : j ≤ k) : Room j A := ⟨r.hd, by have := r.dp; omega, by have := r.un; omega⟩
theorem Room.deeper {k : Nat} {A : Around} (r : Room (k + 1) A) (env : Env) : Room k (A.deeper env) :=
  ⟨r.hd, by have := r.dp; show A.depth + 1 + 3 * k + 5 < _; omega, by have := r.un; show A.units + 3 + 16 * k + 200 < _; omega⟩
theorem Room.depth {k : Nat} {A : Around} (r : Room k A) : A.depth < recursionLimit := by have := r.dp; omega
theorem Room.units {k : Nat} {A : Around} (r : Room k A) : A.units + 64 < cLine := by have := r.un; omega
noncomputable def tNil : TA := fun _ H Q => Q [] H
noncomputable def tCons (ta : TE) (tr : TA) : TA := fun σ H Q => ta σ H fun x H1 => tr σ H1 fun xs H2 => Q (x :: xs) H2
section
variable {X : Cx} {e : Expr} {es : List Expr} {te : TE} {t : TA} {pos : Pos}
theorem pa_nil : PA X [] tNil := fun _ _ _ _ H Q I h => Calls.spliced_nil ⟨[], H, I, .nil, h⟩
theorem pa_cons (ha : PE X e te) (hr : PA X es t) (hs : starEach (e :: es) X.env = (false, eval e X.env) :: starEach es X.env := by rfl) : PA X (e :: es) (tCons te t) := by
  intro pos pins s σ H Q I h
  rw [hs]
  show wpAny _ _ (spliced ((false, eval e X.env) :: backTo pos (starEach es X.env))) _ _ s
  refine Calls.spliced_cons (thn (ha pins s σ H _ I h) fun u s1 zr1584 => ?_)
  obtain ⟨x, H1, I1, r1, q1⟩ := zr1584
  exact thn (hr pos pins s1 σ H1 _ I1 q1) fun us s2 zq4 => by obtain ⟨xs, H2, I2, r2, q2⟩ := zq4; exact (⟨x :: xs, H2, I2, .cons r1 r2, q2⟩)
noncomputable def tTup (t : TA) : TE := fun σ H Q => t σ H fun xs H1 => xs.length ≤ sizeLine ∧ ∀ p, H1 p = none → Q (.ref p) (upd H1 p (.tup xs))
noncomputable def tLst (t : TA) : TE := fun σ H Q => t σ H fun xs H1 => xs.length ≤ sizeLine ∧ ∀ p, H1 p = none → Q (.ref p) (upd H1 p (.lst xs))
theorem pe_tup {x1} (h : PA X es t) : PE X (.Tuple es x1 pos) (tTup t) := by
  intro pins s σ H Q I hq
  refine wpAny_Tuple_spliced (thn (h pos pins s σ H _ I hq) fun us s1 ⟨xs, H1, I1, r, z, q⟩ => ⟨by rw [← r.length]; exact z, ?_⟩)
  have hf : H1 s1.heap.objs.size = none := I1.hok.fresh (Nat.le_refl _)
  refine ⟨.ref s1.heap.objs.size, upd H1 s1.heap.objs.size (.tup xs), I1.laid (t' := s1.toks) (fun b u e => Heap.get?_push_of_some _ e) (Nat.le_refl _) ?_, rfl, q _ hf⟩
  exact ⟨z, us, r, ⟨_, Heap.get?_push_size _ rfl, rfl, _, rfl⟩⟩
theorem pe_lst (h : PA X es t) : PE X (.List es pos) (tLst t) := by
  intro pins s σ H Q I hq
  refine wpAny_List_spliced (thn (h pos pins s σ H _ I hq) fun us s1 ⟨xs, H1, I1, r, z, q⟩ => ⟨by rw [← r.length]; exact z, ?_⟩)
  have hf : H1 s1.heap.objs.size = none := I1.hok.fresh (Nat.le_refl _)
  refine ⟨.ref s1.heap.objs.size, upd H1 s1.heap.objs.size (.lst xs), I1.laid (t' := s1.toks) (fun b u e => Heap.get?_push_of_some _ e) (Nat.le_refl _) ?_, rfl, q _ hf⟩
  exact ⟨z, us, 0, r, Heap.get?_push_size _ rfl⟩
end
noncomputable abbrev Sp := List V → Hp → VK → XK → Prop
noncomputable abbrev CXT := List Env → Hp → Shared → XK → Value → Shared → Prop
structure Env0 (P : Program) (w : World) (K : PySem.W.Frag) (mg : Str → Option Value) (base : Heap) (A : Around) (outer : List Env) (s : Shared) (H : Hp) : Prop where
  frames : A.frames = some outer
  mod : Mod K mg base
  bs : ∀ b o, base.get? b = some o → s.heap.get? b = some o ∧ H b = none
  bsz : base.objs.size ≤ s.heap.objs.size
  funs : s.heap.FunFrames base outer
  frf : ∀ b ∈ frs outer, H b = none
  hok : HOk P w H s.heap
  bare : AllBare s.gens
noncomputable def CE (outer : List Env) (P : Program) (w : World) (H : Hp) (s : Shared) (Q : VK) (u : Value) (s' : Shared) : Prop :=
  ∃ v H', s'.os = s.os ∧ AllBare s'.gens ∧ Un (frs outer) [] H H' s.heap s'.heap ∧ HOk P w H' s'.heap ∧ RelV v u ∧ Q v H'
noncomputable def CR (CX : CXT) (outer : List Env) (P : Program) (w : World) (H : Hp) (s : Shared) (Q : VK) (E : XK) (r : Result) (s' : Shared) : Prop :=
  match r with
  | .ok (.ret u) => CE outer P w H s Q u s'
  | .ok _ => False
  | .error e => CX outer H s E e s'
structure FnOk (P : Program) (w : World) (K : PySem.W.Frag) (mg : Str → Option Value) (base : Heap) (CX : CXT) (k : Nat) (f : Addr) (fd : FuncData) (ps : List Str) (sp : Sp) : Prop where
  len : ∀ vs H Q E, sp vs H Q E → vs.length = ps.length
  run : ∀ (A : Around) (outer : List Env) (s : Shared) (H : Hp) (args : Args) (us : List Value) (vs : List V) (Q : VK) (E : XK), Room k A → Env0 P w K mg base A outer s H → BindsTo s fd args (ps.zip us) → Vals vs us → sp vs H Q E →
    codeAny (model P w) A (.call (.ref f) args) (CR CX outer P w H s Q E) s
section
variable {X : Cx} {pins : List (Addr × Obj)} {σ : St} {H : Hp} {s s' : Shared}
theorem Inv.env0 (I : Inv X pins σ H s) : Env0 X.prog X.w X.K X.mg X.base X.A X.stack s H :=
  ⟨I.ok.frames, I.ok.mod, I.bs, Nat.le_trans I.ok.bsz I.sz, I.stack, I.stkFree, I.hok, I.bare⟩
theorem Inv.after {Q : VK} {u : Value} (I : Inv X pins σ H s) (h : CE X.stack X.prog X.w H s Q u s') : EP X pins σ Q u s' := by
  obtain ⟨v, H', os, bare, un, hok, r, q⟩ := h
  obtain ⟨hh, g, d, t, os'⟩ := s'
  obtain rfl : os' = s.os := os
  exact ⟨v, H', I.call (h' := hh) (g' := g) (d' := d) (t' := t) (ch := []) un hok bare (fun b z => absurd z (by simp)), r, q⟩
end
noncomputable def tCall (sp : Sp) (dvs : List V) (E : XK) (t : TA) : TE := fun σ H Q => t σ H fun vs H1 => sp (vs ++ dvs) H1 Q E
noncomputable def Binds (K : PySem.W.Frag) (fd : FuncData) (ps : List Str) (ds : List Value) : Prop :=
  ∀ (s : Shared) (us : List Value), K.In s.heap → (us ++ ds).length = ps.length → BindsTo s fd ⟨us, []⟩ (ps.zip (us ++ ds))
theorem Binds.all {K : PySem.W.Frag} {fd : FuncData} {ps : List Str} (h : ∀ us : List Value, us.length = ps.length → bindArgs fd ⟨us, []⟩ = pure (ps.zip us)) : Binds K fd ps [] := fun s us _ hl => by
  rw [List.append_nil] at hl ⊢
  exact .of_eq (h us hl)
noncomputable def Passes (CX : CXT) (X : Cx) (E : XK) : Prop := ∀ (pins : List (Addr × Obj)) (σ : St) (H : Hp) (s : Shared) (e : Value) (s' : Shared), Inv X pins σ H s → CX X.stack H s E e s' → X.xe e s'
section
variable {X : Cx} {CX : CXT} {k : Nat} {f C : Addr} {fd : FuncData} {ps : List Str} {sp : Sp} {dvs : List V} {ds : List Value} {E : XK} {x m : Str} {p pos apos : Pos} {e o : Expr} {es : List Expr} {ta : TE} {t : TA}
theorem run_fn {pins : List (Addr × Obj)} {σ : St} {H : Hp} {s : Shared} {Q : VK} {us : List Value} {vs : List V} (F : FnOk X.prog X.w X.K X.mg X.base CX k f fd ps sp) (hr : Room k X.A) (hb : Binds X.K fd ps ds) (hd : Vals dvs ds) (hx : Passes CX X E)
    (I : Inv X pins σ H s) (r : Vals vs us) (h : sp (vs ++ dvs) H Q E) : wpAny (model X.prog X.w) X.A (call (.ref f) us) (EP X pins σ Q) X.xe s := by
  have r2 : Vals (vs ++ dvs) (us ++ ds) := r.append hd
  have hl : (us ++ ds).length = ps.length := by rw [← r2.length]; exact F.len _ _ _ _ h
  refine wpAny_call (codeAny_mono (F.run X.A X.stack s H ⟨us, []⟩ (us ++ ds) (vs ++ dvs) Q E hr I.env0 (hb s us I.kIn hl) r2 h) fun r s' hq => ?_)
  cases r with
  | error e => exact hx pins σ H s e s' I hq
  | ok fl =>
    cases fl with
    | ret u => exact I.after hq
    | next => exact False.elim hq
    | brk => exact False.elim hq
    | cont => exact False.elim hq
theorem pe_call (F : FnOk X.prog X.w X.K X.mg X.base CX k f fd ps sp) (hr : Room k X.A) (hg : Gl X x) (hm : X.mg x = some (.ref f)) (hk : PySem.W.keepIn X.K (.ref f) = true) (hb : Binds X.K fd ps ds) (hd : Vals dvs ds) (hx : Passes CX X E)
    (ha : PA X (e :: es) t) (hdb : (x == ("__debug__" : Str)) = false := by decide) (he : starEach (e :: es) X.env = (false, eval e X.env) :: starEach es X.env := by rfl) (hpl : (backTo pos (starEach es X.env)).any (·.1) = false := by rfl) :
    PE X (.Call (.Name x p) (e :: es) [] pos) (tCall sp dvs E t) := by
  intro pins s σ H Q I h
  refine wpAny_Call_Name_kw (ld_glob I hg hm ?_ hdb)
  refine PySem.W.callWith_K (h₀ := X.base) I.ok.mod.kin hk (thn (ha pos pins s σ H _ I h) fun us s1 ⟨vs, H1, I1, r, q⟩ => ⟨I1.kIn, ?_⟩) he hpl
  exact run_fn F hr hb hd hx I1 r q
end
section
variable {X : Cx} {CX : CXT} {k : Nat} {f C : Addr} {fd : FuncData} {ps ks : List Str} {sp : Sp} {E : XK} {x m : Str} {p pos apos kpos : Pos} {e o : Expr} {es : List Expr} {kws : List Keyword} {te ta : TE} {t tk : TA} {nm : Option Str}
variable {g : List Value → List Value → List Value} {gV : List V → List V → List V}
end
structure FnScope (N P : List Str) (sc : Scope) : Prop where
  kind : sc.kind = .function
  co : sc.isCoroutine = false
  gen : sc.isGenerator = false
  nd : N.Nodup
  pre : N.take P.length = P
  par : ∀ x ∈ P, sc.names.lookup x = some .local ∨ sc.names.lookup x = some .cell
  nofree : ∀ y ∈ sc.names, y.2 ≠ .free
theorem bindL_out {kindOf : Str → Option NameKind} {x : Str} : ∀ {binds : List (Str × Value)} {m : Str → Option Value}, (∀ v, (x, v) ∉ binds) → bindL kindOf binds m x = m x
  | [], _, _ => rfl
  | (n, v) :: r, m, h => by
    unfold bindL
    rw [bindL_out fun w hw => h w (List.mem_cons_of_mem _ hw)]
    split
    · have : x ≠ n := by rintro rfl; exact h v List.mem_cons_self
      simp [this]
    · rfl
theorem bindC_out {kindOf : Str → Option NameKind} {x : Str} : ∀ {binds : List (Str × Value)} {m : Str → Option Value}, (∀ v, (x, v) ∉ binds) → bindC kindOf binds m x = m x
  | [], _, _ => rfl
  | (n, v) :: r, m, h => by
    unfold bindC
    rw [bindC_out fun w hw => h w (List.mem_cons_of_mem _ hw)]
    split
    · rfl
    · have : x ≠ n := by rintro rfl; exact h v List.mem_cons_self
      simp [this]
theorem bindL_get {kindOf : Str → Option NameKind} {x : Str} {v : Value} : ∀ {P : List Str} {vs : List Value} {i : Nat} {m : Str → Option Value}, P.Nodup → P[i]? = some x → vs[i]? = some v → kindOf x = some .local →
    bindL kindOf (P.zip vs) m x = some v
  | [], _, _, _, _, h, _, _ => by simp at h
  | _ :: _, [], _, _, _, _, h, _ => by simp at h
  | p :: P, w :: vs, 0, m, nd, h1, h2, hk => by
    simp at h1 h2; subst h1; subst h2
    show bindL kindOf ((p, w) :: P.zip vs) m p = _
    unfold bindL
    rw [bindL_out fun v hv => (List.nodup_cons.mp nd).1 (List.of_mem_zip hv).1, if_pos hk]
    simp
  | p :: P, w :: vs, i + 1, m, nd, h1, h2, hk => by
    show bindL kindOf ((p, w) :: P.zip vs) m x = _
    unfold bindL
    exact bindL_get (i := i) (List.nodup_cons.mp nd).2 (by simpa using h1) (by simpa using h2) hk
theorem bindC_get {kindOf : Str → Option NameKind} {x : Str} {v : Value} : ∀ {P : List Str} {vs : List Value} {i : Nat} {m : Str → Option Value}, P.Nodup → P[i]? = some x → vs[i]? = some v → kindOf x ≠ some .local →
    bindC kindOf (P.zip vs) m x = some v
  | [], _, _, _, _, h, _, _ => by simp at h
  | _ :: _, [], _, _, _, _, h, _ => by simp at h
  | p :: P, w :: vs, 0, m, nd, h1, h2, hk => by
    simp at h1 h2; subst h1; subst h2
    show bindC kindOf ((p, w) :: P.zip vs) m p = _
    unfold bindC
    rw [bindC_out fun v hv => (List.nodup_cons.mp nd).1 (List.of_mem_zip hv).1, if_neg hk]
    simp
  | p :: P, w :: vs, i + 1, m, nd, h1, h2, hk => by
    show bindC kindOf ((p, w) :: P.zip vs) m x = _
    unfold bindC
    exact bindC_get (i := i) (List.nodup_cons.mp nd).2 (by simpa using h1) (by simpa using h2) hk
noncomputable def start (N : List Str) (vs : List V) : St := vs.map some ++ List.replicate (N.length - vs.length) none
noncomputable def cxOf (CX : CXT) (P : Program) (w : World) (K : PySem.W.Frag) (mg : Str → Option Value) (base : Heap) (N : List Str) (qual : Str) (scope : Scope) (f : Addr) (cd : Value) (A : Around) (outer : List Env) (s : Shared) (H : Hp) (E : XK) : Cx where
  prog := P
  w := w
  K := K
  mg := mg
  base := base
  A := A.deeper (envOfC qual scope s.heap.objs.size f cd)
  N := N
  s₀ := s
  H₀ := H
  env := envOfC qual scope s.heap.objs.size f cd
  outer := outer
  stack := envOfC qual scope s.heap.objs.size f cd :: outer
  ex := []
  calm := true
  fn := fun _ => true
  pn := []
  xe := fun e s' => wpAny (model P w) (A.deeper (envOfC qual scope s.heap.objs.size f cd)) (leaving (envOfC qual scope s.heap.objs.size f cd) e) (fun _ s'' => CX outer H s E e s'') (fun e' s'' => CX outer H s E e' s'') s'
theorem cell_has {sc : Scope} {n : Nat} {x : Str} (h : sc.names.lookup x = some .cell) : ∃ c, (cellsFrom n sc.names []).lookup x = some c := by
  have q := PySem.W.cellsFrom_some sc.names n [] (.inl h)
  exact Option.isSome_iff_exists.mp q
theorem inv_start {CX : CXT} {P : Program} {w : World} {K : PySem.W.Frag} {mg : Str → Option Value} {base : Heap} {N ps : List Str} {qual : Str} {scope : Scope} {f : Addr} {cd : Value} {A : Around} {outer : List Env} {s s1 : Shared} {H : Hp} {E : XK} {us : List Value} {vs : List V}
    (S : FnScope N ps scope) (hd : A.handled = none) (e0 : Env0 P w K mg base A outer s H) (hl : vs.length = ps.length) (r : Vals vs us)
    (x : InCallC s s.heap.objs.size (bindL (envOfC qual scope s.heap.objs.size f cd).kindOf (ps.zip us) fun _ => none) (cellsFrom (s.heap.objs.size + 1) scope.names []) (bindC (envOfC qual scope s.heap.objs.size f cd).kindOf (ps.zip us) fun _ => none) s1) :
    Inv (cxOf CX P w K mg base N qual scope f cd A outer s H E) [] (start N vs) H s1 := by
  have hpl : ps.length ≤ N.length := by have := congrArg List.length S.pre; rw [List.length_take] at this; omega
  obtain ⟨h1, tk, rfl, hk⟩ := x.done
  have noA : ∀ b : Addr, b ∉ (cxOf CX P w K mg base N qual scope f cd A outer s H E).ex := fun b z => absurd (show b ∈ ([] : List Addr) from z) (by simp)
  refine ⟨⟨e0.mod, S.kind, rfl, rfl, Nat.le_refl _, fun y z c h1 h2 => ?_, fun y hy => ?_, fun y c _ h => ?_, fun _ => hd, Around.frames_deeper e0.frames, .inr ⟨rfl, rfl⟩, fun b z => absurd z (noA b), e0.bs, e0.bsz, fun b _ _ => noA b, fun b z => absurd z (noA b), e0.funs, e0.frf⟩,
    rfl, e0.bare, Un.kept hk, ⟨_, x.toInCall.ns, fun i y v h1 h2 h3 => ?_⟩, fun y c h => ⟨_, x.cell y c h⟩, e0.hok.fresh (Nat.le_refl _), fun y c h => ?_, fun p hp => absurd (show p ∈ ([] : List (Addr × Obj)) from hp) (by simp), e0.hok.kept hk, ?_⟩
  · exact name_of_addr x.apart (PySem.mem_of_lookup h1) (PySem.mem_of_lookup h2)
  · have hy : scope.names.lookup y = some .cell ∨ scope.names.lookup y = some .free := hy
    rcases hy with hy | hy
    · exact cell_has hy
    · exact absurd rfl (S.nofree _ (PySem.mem_of_lookup hy))
  · exact Nat.le_of_lt (x.above y c (PySem.mem_of_lookup h))
  · have hi : i < vs.length := by
      unfold start at h2
      by_cases hi : i < vs.length
      · exact hi
      · rw [List.getElem?_append_right (by simpa using hi)] at h2
        rw [List.getElem?_replicate] at h2
        split at h2 <;> cases h2
    have ha : vs[i]? = some v := by
      unfold start at h2
      rw [List.getElem?_append_left (by simpa using hi), List.getElem?_map] at h2
      cases e : vs[i]? with
      | none => rw [e] at h2; cases h2
      | some a => rw [e] at h2; cases h2; rfl
    obtain ⟨u, hu, rv⟩ := r.get ha
    have hp : ps[i]? = some y := by
      rw [← S.pre, List.getElem?_take_of_lt (by omega)]; exact h1
    have ndP : ps.Nodup := by rw [← S.pre]; exact S.nd.sublist (List.take_sublist _ _)
    refine ⟨u, rv, ?_⟩
    rcases S.par y (List.mem_of_getElem? hp) with k | k
    · exact .inl ⟨k, bindL_get ndP hp hu k⟩
    · obtain ⟨c, e⟩ := cell_has (n := s.heap.objs.size + 1) k
      refine .inr ⟨.inl k, c, e, ?_⟩
      have q := x.cell y c e
      rw [bindC_get ndP hp hu (by show scope.names.lookup y ≠ _; rw [k]; decide)] at q
      exact q
  · exact e0.hok.fresh (Nat.le_of_lt (x.above y c (PySem.mem_of_lookup h)))
  · unfold start
    show _ = N.length
    rw [List.length_append, List.length_map, List.length_replicate]
    omega
theorem fn_of {CX : CXT} {P : Program} {w : World} {K : PySem.W.Frag} {mg : Str → Option Value} {base : Heap} {k : Nat} {f : Addr} {name qual : Str} {params : Arguments} {body : List Stmt} {scope : Scope} {dV kV doc pm cdv ct oc : Value} {an od : Option Addr}
    {osl : Array (Option Value)} {N ps : List Str} {sp : Sp} (lk : K.lookup f = some ⟨oc, od, .func (PySem.W.fnOf name qual params body scope dV kV doc pm an cdv ct), osl⟩) (hcd : PySem.W.codeIn K cdv qual = true) (S : FnScope N ps scope)
    (len : ∀ vs H Q E, sp vs H Q E → vs.length = ps.length)
    (hbody : ∀ (A : Around) (outer : List Env) (s : Shared) (H : Hp) (vs : List V) (Q : VK) (E : XK), Room k (A.deeper (envOfC qual scope s.heap.objs.size f cdv)) → sp vs H Q E →
      ∃ t, PSs (cxOf CX P w K mg base N qual scope f cdv A outer s H E) body t ∧ t { nx := fun _ H' => Q .non H', rt := Q } (start N vs) H) :
    FnOk P w K mg base CX (k + 1) f (PySem.W.fnOf name qual params body scope dV kV doc pm an cdv ct) ps sp := by
  refine ⟨len, fun A outer s H args us vs Q E hr e0 hb r hsp => ?_⟩
  have hl := len _ _ _ _ hsp
  have KX : K.In s.heap := e0.mod.kin.keeps fun b o e => (e0.bs b o e).1
  have lim : s.heap.NoLimit := e0.mod.nolimit.keeps fun b o e => (e0.bs b o e).1
  have hkind : ∀ y ∈ ps.zip us, scope.names.lookup y.1 = some .local ∨ (scope.names.lookup y.1 = some .cell ∧ ((cellsFrom (s.heap.objs.size + 1) scope.names []).lookup y.1).isSome = true) := fun ⟨n, v⟩ hy => by
    rcases S.par n (List.of_mem_zip hy).1 with q | q
    · exact .inl q
    · exact .inr ⟨q, PySem.W.cellsFrom_some _ _ _ (.inl q)⟩
  refine codeAny_call_function hr.depth (KX _ _ lk) rfl S.co S.gen rfl (PySem.W.codeRec_of KX hcd) (hb _ _ _ _ ?_)
  refine wpAny_newFunctionEnv_cells S.kind hkind fun env he s1 x => ?_
  subst he
  refine ⟨lim.keeps x.toInCall.keep, codeAny_func ?_⟩
  obtain ⟨t, ht, hq⟩ := hbody A outer s H vs Q E (hr.deeper _) hsp
  have I : Inv (cxOf CX P w K mg base N qual scope f cdv A outer s H E) [] (start N vs) H s1 := inv_start S hr.hd e0 hl r x
  refine wpAny_mono (ht [] s1 (start N vs) H _ I hq) (fun fl s' hs => ?_) fun e s' hs => hs
  have fin : ∀ {σ' : St} {H' : Hp} {v : V} {u : Value}, Inv (cxOf CX P w K mg base N qual scope f cdv A outer s H E) [] σ' H' s' → RelV v u → Q v H' → CE outer P w H s Q u s' :=
    fun {σ' H' v u} J rv q => ⟨v, H', J.os, J.bare, J.base, J.hok, rv, q⟩
  cases fl with
  | ret u =>
    obtain ⟨v, σ', H', J, rv, q⟩ := hs
    exact fin J rv q
  | next =>
    obtain ⟨σ', H', J, q⟩ := hs
    exact fin (v := V.non) (u := Value.none) J rfl q
  | brk =>
    obtain ⟨_, _, _, q⟩ := hs
    exact False.elim q
  | cont =>
    obtain ⟨_, _, _, q⟩ := hs
    exact False.elim q
end L2
namespace L2
open PySem PySem.Spec PyProof.Rows
section
variable {X : Cx} {x : Str} {p pos : Pos} {e : Expr} {es : List Expr} {t : TA} {id T : String} {r : List V → Hp → VK → Prop}
noncomputable def tCB (r : List V → Hp → VK → Prop) (t : TA) : TE := fun σ H Q => t σ H fun vs H1 => r vs H1 Q
theorem pe_callB (hc : CallR X (.builtin id) r) (hg : Gl X x) (hm : X.mg x = none) (hv : bootBuiltins x = some (.builtin id)) (ha : PA X (e :: es) t) (hn : x ≠ "__name__" := by decide) (hdb : (x == ("__debug__" : Str)) = false := by decide)
    (he : starEach (e :: es) X.env = (false, eval e X.env) :: starEach es X.env := by rfl) (hpl : (backTo pos (starEach es X.env)).any (·.1) = false := by rfl) : PE X (.Call (.Name x p) (e :: es) [] pos) (tCB r t) := by
  intro pins s σ H Q I h
  refine wpAny_Call_Name_kw (ld_blt I hg hm hv ?_ hn hdb)
  exact PyProof.Rows.callWith_builtin1 (thn (ha pos pins s σ H _ I h) fun us s1 zq5 => by obtain ⟨vs, H1, I1, r1, q1⟩ := zq5; exact (hc pins s1 σ H1 vs us Q I1 r1 q1)) he hpl
theorem pe_callTy (hc : CallR X (.type T) r) (hg : Gl X x) (hm : X.mg x = none) (hv : bootBuiltins x = some (.type T)) (ha : PA X (e :: es) t) (hn : x ≠ "__name__" := by decide) (hdb : (x == ("__debug__" : Str)) = false := by decide)
    (he : starEach (e :: es) X.env = (false, eval e X.env) :: starEach es X.env := by rfl) (hpl : (backTo pos (starEach es X.env)).any (·.1) = false := by rfl) : PE X (.Call (.Name x p) (e :: es) [] pos) (tCB r t) := by
  intro pins s σ H Q I h
  refine wpAny_Call_Name_kw (ld_blt I hg hm hv ?_ hn hdb)
  exact PyProof.Rows.callWith_type1 (thn (ha pos pins s σ H _ I h) fun us s1 zq6 => by obtain ⟨vs, H1, I1, r1, q1⟩ := zq6; exact (hc pins s1 σ H1 vs us Q I1 r1 q1)) he hpl
end
end L2
namespace HT
open PySem PyProof.Rows
section
open PySem.SeqAt
open PySem.AutoSeq1 (wpAny_loadPart')
open PySem.MeetsSeq PySem.MeetsSeq2 PySem.MeetsSeq3
end
section
variable {prog : Program} {w : World} {A : Around} {E : Value → Shared → Prop} {s : Shared}
noncomputable def sIx (n d : Nat) : Option Int → Nat
  | none => d
  | some v => if v < 0 then (v + (n : Int)).toNat else min v.toNat n
theorem sIx_none (n d : Nat) : sIx n d none = d := rfl
theorem sIx_nat (n d k : Nat) : sIx n d (some (k : Int)) = min k n := by
  show (if (k : Int) < 0 then ((k : Int) + (n : Int)).toNat else min (k : Int).toNat n) = min k n
  rw [if_neg (by omega), Int.toNat_natCast]
theorem sIx_le (n d : Nat) (hd : d ≤ n) (o : Option Int) : sIx n d o ≤ n := by
  cases o with
  | none => exact hd
  | some v =>
    show (if v < 0 then (v + (n : Int)).toNat else min v.toNat n) ≤ n
    by_cases hv : v < 0
    · rw [if_pos hv]; omega
    · rw [if_neg hv]; exact Nat.min_le_right _ _
end
end HT
namespace L2
open PySem PySem.Spec PyProof.Rows
noncomputable abbrev TO := St → Hp → (Option Int → Hp → Prop) → Prop
noncomputable def PO (X : Cx) (e : Option Expr) (t : TO) : Prop :=
  ∀ (pins : List (Addr × Obj)) (s : Shared) (σ : St) (H : Hp) (Q : Option Int → Hp → Prop), Inv X pins σ H s → t σ H Q →
    wpAny (model X.prog X.w) X.A (evalPart e X.env) (fun u s' => ∃ o H', Inv X pins σ H' s' ∧ IsPart u o ∧ Q o H') X.xe s
noncomputable def tNoPart : TO := fun _ H Q => Q none H
noncomputable def tPart (t : TE) : TO := fun σ H Q => t σ H fun x H1 => ∃ i, x = .int i ∧ Q (some i) H1
theorem intsAre_of {ns : List Int} : ∀ {us : List Value}, Vals (ns.map V.int) us → IntsAre us ns := by
  induction ns with
  | nil => intro us r; rw [List.map_nil] at r; cases r; exact .nil
  | cons n ns ih =>
    intro us r
    rw [List.map_cons] at r
    cases r with
    | cons r1 r2 =>
      obtain ⟨t, e⟩ := r1
      subst e
      exact .cons n t (ih r2)
section
variable {X : Cx} {e : Expr} {te : TE} {lo hi : Option Expr} {tl th : TO} {pos p2 : Pos}
theorem po_none : PO X none tNoPart := by
  intro pins s σ H Q I h
  rw [evalPart_none]
  exact wpAny_pure ⟨none, H, I, .none, h⟩
theorem po_some (h : PE X e te) : PO X (some e) (tPart te) := by
  intro pins s σ H Q I hw
  rw [evalPart_some]
  refine thn (h pins s σ H _ I hw) fun u s1 zr1896 => ?_
  obtain ⟨x, H1, I1, r1, q1⟩ := zr1896
  obtain ⟨i, rfl, q⟩ := q1
  obtain ⟨t, rfl⟩ := r1
  exact ⟨some i, H1, I1, .int i t, q⟩
noncomputable def SlR (X : Cx) (r : V → Option Int → Option Int → Hp → VK → Prop) : Prop :=
  ∀ (pins : List (Addr × Obj)) (s : Shared) (σ : St) (H : Hp) (x : V) (v vl vu : Value) (lo hi : Option Int) (sl : Addr) (Q : VK), Inv X pins σ H s → RelV x v → s.heap.IsSliceOf sl vl vu .none → IsPart vl lo → IsPart vu hi → r x lo hi H Q →
    ∃ T id, typeLookup (.type T) "__getitem__" = pure (some (.builtin id)) ∧ s.TypeIs v T ∧ wpAny (model X.prog X.w) X.A (getItem v (.ref sl)) (EP X pins σ Q) X.xe s
noncomputable def tSl (r : V → Option Int → Option Int → Hp → VK → Prop) (te : TE) (tl th : TO) : TE := fun σ H Q => te σ H fun x H1 => tl σ H1 fun l H2 => th σ H2 fun u H3 => r x l u H3 Q
theorem pe_slice {r : V → Option Int → Option Int → Hp → VK → Prop} (hr : SlR X r) (he : PE X e te) (hl : PO X lo tl) (hu : PO X hi th) : PE X (.Subscript e (.Slice lo hi none p2) pos) (tSl r te tl th) := by
  intro pins s σ H Q I h
  refine Subscript_ (thn (he pins s σ H _ I h) fun v s1 zr1906 => ?_)
  obtain ⟨x, H1, I1, r1, q1⟩ := zr1906
  refine wpAny_Slice (thn (hl pins s1 σ H1 _ I1 q1) fun vl s2 ⟨l, H2, I2, pl, q2⟩ => thn (hu pins s2 σ H2 _ I2 q2) fun vu s3 zr1907 => ?_)
  obtain ⟨u, H3, I3, pu, q3⟩ := zr1907
  rw [evalPart_none]
  refine wpAny_pure ?_
  have I4 : Inv X pins σ H3 { s3 with heap := s3.heap.push { cls := .type "slice", data := .fields #[vl, vu, .none] } } := I3.kept (t' := s3.toks) fun b ob q => Heap.get?_push_of_some _ q
  obtain ⟨T, id, hT, ht, hg⟩ := hr pins { s3 with heap := s3.heap.push { cls := .type "slice", data := .fields #[vl, vu, .none] } } σ H3 x v vl vu l u s3.heap.objs.size Q I4 r1 (Heap.IsSliceOf.new ..) pl pu q3
  show wpAny (model X.prog X.w) X.A (subscriptTail e (.Slice lo hi none p2) v (.ref s3.heap.objs.size)) (EP X pins σ Q) X.xe { s3 with heap := s3.heap.push { cls := .type "slice", data := .fields #[vl, vu, .none] } }
  exact tail_any (ops := [.ref s3.heap.objs.size, v]) ht hT hg (by with_unfolding_all rfl)
noncomputable def cutV (xs : List V) (lo hi : Option Int) : List V := (xs.drop (HT.sIx xs.length 0 lo)).take (HT.sIx xs.length xs.length hi - HT.sIx xs.length 0 lo)
theorem cutV_length (xs : List V) (lo hi : Option Int) : (cutV xs lo hi).length ≤ xs.length := by
  unfold cutV
  rw [List.length_take, List.length_drop]
  omega
end
end L2
namespace L2
open PySem PySem.Spec PyProof.Rows
noncomputable def ixN (n : Nat) (i : Int) : Option Nat := if 0 ≤ i then (if i < n then some i.toNat else none) else if -(n : Int) ≤ i then some (i + n).toNat else none
noncomputable def atI {α : Type} (xs : List α) (i : Int) : Option α := (ixN xs.length i).bind fun j => xs[j]?
theorem ixN_seq {n : Nat} {i : Int} {j : Nat} (h : ixN n i = some j) : seqIndex? i n = some j ∧ j < n ∧ -(n : Int) ≤ i ∧ i < n := by
  unfold ixN at h
  by_cases h0 : 0 ≤ i
  · rw [if_pos h0] at h
    by_cases h1 : i < n
    · rw [if_pos h1] at h
      have e : i.toNat = j := Option.some.inj h
      exact ⟨by rw [seqIndex_of h0 h1, e], by omega, by omega, h1⟩
    · rw [if_neg h1] at h; cases h
  · rw [if_neg h0] at h
    by_cases h1 : -(n : Int) ≤ i
    · rw [if_pos h1] at h
      have e : (i + n).toNat = j := Option.some.inj h
      exact ⟨by rw [seqIndex_neg (by omega) h1, e], by omega, h1, by omega⟩
    · rw [if_neg h1] at h; cases h
theorem atI_get {α : Type} {xs : List α} {i : Int} {v : α} (h : atI xs i = some v) : ∃ j, seqIndex? i xs.length = some j ∧ xs[j]? = some v ∧ j < xs.length ∧ -(xs.length : Int) ≤ i ∧ i < xs.length := by
  unfold atI at h
  cases e : ixN xs.length i with
  | none => rw [e] at h; cases h
  | some j =>
    rw [e] at h
    obtain ⟨h1, h2, h3, h4⟩ := ixN_seq e
    exact ⟨j, h1, h, h2, h3, h4⟩
theorem atI_nat {α : Type} {xs : List α} {j : Nat} {v : α} (h : xs[j]? = some v) : atI xs (j : Int) = some v := by
  have hj : j < xs.length := (List.getElem?_eq_some_iff.mp h).1
  have e : ixN xs.length (j : Int) = some j := by
    unfold ixN
    rw [if_pos (by omega), if_pos (by omega)]; simp
  unfold atI; rw [e]; exact h
theorem atI_last {α : Type} (xs : List α) (v : α) : atI (xs ++ [v]) (-1) = some v := by
  have hl : (xs ++ [v]).length = xs.length + 1 := by simp
  have e : ixN (xs ++ [v]).length (-1) = some xs.length := by
    unfold ixN
    rw [hl, if_neg (by decide), if_pos (by omega)]
    congr 1
    omega
  unfold atI
  rw [e]
  show (xs ++ [v])[xs.length]? = some v
  simp
noncomputable def PlainIx (b : Expr) : Prop := ∀ o i, subscripted b false o i = operate [o, i] (getItem o i)
noncomputable def IxR (X : Cx) (r : R2) : Prop :=
  ∀ (value slice : Expr) (pins : List (Addr × Obj)) (s : Shared) (σ : St) (H : Hp) (x y : V) (v u : Value) (Q : VK), Inv X pins σ H s → RelV x v → RelV y u → r x y H Q →
    subscripted slice false v u = operate [v, u] (getItem v u) → wpAny (model X.prog X.w) X.A (subscriptTail value slice v u) (EP X pins σ Q) X.xe s
noncomputable def MtR (X : Cx) (id : String) (r : V → List V → Hp → VK → Prop) : Prop :=
  ∀ (pins : List (Addr × Obj)) (s : Shared) (σ : St) (H : Hp) (x : V) (xs : List V) (v : Value) (us : List Value) (Q : VK), Inv X pins σ H s → RelV x v → Vals xs us → r x xs H Q →
    wpAny (model X.prog X.w) X.A (call (.builtin id) (v :: us)) (EP X pins σ Q) X.xe s
section
variable {X : Cx} {a b : Expr} {ta tb : TE} {pos : Pos}
theorem pe_ix {r : R2} (hr : IxR X r) (ha : PE X a ta) (hb : PE X b tb) (hs : PlainIx b) : PE X (.Subscript a b pos) (tOp r ta tb) := by
  intro pins s σ H Q I h
  exact Subscript_ (binT ha hb I h fun v u s2 x y H2 I2 rx ry q => hr a b pins s2 σ H2 x y v u Q I2 rx ry q (hs _ _))
noncomputable def rIxL (K : PySem.W.Frag) : R2 := fun x y H Q => ∃ p xs i v, x = .ref p ∧ y = .int i ∧ SqL K H p xs ∧ atI xs i = some v ∧ Q v H
noncomputable def rIxT (K : PySem.W.Frag) : R2 := fun x y H Q => ∃ p xs i v, x = .ref p ∧ y = .int i ∧ SqT K H p xs ∧ atI xs i = some v ∧ Q v H
noncomputable def rIxS : R2 := fun x y H Q => ∃ z i c, x = .str z ∧ y = .int i ∧ z.length ≤ sizeLine ∧ atI z.cps.toList i = some c ∧ Q (.str ⟨#[c]⟩) H
theorem ix_list : IxR X (rIxL X.K) := by
  intro value slice pins s σ H x y v u Q I rx ry h hs
  obtain ⟨p, xs, i, z, rfl, rfl, hq, he, q⟩ := h
  cases rx
  obtain ⟨t, rfl⟩ := ry
  obtain ⟨its, r, pl, hz⟩ := I.list hq
  obtain ⟨j, h1, h2, h3, h4, h5⟩ := atI_get he
  obtain ⟨w, ew, rw'⟩ := r.get h2
  have hl := r.length
  have hn := line63
  have fin : EP X pins σ Q w s := ⟨z, H, I, rw', q⟩
  by_cases h0 : 0 ≤ i
  · have hj : i.toNat = j := by
      rw [seqIndex_of h0 h5] at h1
      exact Option.some.inj h1
    exact item_listR pl.isList h0 (by omega) (by rw [hj]; simpa using ew) fin hs
  · have hj : (i + (its.toArray.size : Int)).toNat = j := by
      rw [seqIndex_neg (by omega) h4] at h1
      rw [List.size_toArray, ← hl]
      exact Option.some.inj h1
    exact subscriptTail_builtinR (x := w) pl.isList.typeIs slot_list_getitem.lookup
      (wpAny_getItem_list_neg (Q := fun r s' => r = w ∧ EP X pins σ Q r s') pl.isList (by omega) (by rw [List.size_toArray] <;> omega) (by omega) (by rw [hj]; simpa using ew) ⟨rfl, fin⟩) hs
theorem ix_tup : IxR X (rIxT X.K) := by
  intro value slice pins s σ H x y v u Q I rx ry h hs
  obtain ⟨p, xs, i, z, rfl, rfl, hq, he, q⟩ := h
  cases rx
  obtain ⟨t, rfl⟩ := ry
  obtain ⟨its, r, pl, hz⟩ := I.tuple hq
  obtain ⟨j, h1, h2, h3, h4, h5⟩ := atI_get he
  obtain ⟨w, ew, rw'⟩ := r.get h2
  have hl := r.length
  have hn := line63
  have fin : EP X pins σ Q w s := ⟨z, H, I, rw', q⟩
  exact subscriptTail_builtinR (x := w) pl.typeIs slot_tuple_getitem.lookup
    (getItem_tuple (j := j) (Q := fun r s' => r = w ∧ EP X pins σ Q r s') pl (by omega) (by omega) (by rw [List.size_toArray, ← hl]; exact h1) (by simpa using ew) ⟨rfl, fin⟩) hs
theorem ix_str : IxR X rIxS := by
  intro value slice pins s σ H x y v u Q I rx ry h hs
  obtain ⟨z, i, c, rfl, rfl, hz, he, q⟩ := h
  obtain ⟨t, rfl⟩ := rx
  obtain ⟨t', rfl⟩ := ry
  obtain ⟨j, h1, h2, h3, h4, h5⟩ := atI_get he
  have hl : z.cps.toList.length = z.length := by simp [Str.length]
  rw [hl] at h1 h4 h5
  have hn := line63
  exact tail_any (typeIs_str s z t) slot_str_getitem.lookup (getItem_str (c := c) (by
    have e1 : decide (i < -(2 ^ 63 : Int)) = false := decide_eq_false (by omega)
    have e2 : decide (i ≥ 2 ^ 63) = false := decide_eq_false (by omega)
    rw [e1, e2, Bool.or_false]) (by rw [h1]; simpa using h2) ⟨.str ⟨#[c]⟩, H, I.tok _, ⟨_, rfl⟩, q⟩) hs
theorem mapSeq_set (its : List Value) (n j : Nat) (u : Value) : Obj.mapSeq (·.setIfInBounds j u) { cls := .type "list", data := .seq its.toArray n } = { cls := .type "list", data := .seq (its.set j u).toArray n } := by
  simp [Obj.mapSeq]
theorem Inv.lst {pins : List (Addr × Obj)} {σ : St} {H : Hp} {s : Shared} {p : Addr} {xs : List V} (I : Inv X pins σ H s) (h : H p = some (.lst xs)) :
    ∃ (its : List Value) (n : Nat), Vals xs its ∧ s.heap.get? p = some { cls := .type "list", data := .seq its.toArray n } ∧ xs.length ≤ sizeLine := by
  obtain ⟨z, its, n, r, e⟩ := I.hok p _ h
  exact ⟨its, n, r, e, z⟩
theorem Inv.lstUpd {pins : List (Addr × Obj)} {σ : St} {H : Hp} {s : Shared} {p : Addr} {xs ys : List V} {its its' : List Value} {n n' : Nat} {f : Obj → Obj} (I : Inv X pins σ H s) (h : H p = some (.lst xs))
    (ho : s.heap.get? p = some { cls := .type "list", data := .seq its.toArray n }) (hf : f { cls := .type "list", data := .seq its.toArray n } = { cls := .type "list", data := .seq its'.toArray n' }) (r : Vals ys its') (hz : ys.length ≤ sizeLine) (t : Nat) :
    Inv X pins σ (upd H p (.lst ys)) { s with heap := s.heap.update p f, toks := t } := by
  have e : (s.heap.update p f).get? p = some { cls := .type "list", data := .seq its'.toArray n' } := by
    rw [Heap.get?_update_self f ho (by rw [hf] <;> rfl), hf]
  refine I.write (x := p) (e := p) (by rw [h]; trivial) (.inl rfl) (fun b u hb q => (Heap.get?_update_other _ _ (Ne.symm hb)).trans q) ⟨_, e⟩ ?_
  exact ⟨hz, its', n', r, e⟩
noncomputable def rSetL : V → V → V → Hp → (Hp → Prop) → Prop := fun o i v H Q => ∃ p xs k j, o = .ref p ∧ i = .int k ∧ H p = some (.lst xs) ∧ ixN xs.length k = some j ∧ Q (upd H p (.lst (xs.set j v)))
theorem set_list : PSet X rSetL := by
  intro pins s σ H o i v ov iv u Q I ro ri rv h
  obtain ⟨p, xs, k, j, rfl, rfl, hp, hj, q⟩ := h
  cases ro
  obtain ⟨t, rfl⟩ := ri
  obtain ⟨its, n, r, ho, hz⟩ := I.lst hp
  obtain ⟨h1, h2, h3, h4⟩ := ixN_seq hj
  have hl := r.length
  have hn := line63
  have I' : Inv X pins σ (upd H p (.lst (xs.set j v))) { s with heap := s.heap.update p (Obj.mapSeq (·.setIfInBounds j u)) } :=
    I.lstUpd hp ho (mapSeq_set its n j u) (r.set rv j) (by rw [List.length_set]; exact hz) s.toks
  by_cases h0 : 0 ≤ k
  · have hk : k.toNat = j := by
      rw [seqIndex_of h0 h4] at h1
      exact Option.some.inj h1
    exact PySem.W.ki_setAt ho h0 (by omega) (by rw [List.size_toArray, ← hl]; exact h4) (by rw [hk]; exact ⟨_, I', q⟩)
  · have hk : (k + (its.toArray.size : Int)).toNat = j := by
      rw [seqIndex_neg (by omega) h3] at h1
      rw [List.size_toArray, ← hl]
      exact Option.some.inj h1
    exact PySem.W.ki_setBack ho (by omega) (by rw [List.size_toArray, ← hl]; exact h3) (by omega) (by rw [hk]; exact ⟨_, I', q⟩)
theorem slice_bounds (lo hi : Option Int) (n : Nat) : (sliceBounds lo hi none n).1 = ((HT.sIx n 0 lo : Nat) : Int) ∧ (sliceBounds lo hi none n).2.1 = ((HT.sIx n n hi : Nat) : Int) ∧ (sliceBounds lo hi none n).2.2 = 1 := by
  refine ⟨?_, ?_, rfl⟩
  · cases lo with
    | none => simp [sliceBounds, HT.sIx]
    | some i =>
      simp only [sliceBounds, HT.sIx, Option.getD_none, show (1 : Int) > 0 by decide, if_true]
      by_cases h : i < 0
      · simp only [h, if_true] <;> omega
      · simp only [h, if_false] <;> omega
  · cases hi with
    | none => simp [sliceBounds, HT.sIx]
    | some i =>
      simp only [sliceBounds, HT.sIx, Option.getD_none, show (1 : Int) > 0 by decide, if_true]
      by_cases h : i < 0
      · simp only [h, if_true] <;> omega
      · simp only [h, if_false] <;> omega
theorem slicePick_cut (its : List Value) (lo hi : Option Int) : slicePick its.toArray lo hi none = ((its.drop (HT.sIx its.length 0 lo)).take (HT.sIx its.length its.length hi - HT.sIx its.length 0 lo)).toArray := by
  obtain ⟨h1, h2, h3⟩ := slice_bounds lo hi its.toArray.size
  unfold slicePick
  rw [h1, h2, h3]
  simp only [sliceRange_one, pick_run, List.size_toArray] <;> rfl
noncomputable def rSlL (K : PySem.W.Frag) : V → Option Int → Option Int → Hp → VK → Prop := fun x lo hi H Q => ∃ a xs, x = .ref a ∧ SqL K H a xs ∧ ∀ p, H p = none → Q (.ref p) (upd H p (.lst (cutV xs lo hi)))
theorem sl_list : SlR X (rSlL X.K) := by
  intro pins s σ H x v vl vu lo hi sl Q I rx hs pl pu h
  obtain ⟨a, xs, rfl, hx, q⟩ := h
  cases rx
  obtain ⟨its, r, ht, hz⟩ := I.list hx
  have hlen := r.length
  refine ⟨"list", _, slot_list_getitem.lookup, ht.isList.typeIs, ?_⟩
  refine wpAny_getItem_list_slice ht.isList hs pl pu .none (by simp) ?_ (by rw [List.size_toArray] <;> omega)
  rw [slicePick_cut, ← hlen]
  refine ⟨.ref s.heap.objs.size, _, I.laid (t' := s.toks) (o := .lst (cutV xs lo hi)) (fun b ob q => Heap.get?_push_of_some _ q) (Nat.le_refl _) ?_, rfl, q _ (I.hok.fresh (Nat.le_refl _))⟩
  exact ⟨Nat.le_trans (cutV_length xs lo hi) hz, _, 0, (r.drop (HT.sIx xs.length 0 lo)).take (HT.sIx xs.length xs.length hi - HT.sIx xs.length 0 lo), Heap.get?_push_size _ rfl⟩
noncomputable def flatV : V → Bool
  | .non => true
  | .bl _ => true
  | .int _ => true
  | .str _ => true
  | _ => false
noncomputable def eqV : V → V → Bool
  | .non, .non => true
  | .bl a, .bl b => a == b
  | .bl a, .int b => (if a then 1 else 0) == b
  | .int a, .bl b => a == (if b then 1 else 0)
  | .int a, .int b => a == b
  | .str a, .str b => a == b
  | _, _ => false
theorem eqAt_V {A : Around} {s : Shared} {y x : V} {u v : Value} (ry : RelV y u) (rx : RelV x v) (fy : flatV y = true) (fx : flatV x = true) : SeqAt.EqAt A s u v (eqV y x) := by
  cases y with
  | non =>
    cases ry
    cases x with
    | non => cases rx; exact SeqAt.EqAt.same _
    | bl b => cases rx; exact SeqAt.EqAt.none_bool b
    | int b => obtain ⟨t, rfl⟩ := rx; exact SeqAt.EqAt.none_int b t
    | str b => obtain ⟨t, rfl⟩ := rx; exact SeqAt.EqAt.none_str b t
    | _ => exact absurd (show false = true from fx) Bool.false_ne_true
  | bl a =>
    cases ry
    cases x with
    | non => cases rx; exact SeqAt.EqAt.bool_none a
    | bl b => cases rx; exact SeqAt.EqAt.bool_bool a b
    | int b => obtain ⟨t, rfl⟩ := rx; exact SeqAt.EqAt.bool_int a b t
    | str b => obtain ⟨t, rfl⟩ := rx; exact SeqAt.EqAt.bool_str a b t
    | _ => exact absurd (show false = true from fx) Bool.false_ne_true
  | int a =>
    obtain ⟨t', rfl⟩ := ry
    cases x with
    | non => cases rx; exact SeqAt.EqAt.int_none a t'
    | bl b => cases rx; exact SeqAt.EqAt.int_bool a t' b
    | int b => obtain ⟨t, rfl⟩ := rx; exact SeqAt.EqAt.int_int a t' b t
    | str b => obtain ⟨t, rfl⟩ := rx; exact SeqAt.EqAt.int_str a t' b t
    | _ => exact absurd (show false = true from fx) Bool.false_ne_true
  | str a =>
    obtain ⟨t', rfl⟩ := ry
    cases x with
    | non => cases rx; exact SeqAt.EqAt.str_none a t'
    | bl b => cases rx; exact SeqAt.EqAt.str_bool a t' b
    | int b => obtain ⟨t, rfl⟩ := rx; exact SeqAt.EqAt.str_int a t' b t
    | str b => obtain ⟨t, rfl⟩ := rx; exact SeqAt.EqAt.str_str a t' b t
    | _ => exact absurd (show false = true from fx) Bool.false_ne_true
  | _ => exact absurd (show false = true from fy) Bool.false_ne_true
noncomputable def eqU (x : V) (u : Value) : Bool := match u with
  | .none => eqV .non x
  | .bool b => eqV (.bl b) x
  | .int i _ => eqV (.int i) x
  | .str z _ => eqV (.str z) x
  | _ => false
theorem eqU_of {x y : V} {u : Value} (r : RelV y u) (f : flatV y = true) : eqU x u = eqV y x := by
  cases y with
  | non => cases r; rfl
  | bl b => cases r; rfl
  | int i => obtain ⟨t, rfl⟩ := r; rfl
  | str z => obtain ⟨t, rfl⟩ := r; rfl
  | _ => exact absurd (show false = true from f) Bool.false_ne_true
theorem any_eqU {x : V} : ∀ {xs : List V} {us : List Value}, Vals xs us → xs.all flatV = true → us.any (eqU x) = xs.any fun y => eqV y x
  | _, _, .nil, _ => rfl
  | y :: xs, u :: us, .cons r t, f => by
    rw [List.all_cons, Bool.and_eq_true] at f
    rw [List.any_cons, List.any_cons, eqU_of r f.1, any_eqU t f.2]
theorem mem_eqAt {A : Around} {s : Shared} {x : V} {v : Value} (rx : RelV x v) (fx : flatV x = true) : ∀ {xs : List V} {us : List Value}, Vals xs us → xs.all flatV = true → ∀ u ∈ us, SeqAt.EqAt A s u v (eqU x u)
  | _, _, .nil, _ => fun u hu => by cases hu
  | y :: xs, u :: us, .cons r t, f => fun u' hu => by
    rw [List.all_cons, Bool.and_eq_true] at f
    rcases List.mem_cons.mp hu with rfl | hu
    · rw [eqU_of r f.1]; exact eqAt_V r rx f.1 fx
    · exact mem_eqAt rx fx t f.2 u' hu
noncomputable def inV (x : V) (xs : List V) : Bool := xs.any fun y => eqV y x
noncomputable def rIn (K : PySem.W.Frag) (neg : Bool) : R2 := fun x y H Q => ∃ p xs, y = .ref p ∧ (SqL K H p xs ∨ SqT K H p xs) ∧ flatV x = true ∧ xs.all flatV = true ∧ Q (.bl (if neg then !inV x xs else inV x xs)) H
theorem op_in_seq : OpR X (compareOp .In) (rIn X.K false) := by
  intro pins s σ H x y v u Q I rx ry h
  obtain ⟨p, xs, rfl, hq, fx, fs, q⟩ := h
  cases ry
  rcases hq with hq | hq
  · obtain ⟨its, r, pl, hz⟩ := I.list hq
    refine SeqAt.in_listAt (eqU x) pl.isList (fun w hw => mem_eqAt rx fx r fs w (by simpa using hw)) ⟨.bl _, H, I, rfl, ?_⟩
    rw [show its.toArray.any (eqU x) = its.any (eqU x) by simp, any_eqU r fs]
    exact q
  · obtain ⟨its, r, pl, hz⟩ := I.tuple hq
    refine SeqAt.in_tupleAt (eqU x) pl (fun w hw => mem_eqAt rx fx r fs w (by simpa using hw)) ⟨.bl _, H, I, rfl, ?_⟩
    rw [show its.toArray.any (eqU x) = its.any (eqU x) by simp, any_eqU r fs]
    exact q
theorem op_notIn_seq : OpR X (compareOp .NotIn) (rIn X.K true) := by
  intro pins s σ H x y v u Q I rx ry h
  obtain ⟨p, xs, rfl, hq, fx, fs, q⟩ := h
  cases ry
  rcases hq with hq | hq
  · obtain ⟨its, r, pl, hz⟩ := I.list hq
    refine SeqAt.notIn_listAt (eqU x) pl.isList (fun w hw => mem_eqAt rx fx r fs w (by simpa using hw)) ⟨.bl _, H, I, rfl, ?_⟩
    rw [show its.toArray.any (eqU x) = its.any (eqU x) by simp, any_eqU r fs]
    exact q
  · obtain ⟨its, r, pl, hz⟩ := I.tuple hq
    refine SeqAt.notIn_tupleAt (eqU x) pl (fun w hw => mem_eqAt rx fx r fs w (by simpa using hw)) ⟨.bl _, H, I, rfl, ?_⟩
    rw [show its.toArray.any (eqU x) = its.any (eqU x) by simp, any_eqU r fs]
    exact q
theorem call_len_seq : CallR X (.builtin "len") (fun xs H Q => ∃ p ys, xs = [.ref p] ∧ (SqL X.K H p ys ∨ SqT X.K H p ys) ∧ Q (.int ys.length) H) := by
  intro pins s σ H xs us Q I r h
  obtain ⟨p, ys, rfl, hq, q⟩ := h
  obtain ⟨u, rfl, rx⟩ := vals1 r
  cases rx
  have hn := line63
  rcases hq with hq | hq
  · obtain ⟨its, r', pl, hz⟩ := I.list hq
    have hlen := r'.length
    exact Calls.call_len_list pl.isList (by simp only [List.size_toArray] <;> omega) ⟨.int ys.length, H, I.tok _, ⟨s.toks + 1, by rw [List.size_toArray, hlen]⟩, q⟩
  · obtain ⟨its, r', pl, hz⟩ := I.tuple hq
    have hlen := r'.length
    exact len_tuple pl (by simp only [List.size_toArray] <;> omega) ⟨.int ys.length, H, I.tok _, ⟨s.toks + 1, by rw [List.size_toArray, hlen]⟩, q⟩
theorem call_len_str : CallR X (.builtin "len") (fun xs H Q => ∃ z, xs = [.str z] ∧ z.length ≤ sizeLine ∧ Q (.int z.length) H) := by
  intro pins s σ H xs us Q I r h
  obtain ⟨z, rfl, hz, q⟩ := h
  obtain ⟨u, rfl, t, rfl⟩ := vals1 r
  have hn := line63
  exact len_str (by omega) ⟨.int z.length, H, I.tok _, ⟨_, rfl⟩, q⟩
theorem call_list_of : CallR X (.type "list") (fun xs H Q => ∃ p ys, xs = [.ref p] ∧ (SqL X.K H p ys ∨ SqT X.K H p ys) ∧ ∀ l, H l = none → Q (.ref l) (upd H l (.lst ys))) := by
  intro pins s σ H xs us Q I r h
  obtain ⟨p, ys, rfl, hq, q⟩ := h
  obtain ⟨u, rfl, rx⟩ := vals1 r
  cases rx
  have fin : ∀ (its : List Value), Vals ys its → ys.length ≤ sizeLine → ∀ (h' : Heap) (c' : Nat), (∀ b o', s.heap.get? b = some o' → h'.get? b = some o') →
      h'.get? s.heap.objs.size = some { cls := .type "list", dict := none, data := .seq its.toArray c', slots := #[] } → EP X pins σ Q (.ref s.heap.objs.size) { s with heap := h' } := fun its r' hz h' c' kp e =>
    ⟨.ref s.heap.objs.size, _, I.laid (t' := s.toks) kp (Nat.le_refl _) (show ObjOk X.prog X.w _ h' _ (.lst ys) from ⟨hz, its, c', r', e⟩), rfl, q _ (I.hok.fresh (Nat.le_refl _))⟩
  rcases hq with hq | hq
  · obtain ⟨its, r', pl, hz⟩ := I.list hq
    have hlen := r'.length
    obtain ⟨o, ho, hc, n, hd⟩ := pl.isList
    exact call_list_seq p (.inl rfl) ho hc hd (fun h' c' kp e => fin its r' hz h' c' kp e) (by simp only [List.size_toArray] <;> omega)
  · obtain ⟨its, r', pl, hz⟩ := I.tuple hq
    have hlen := r'.length
    obtain ⟨o, ho, hc, n, hd⟩ := pl
    exact call_list_seq p (.inr rfl) ho hc hd (fun h' c' kp e => fin its r' hz h' c' kp e) (by simp only [List.size_toArray] <;> omega)
theorem call_tuple_of : CallR X (.type "tuple") (fun xs H Q => ∃ p ys, xs = [.ref p] ∧ ((SqL X.K H p ys ∧ ∀ l, H l = none → Q (.ref l) (upd H l (.tup ys))) ∨ (SqT X.K H p ys ∧ Q (.ref p) H))) := by
  intro pins s σ H xs us Q I r h
  obtain ⟨p, ys, rfl, h⟩ := h
  obtain ⟨u, rfl, rx⟩ := vals1 r
  cases rx
  rcases h with ⟨hq, q⟩ | ⟨hq, q⟩
  · obtain ⟨its, r', pl, hz⟩ := I.list hq
    have hlen := r'.length
    refine call_tuple_list pl.isList (fun h' kp => ?_) (by simp only [List.size_toArray] <;> omega)
    have I1 : Inv X pins σ H { s with heap := h' } := I.kept (t' := s.toks) kp
    have I2 : Inv X pins σ (upd H h'.objs.size (.tup ys)) { s with heap := h'.push { cls := .type "tuple", data := .seq its.toArray } } :=
      I1.laid (t' := s.toks) (fun b o e => Heap.get?_push_of_some _ e) (Nat.le_refl _) (show ObjOk X.prog X.w _ _ _ (.tup ys) from ⟨hz, its, r', IsTup.new _ _⟩)
    exact ⟨.ref h'.objs.size, _, I2, rfl, q _ (I1.hok.fresh (Nat.le_refl _))⟩
  · obtain ⟨its, r', pl, hz⟩ := I.tuple hq
    exact call_tuple_same pl ⟨.ref p, H, I, rfl, q⟩
noncomputable def tyV (K : PySem.W.Frag) (T : String) (x : V) (H : Hp) : Prop := match x with
  | .str _ => T = "str"
  | .int _ => T = "int"
  | .ref p => (T = "list" ∧ ∃ xs, SqL K H p xs) ∨ (T = "tuple" ∧ ∃ o, K.lookup p = some o ∧ o.cls = .type "tuple" ∧ o.dict = none) ∨
      (T = "dict" ∧ ((∃ kvs, H p = some (.dK kvs)) ∨ ∃ kvs, H p = some (.dT kvs))) ∨ (T = "set" ∧ ∃ S n, H p = some (.set S n))
  | _ => False
theorem tyV_is {pins : List (Addr × Obj)} {σ : St} {H : Hp} {s : Shared} {T : String} {x : V} {v : Value} (I : Inv X pins σ H s) (r : RelV x v) (ty : tyV X.K T x H) :
    s.TypeIs v T ∧ ∀ a, v = .ref a → ∃ ob, s.heap.get? a = some ob ∧ ob.dict = none := by
  cases x with
  | str z =>
    obtain ⟨t, rfl⟩ := r
    cases (show T = "str" from ty)
    exact ⟨typeIs_str s z t, fun _ e => nomatch e⟩
  | int i =>
    obtain ⟨t, rfl⟩ := r
    cases (show T = "int" from ty)
    exact ⟨typeIs_int s i t, fun _ e => nomatch e⟩
  | ref p =>
    cases r
    rcases ty with ⟨rfl, xs, hq⟩ | ⟨rfl, o, hk, hc, hd⟩ | ⟨rfl, hk⟩ | ⟨rfl, S, n, hk⟩
    · obtain ⟨its, _, pl, _⟩ := I.list hq
      refine ⟨pl.isList.typeIs, fun a e => ?_⟩
      cases e
      obtain ⟨o, n, e, c, hd, _⟩ := pl
      exact ⟨o, e, hd⟩
    · refine ⟨⟨o, I.kIn p o hk, hc⟩, fun a e => ?_⟩
      cases e
      exact ⟨o, I.kIn _ o hk, hd⟩
    · have z : ∃ o, s.heap.get? p = some o ∧ o.ExactDict := by
        rcases hk with ⟨kvs, hk⟩ | ⟨kvs, hk⟩
        · obtain ⟨_, _, _, _, o, _, _, e, ex, _⟩ := I.hok p _ hk
          exact ⟨o, e, ex⟩
        · obtain ⟨_, _, _, _, o, _, _, e, ex, _⟩ := I.hok p _ hk
          exact ⟨o, e, ex⟩
      obtain ⟨o, e, ex⟩ := z
      refine ⟨⟨o, e, ex.1⟩, fun a e2 => ?_⟩
      cases e2
      exact ⟨o, e, ex.2.1⟩
    · obtain ⟨o, _, _, _, e, ex, _⟩ := I.hok p _ hk
      refine ⟨⟨o, e, ex.1⟩, fun a e2 => ?_⟩
      cases e2
      exact ⟨o, e, ex.2.1⟩
  | _ => exact False.elim ty
variable {o e : Expr} {es : List Expr} {to : TE} {t : TA} {name : Str} {apos cpos : Pos} {T id : String} {r : V → List V → Hp → VK → Prop}
end
end L2
namespace L2
open PySem PySem.Spec PyProof.Rows
noncomputable def MtM (X : Cx) (id : String) (r : V → List V → Hp → VK → Prop) : Prop :=
  ∀ (pins : List (Addr × Obj)) (s : Shared) (σ : St) (H : Hp) (x : V) (xs : List V) (v : Value) (us : List Value) (Q : VK), Inv X pins σ H s → RelV x v → Vals xs us → r x xs H Q →
    wpAny (model X.prog X.w) X.A (call (.builtin id) (v :: us)) (EP X pins σ Q) X.xe s
theorem Vals.one : ∀ {x : V} {us : List Value}, Vals [x] us → ∃ u, us = [u] ∧ RelV x u
  | _, _, .cons r .nil => ⟨_, rfl, r⟩
theorem Vals.zero : ∀ {us : List Value}, Vals [] us → us = []
  | _, .nil => rfl
theorem Vals.dropLast {xs : List V} {us : List Value} (h : Vals xs us) : Vals xs.dropLast us.dropLast := by
  induction h with
  | nil => exact .nil
  | cons r t ih =>
    cases t with
    | nil => exact .nil
    | cons q t' => exact .cons r ih
theorem Vals.eraseIdx : ∀ {xs : List V} {us : List Value} (i : Nat), Vals xs us → Vals (xs.eraseIdx i) (us.eraseIdx i)
  | _, _, _, .nil => .nil
  | _, _, 0, .cons _ t => t
  | _, _, i + 1, .cons r t => .cons r (Vals.eraseIdx i t)
theorem Vals.reverse {xs : List V} {us : List Value} (h : Vals xs us) : Vals xs.reverse us.reverse := by
  induction h with
  | nil => exact .nil
  | cons r t ih => rw [List.reverse_cons, List.reverse_cons]; exact Vals.append ih (.cons r .nil)
theorem erase_last {α : Type} (l : List α) : l.eraseIdx (l.length - 1) = l.dropLast := by
  induction l with
  | nil => rfl
  | cons a r ih =>
    cases r with
    | nil => rfl
    | cons b r =>
      have e : (a :: b :: r).length - 1 = ((b :: r).length - 1) + 1 := by
        have h1 : (a :: b :: r).length = r.length + 2 := rfl
        have h2 : (b :: r).length = r.length + 1 := rfl
        omega
      rw [e, List.eraseIdx_cons_succ, ih]
      all_goals rfl
theorem len_erase {α : Type} : ∀ (l : List α) (i : Nat), (l.eraseIdx i).length ≤ l.length
  | [], _ => Nat.le_refl _
  | _ :: _, 0 => Nat.le_succ _
  | _ :: r, i + 1 => Nat.succ_le_succ (len_erase r i)
section
variable {X : Cx} {pins : List (Addr × Obj)} {σ : St} {H : Hp} {s : Shared} {l b : Addr} {xs ys zs : List V}
theorem Inv.lset {its its' : List Value} {n : Nat} {f : Array Value → Array Value} {t' : Nat} (I : Inv X pins σ H s) (hH : H l = some (.lst xs))
    (e : s.heap.get? l = some { cls := .type "list", data := .seq its.toArray n }) (hf : f its.toArray = its'.toArray) (hv : Vals ys its') (hz : ys.length ≤ sizeLine) :
    Inv X pins σ (upd H l (.lst ys)) { s with heap := s.heap.update l (Obj.mapSeq f), toks := t' } := by
  have q := PySem.IsL.update e f
  rw [hf] at q
  refine I.write (x := l) (e := l) (by rw [hH]; exact trivial) (.inl rfl) (fun b' u hb hu => (Heap.get?_update_other s.heap (Obj.mapSeq f) (Ne.symm hb)).trans hu) ⟨_, q⟩ ?_
  exact ⟨hz, its', _, hv, q⟩
theorem Inv.lnew {its : List Value} {t' : Nat} (I : Inv X pins σ H s) (hv : Vals ys its) (hz : ys.length ≤ sizeLine) :
    Inv X pins σ (upd H s.heap.objs.size (.lst ys)) { s with heap := s.heap.push { cls := .type "list", data := .seq its.toArray }, toks := t' } :=
  I.laid (fun _ _ q => Heap.get?_push_of_some _ q) (Nat.le_refl _) ⟨hz, its, 0, hv, Heap.get?_push_size _ rfl⟩
theorem Inv.fresh (I : Inv X pins σ H s) : H s.heap.objs.size = none := I.hok.fresh (Nat.le_refl _)
theorem Inv.lstM (I : Inv X pins σ H s) (hH : H l = some (.lst xs)) : xs.length ≤ sizeLine ∧ ∃ (its : List Value) (n : Nat), Vals xs its ∧ xs.length = its.length ∧ s.heap.get? l = some { cls := .type "list", data := .seq its.toArray n } := by
  obtain ⟨z, its, n, r, e⟩ := I.hok l _ hH
  exact ⟨z, its, n, r, r.length, e⟩
end
section
variable {X : Cx}
noncomputable def rAppend : V → List V → Hp → VK → Prop := fun x vs H Q => ∃ l xs y, x = .ref l ∧ vs = [y] ∧ H l = some (.lst xs) ∧ xs.length < sizeLine ∧ Q .non (upd H l (.lst (xs ++ [y])))
theorem mt_append : MtM X "list.append" rAppend := by
  intro pins s σ H x vs v us Q I rx rv h
  obtain ⟨l, xs, y, rfl, rfl, hH, hz, q⟩ := h
  cases rx
  obtain ⟨u, rfl, ru⟩ := rv.one
  obtain ⟨z, its, n, r, hl, e⟩ := I.lstM hH
  refine call_meets F.slot_list_append ⟨_, e, rfl⟩ F.entry_list_append (F.args_list_append_2 _ _) (PySem.list_append l its.toArray n u (by rw [List.size_toArray]; omega)) ⟨e, ?_⟩
  refine ⟨.non, _, I.lset (its' := its ++ [u]) hH e (by simp) (r.append (.cons ru .nil)) ?_, rfl, q⟩
  rw [List.length_append, List.length_singleton]
  omega
noncomputable def rPop : V → List V → Hp → VK → Prop := fun x vs H Q => ∃ l xs y, x = .ref l ∧ vs = [] ∧ H l = some (.lst xs) ∧ xs[xs.length - 1]? = some y ∧ Q y (upd H l (.lst xs.dropLast))
theorem mt_pop : MtM X "list.pop" rPop := by
  intro pins s σ H x vs v us Q I rx rv h
  obtain ⟨l, xs, y, rfl, rfl, hH, hy, q⟩ := h
  cases rx
  have hus := rv.zero
  subst hus
  obtain ⟨z, its, n, r, hl, e⟩ := I.lstM hH
  obtain ⟨u, hu, ru⟩ := r.get hy
  have hy' : its.toArray[its.toArray.size - 1]? = some u := by
    show its.toArray[its.length - 1]? = some u
    rw [← Array.getElem?_toList, ← hl]
    exact hu
  refine call_meets F.slot_list_pop ⟨_, e, rfl⟩ F.entry_list_pop (F.args_list_pop_1 _) (MeetsSeq.list_pop_last l its.toArray n u hy' (by rw [List.size_toArray]; omega)) ⟨e, ?_⟩
  refine ⟨y, _, I.lset (its' := its.dropLast) hH e ?_ r.dropLast ?_, ru, q⟩
  · show its.toArray.eraseIdxIfInBounds (its.toArray.size - 1) = its.dropLast.toArray
    rw [List.size_toArray, List.eraseIdxIfInBounds_toArray, erase_last]
  · rw [List.length_dropLast]
    omega
noncomputable def rPopAt : V → List V → Hp → VK → Prop := fun x vs H Q => ∃ l xs i k y, x = .ref l ∧ vs = [.int i] ∧ H l = some (.lst xs) ∧ -(2 ^ 63) ≤ i ∧ i < 2 ^ 63 ∧ seqIndex? i xs.length = some k ∧ xs[k]? = some y ∧ Q y (upd H l (.lst (xs.eraseIdx k)))
theorem mt_popAt : MtM X "list.pop" rPopAt := by
  intro pins s σ H x vs v us Q I rx rv h
  obtain ⟨l, xs, i, k, y, rfl, rfl, hH, h1, h2, hk, hy, q⟩ := h
  cases rx
  obtain ⟨u, rfl, ru⟩ := rv.one
  obtain ⟨t, rfl⟩ := ru
  obtain ⟨z, its, n, r, hl, e⟩ := I.lstM hH
  obtain ⟨w, hw, rw'⟩ := r.get hy
  refine call_meets F.slot_list_pop ⟨_, e, rfl⟩ F.entry_list_pop (F.args_list_pop_2 _ _)
    (MeetsSeq.list_pop_at l its.toArray n i t k w (fitsIndex_both h1 h2) (by rw [List.size_toArray, ← hl]; exact hk) (by rw [← Array.getElem?_toList]; exact hw) (by rw [List.size_toArray]; omega)) ⟨e, ?_⟩
  refine ⟨y, _, I.lset (its' := its.eraseIdx k) hH e ?_ (r.eraseIdx k) ?_, rw', q⟩
  · show its.toArray.eraseIdxIfInBounds k = (its.eraseIdx k).toArray
    rw [List.eraseIdxIfInBounds_toArray]
  · have := len_erase xs k
    omega
noncomputable def rCat : R2 := fun x y H Q => ∃ l b xs zs, x = .ref l ∧ y = .ref b ∧ H l = some (.lst xs) ∧ H b = some (.lst zs) ∧ xs.length + zs.length ≤ sizeLine ∧ ∀ p, H p = none → Q (.ref p) (upd H p (.lst (xs ++ zs)))
theorem op_cat : OpR X (binaryOp .Add) rCat := by
  intro pins s σ H x y v u Q I rx ry h
  obtain ⟨l, b, xs, zs, rfl, rfl, hH, hB, hz, q⟩ := h
  cases rx
  cases ry
  obtain ⟨z, its, n, r, hl, e⟩ := I.lstM hH
  obtain ⟨z2, its2, n2, r2, hl2, e2⟩ := I.lstM hB
  refine PySem.P.add_list e e2 ?_ (by rw [List.size_toArray, List.size_toArray]; omega)
  have ea : its.toArray ++ its2.toArray = (its ++ its2).toArray := by simp
  rw [ea]
  exact ⟨.ref _, _, I.lnew (t' := s.toks) (r.append r2) (by rw [List.length_append]; omega), rfl, q _ I.fresh⟩
end
section
variable {prog : Program} {w : World} {A : Around} {E : Value → Shared → Prop} {s : Shared}
set_option maxRecDepth 100000 in
end
section
variable {X : Cx}
end
end L2
namespace L2
open PySem PySem.Spec PyProof.Rows
section
variable {κ : Type} [DecidableEq κ]
noncomputable def valV (kvs : List (κ × V)) (k : κ) : Option V := (kvs.find? fun kv => decide (kv.1 = k)).map (·.2)
noncomputable def putK (kvs : List (κ × V)) (k : κ) (v : V) : List (κ × V) :=
  if (kvs.any fun kv => decide (kv.1 = k)) = true then kvs.map (fun kv => if kv.1 = k then (kv.1, v) else kv) else kvs ++ [(k, v)]
noncomputable def dropK (kvs : List (κ × V)) (k : κ) : List (κ × V) := kvs.filter fun kv => decide (kv.1 ≠ k)
theorem valV_nil {k : κ} : valV ([] : List (κ × V)) k = none := rfl
theorem valV_pos {p : κ × V} {r : List (κ × V)} {k : κ} (e : p.1 = k) : valV (p :: r) k = some p.2 := by simp [valV, List.find?_cons, e]
theorem valV_neg {p : κ × V} {r : List (κ × V)} {k : κ} (e : ¬ p.1 = k) : valV (p :: r) k = valV r k := by simp [valV, List.find?_cons, e]
theorem valV_any (k : κ) : ∀ kvs : List (κ × V), (kvs.any fun kv => decide (kv.1 = k)) = (valV kvs k).isSome
  | [] => rfl
  | p :: r => by
    rw [List.any_cons]
    by_cases e : p.1 = k
    · simp only [valV_pos e, decide_eq_true e, Bool.true_or, Option.isSome_some]
    · rw [valV_neg e, decide_eq_false e, Bool.false_or]; exact valV_any k r
theorem valV_map (k j : κ) (y : V) : ∀ kvs : List (κ × V), valV (kvs.map fun kv => if kv.1 = k then (kv.1, y) else kv) j = (valV kvs j).map fun x => if j = k then y else x
  | [] => rfl
  | p :: r => by
    have ih := valV_map k j y r
    rw [List.map_cons]
    by_cases h : p.1 = k
    · rw [if_pos h]
      by_cases e : p.1 = j
      · rw [valV_pos (p := (p.1, y)) e, valV_pos e, Option.map_some, if_pos (e.symm.trans h)]
      · rw [valV_neg (p := (p.1, y)) e, valV_neg e, ih]
    · rw [if_neg h]
      by_cases e : p.1 = j
      · rw [valV_pos (p := p) e, valV_pos e, Option.map_some, if_neg (fun z => h (e.trans z))]
      · rw [valV_neg (p := p) e, valV_neg e, ih]
theorem valV_snoc (k j : κ) (y : V) : ∀ kvs : List (κ × V), valV kvs k = none → valV (kvs ++ [(k, y)]) j = if j = k then some y else valV kvs j
  | [], _ => by
    by_cases e : k = j
    · rw [if_pos e.symm]; exact valV_pos (p := (k, y)) e
    · rw [if_neg (fun z => e z.symm)]; exact valV_neg (p := (k, y)) e
  | p :: r, hn => by
    rw [List.cons_append]
    have hk : ¬ p.1 = k := fun z => by rw [valV_pos z] at hn; cases hn
    rw [valV_neg hk] at hn
    have ih := valV_snoc k j y r hn
    by_cases e : p.1 = j
    · rw [valV_pos e, valV_pos e, if_neg (fun z => hk (e.trans z))]
    · rw [valV_neg e, valV_neg e, ih]
theorem valV_put (kvs : List (κ × V)) (k j : κ) (y : V) : valV (putK kvs k y) j = if j = k then some y else valV kvs j := by
  unfold putK
  by_cases a : (kvs.any fun kv => decide (kv.1 = k)) = true
  · rw [if_pos a, valV_map]
    rw [valV_any] at a
    by_cases e : j = k
    · obtain ⟨x, hx⟩ := Option.isSome_iff_exists.mp a
      rw [if_pos e, e, hx, Option.map_some, if_pos rfl]
    · rw [if_neg e]
      cases valV kvs j with
      | none => rfl
      | some x => rw [Option.map_some, if_neg e]
  · rw [if_neg a]
    refine valV_snoc k j y kvs ?_
    rw [valV_any] at a
    cases q : valV kvs k with
    | none => rfl
    | some x => rw [q] at a; exact (a rfl).elim
theorem length_putK (kvs : List (κ × V)) (k : κ) (v : V) : (putK kvs k v).length ≤ kvs.length + 1 := by
  unfold putK
  split
  · rw [List.length_map]; omega
  · rw [List.length_append, List.length_cons, List.length_nil]; omega
theorem putK_new {kvs : List (κ × V)} {k : κ} (v : V) (h : valV kvs k = none) : putK kvs k v = kvs ++ [(k, v)] := by
  unfold putK
  rw [valV_any, h]
  exact if_neg (by decide)
theorem RelO.isSome_eq {o : Option V} {u : Option Value} (r : RelO o u) : o.isSome = u.isSome := by
  cases o with
  | none => cases u with
    | none => rfl
    | some _ => exact (show False from r).elim
  | some _ => cases u with
    | none => exact (show False from r).elim
    | some _ => rfl
theorem RelO.getD {o : Option V} {u : Option Value} {d : V} {d' : Value} (r : RelO o u) (rd : RelV d d') : RelV (o.getD d) (u.getD d') := by
  cases o with
  | none => cases u with
    | none => exact rd
    | some _ => exact (show False from r).elim
  | some _ => cases u with
    | none => exact (show False from r).elim
    | some _ => exact r
theorem KV.val {kvs : List (κ × V)} {vs : List (κ × Value)} (r : KV kvs vs) (k : κ) : RelO (valV kvs k) (valueAt vs k) := by
  unfold KV at r
  induction r with
  | nil => exact True.intro
  | @cons p q ps qs h t ih =>
    obtain ⟨h1, h2⟩ := h
    by_cases e : p.1 = k
    · have e' : q.1 = k := h1.symm.trans e
      have b : valueAt (q :: qs) k = some q.2 := by simp [valueAt, List.find?_cons, e']
      rw [valV_pos e, b]; exact h2
    · have e' : ¬ q.1 = k := fun z => e (h1.trans z)
      have b : valueAt (q :: qs) k = valueAt qs k := by simp [valueAt, List.find?_cons, e']
      rw [valV_neg e, b]; exact ih
theorem KV.any {kvs : List (κ × V)} {vs : List (κ × Value)} (r : KV kvs vs) (k : κ) : (kvs.any fun kv => decide (kv.1 = k)) = vs.any fun kv => decide (kv.1 = k) := by
  unfold KV at r
  induction r with
  | nil => rfl
  | cons h t ih => rw [List.any_cons, List.any_cons, ih, h.1]
theorem KV.repl {kvs : List (κ × V)} {vs : List (κ × Value)} (r : KV kvs vs) (k : κ) {y : V} {u : Value} (ry : RelV y u) :
    KV (kvs.map fun kv => if kv.1 = k then (kv.1, y) else kv) (vs.map fun kv => if kv.1 = k then (kv.1, u) else kv) := by
  unfold KV at r ⊢
  induction r with
  | nil => exact .nil
  | @cons p q ps qs h t ih =>
    rw [List.map_cons, List.map_cons]
    refine .cons ?_ ih
    obtain ⟨h1, h2⟩ := h
    by_cases e : p.1 = k
    · rw [if_pos e, if_pos (h1.symm.trans e)]; exact ⟨h1, ry⟩
    · rw [if_neg e, if_neg (fun z => e (h1.trans z))]; exact ⟨h1, h2⟩
theorem KV.put {kvs : List (κ × V)} {vs : List (κ × Value)} (r : KV kvs vs) (k : κ) {y : V} {u : Value} (ry : RelV y u) : KV (putK kvs k y) (stored vs k u) := by
  unfold putK stored
  rw [r.any k]
  by_cases e : (vs.any fun kv => decide (kv.1 = k)) = true
  · rw [if_pos e, if_pos e]; exact r.repl k ry
  · rw [if_neg e, if_neg e]; exact Paired.snoc r ⟨rfl, ry⟩
theorem KV.drop {kvs : List (κ × V)} {vs : List (κ × Value)} (r : KV kvs vs) (k : κ) : KV (dropK kvs k) (without vs k) := by
  unfold KV at r ⊢
  unfold dropK without
  induction r with
  | nil => exact .nil
  | @cons p q ps qs h t ih =>
    obtain ⟨h1, h2⟩ := h
    rw [List.filter_cons, List.filter_cons]
    by_cases e : p.1 = k
    · have a : ¬ decide (p.1 ≠ k) = true := by simp [e]
      have b : ¬ decide (q.1 ≠ k) = true := by simp [h1.symm.trans e]
      rw [if_neg a, if_neg b]; exact ih
    · have e' : ¬ q.1 = k := fun z => e (h1.trans z)
      have a : decide (p.1 ≠ k) = true := by simp [e]
      have b : decide (q.1 ≠ k) = true := by simp [e']
      rw [if_pos a, if_pos b]; exact .cons ⟨h1, h2⟩ ih
theorem KV.keys {kvs : List (κ × V)} {vs : List (κ × Value)} (r : KV kvs vs) : kvs.map (·.1) = vs.map (·.1) := by
  unfold KV at r
  induction r with
  | nil => rfl
  | cons h t ih => rw [List.map_cons, List.map_cons, ih, h.1]
theorem KV.length {kvs : List (κ × V)} {vs : List (κ × Value)} (r : KV kvs vs) : kvs.length = vs.length := Paired.length r
theorem dropK_le (kvs : List (κ × V)) (k : κ) : (dropK kvs k).length ≤ kvs.length := List.length_filter_le _ _
end
theorem kV_is {P : Program} {w : World} {k : Key} {u : Value} (r : RelV (kV k) u) : (mixKind P w).is k u = true := by
  cases k with
  | inl i => obtain ⟨t, e⟩ := (show ∃ t, u = Value.int i t from r); subst e; exact mixKind_int P w i t
  | inr x => obtain ⟨t, e⟩ := (show ∃ t, u = Value.str x t from r); subst e; exact mixKind_str P w x t
theorem items_are {P : Program} {w : World} : ∀ {ks : List Key} {us : List Value}, Vals (ks.map kV) us → ItemsAre (mixKind P w) ks us
  | [], _, r => by rw [List.map_nil] at r; cases r; exact .nil
  | k :: ks, _, r => by
    rw [List.map_cons] at r
    cases r with
    | cons h t => exact .cons (kV_is h) (items_are t)
noncomputable abbrev KT (H : Hp) : List (List Key × V) → List (List Key × Addr × Value) → Prop := Paired fun p q => p.1 = q.1 ∧ H q.2.1 = some (.tup (p.1.map kV)) ∧ RelV p.2 q.2.2
theorem KT.val {H : Hp} {kvs : List (List Key × V)} {xs : List (List Key × Addr × Value)} (r : KT H kvs xs) (k : List Key) : RelO (valV kvs k) ((atKey xs k).map (·.2)) := by
  induction r with
  | nil => exact True.intro
  | @cons p q ps qs h t ih =>
    obtain ⟨h1, _, h2⟩ := h
    by_cases e : p.1 = k
    · have e' : q.1 = k := h1.symm.trans e
      have b : atKey (q :: qs) k = some q.2 := by simp [atKey, List.find?_cons, e']
      rw [valV_pos e, b]; exact h2
    · have e' : ¬ q.1 = k := fun z => e (h1.trans z)
      have b : atKey (q :: qs) k = atKey qs k := by simp [atKey, List.find?_cons, e']
      rw [valV_neg e, b]; exact ih
theorem KT.repl {H : Hp} {kvs : List (List Key × V)} {xs : List (List Key × Addr × Value)} (r : KT H kvs xs) (k : List Key) {y : V} {u : Value} (ry : RelV y u) :
    KT H (kvs.map fun kv => if kv.1 = k then (kv.1, y) else kv) (xs.map (putAt k u)) := by
  induction r with
  | nil => exact .nil
  | @cons p q ps qs h t ih =>
    rw [List.map_cons, List.map_cons]
    refine .cons ?_ ih
    obtain ⟨h1, h2, h3⟩ := h
    unfold putAt
    by_cases e : p.1 = k
    · rw [if_pos e, if_pos (h1.symm.trans e)]; exact ⟨h1, h2, ry⟩
    · rw [if_neg e, if_neg (fun z => e (h1.trans z))]; exact ⟨h1, h2, h3⟩
theorem KT.put {H : Hp} {kvs : List (List Key × V)} {xs : List (List Key × Addr × Value)} (r : KT H kvs xs) (k : List Key) {b : Addr} {y : V} {u : Value} (hb : H b = some (.tup (k.map kV))) (ry : RelV y u) :
    KT H (putK kvs k y) (storedH xs k b u) := by
  have e : (kvs.any fun kv => decide (kv.1 = k)) = (atKey xs k).isSome := by
    rw [valV_any, (r.val k).isSome_eq, Option.isSome_map]
  unfold putK storedH
  rw [e]
  by_cases q : (atKey xs k).isSome = true
  · rw [if_pos q, if_pos q]; exact r.repl k ry
  · rw [if_neg q, if_neg q]; exact Paired.snoc r ⟨rfl, hb, ry⟩
theorem KT.keeps {H H' : Hp} {kvs : List (List Key × V)} {xs : List (List Key × Addr × Value)} (r : KT H kvs xs) (ht : ∀ b ys, H b = some (.tup ys) → H' b = some (.tup ys)) : KT H' kvs xs :=
  Paired.mapP r fun _ _ z => ⟨z.1, ht _ _ z.2.1, z.2.2⟩
section
variable {P : Program} {w : World} {H : Hp} {h : Heap} {a : Addr}
theorem rd_of {u : HO} (ok : HOk P w H h) (e : Rd H a u) : ObjOk P w H h a u := e.ok ok
theorem dk_rd {kvs : List (Key × V)} (ok : HOk P w H h) (e : Rd H a (.dK kvs)) : kvs.length ≤ sizeLine ∧ (a == sysModules) = false ∧ ∃ vs, KV kvs vs ∧ h.DictOf (mixKind P w) a vs :=
  show ObjOk P w H h a (.dK kvs) from rd_of ok e
theorem dk_of {kvs : List (Key × V)} (ok : HOk P w H h) (e : H a = some (.dK kvs)) : kvs.length ≤ sizeLine ∧ (a == sysModules) = false ∧ ∃ vs, KV kvs vs ∧ h.DictOf (mixKind P w) a vs := dk_rd ok (.inl e)
theorem key_of {ks : List Key} (ok : HOk P w H h) (e : H a = some (.tup (ks.map kV))) : (tupleKind (mixKind P w)).is h ks a := by
  obtain ⟨_, its, r, o, h1, h2, n, h3⟩ := (show ObjOk P w H h a (.tup (ks.map kV)) from ok a _ e)
  exact ⟨o, its.toArray, n, h1, h2, h3, by simpa using items_are r⟩
theorem dt_rd {kvs : List (List Key × V)} (ok : HOk P w H h) (e : Rd H a (.dT kvs)) : kvs.length ≤ sizeLine ∧ (a == sysModules) = false ∧
    ∃ xs, KT H kvs xs ∧ h.DictOfH (tupleKind (mixKind P w)) a xs := by
  obtain ⟨z, y, xs, r, o, es, ep, h1, h2, h3, h4, h5⟩ := (show ObjOk P w H h a (.dT kvs) from rd_of ok e)
  refine ⟨z, y, xs, r, o, es, ep, h1, h2, h3, h4, fun x hx => ?_, h5⟩
  have all : ∀ {l : List (List Key × V)} {m : List (List Key × Addr × Value)}, KT H l m → ∀ x ∈ m, (tupleKind (mixKind P w)).is h x.1 x.2.1 := by
    intro l m q
    induction q with
    | nil => intro x hx; exact nomatch hx
    | @cons p q ps qs hq t ih =>
      intro x hx
      rcases List.mem_cons.mp hx with e | hx
      · subst e
        exact key_of ok (by rw [← hq.1]; exact hq.2.1)
      · exact ih x hx
  exact all r x hx
theorem dt_of {kvs : List (List Key × V)} (ok : HOk P w H h) (e : H a = some (.dT kvs)) : kvs.length ≤ sizeLine ∧ (a == sysModules) = false ∧
    ∃ xs, KT H kvs xs ∧ h.DictOfH (tupleKind (mixKind P w)) a xs := dt_rd ok (.inl e)
end
noncomputable def DGet (H : Hp) (a : Addr) (y : V) (r : Option V) : Prop :=
  (∃ kvs k, Rd H a (.dK kvs) ∧ y = kV k ∧ r = valV kvs k) ∨ ∃ kvs k b, Rd H a (.dT kvs) ∧ y = .ref b ∧ H b = some (.tup (k.map kV)) ∧ r = valV kvs k
noncomputable def DPut (H : Hp) (a : Addr) (y v : V) (H' : Hp) : Prop :=
  (∃ kvs k, H a = some (.dK kvs) ∧ y = kV k ∧ kvs.length < sizeLine ∧ H' = upd H a (.dK (putK kvs k v))) ∨
  ∃ kvs k b, H a = some (.dT kvs) ∧ y = .ref b ∧ H b = some (.tup (k.map kV)) ∧ kvs.length < sizeLine ∧ H' = upd H a (.dT (putK kvs k v))
theorem DGet.k {H : Hp} {a : Addr} {kvs : List (Key × V)} {k : Key} (e : H a = some (.dK kvs)) : DGet H a (kV k) (valV kvs k) := .inl ⟨kvs, k, .inl e, rfl, rfl⟩
theorem DGet.t {H : Hp} {a b : Addr} {kvs : List (List Key × V)} {k : List Key} (e : H a = some (.dT kvs)) (eb : H b = some (.tup (k.map kV))) : DGet H a (.ref b) (valV kvs k) := .inr ⟨kvs, k, b, .inl e, rfl, eb, rfl⟩
theorem DPut.k {H : Hp} {a : Addr} {kvs : List (Key × V)} {k : Key} {v : V} (e : H a = some (.dK kvs)) (hl : kvs.length < sizeLine) : DPut H a (kV k) v (upd H a (.dK (putK kvs k v))) := .inl ⟨kvs, k, e, rfl, hl, rfl⟩
theorem DPut.t {H : Hp} {a b : Addr} {kvs : List (List Key × V)} {k : List Key} {v : V} (e : H a = some (.dT kvs)) (eb : H b = some (.tup (k.map kV))) (hl : kvs.length < sizeLine) :
    DPut H a (.ref b) v (upd H a (.dT (putK kvs k v))) := .inr ⟨kvs, k, b, e, rfl, eb, hl, rfl⟩
section
variable {X : Cx} {pins : List (Addr × Obj)} {σ : St} {H : Hp} {s : Shared} {a : Addr} {y v : V} {u r : Value} {o : Option V} {A : Around} {E : Value → Shared → Prop}
theorem Inv.big (I : Inv X pins σ H s) : sysModules < s.heap.objs.size := by
  have h : mainGlobals < s.heap.objs.size := (I.mod.glob.keeps I.bk).lt
  exact Nat.lt_trans (by decide) h
theorem d_getItem {Q : Value → Shared → Prop} (hu : A.units + 1 < cLine) (I : Inv X pins σ H s) (g : DGet H a y (some v)) (ry : RelV y u) (h : ∀ w' s', Inv X pins σ H s' → RelV v w' → Q w' s') :
    wpAny (model X.prog X.w) A (getItem (.ref a) u) Q E s := by
  rcases g with ⟨kvs, k, e, ey, l⟩ | ⟨kvs, k, b, e, ey, eb, l⟩
  · subst ey
    obtain ⟨z, hd, vs, rel, dd⟩ := dk_rd I.hok e
    obtain ⟨w', hw, rw'⟩ := RelO.some_of (v := v) (o := valueAt vs k) (by rw [l]; exact rel.val k)
    exact wpAny_getItem_of (kV_is ry) dd.mapOf hw (h w' _ (I.tok _) rw')
  · subst ey
    cases (show u = Value.ref b from ry)
    obtain ⟨z, hd, xs, rel, dd⟩ := dt_rd I.hok e
    obtain ⟨w', hw, rw'⟩ := RelO.some_of (v := v) (o := (atKey xs k).map (·.2)) (by rw [l]; exact rel.val k)
    obtain ⟨p, hp, hp2⟩ := Option.map_eq_some_iff.mp hw
    refine wpAny_getItem_heap (tupleKind_room_in1 hu) (key_of I.hok eb) dd hp ?_
    rw [hp2]
    exact h w' _ (I.tok _) rw'
theorem d_in {Q : Value → Shared → Prop} (hu : A.units + 1 < cLine) (I : Inv X pins σ H s) (g : DGet H a y o) (ry : RelV y u) (h : ∀ s', Inv X pins σ H s' → Q (.bool o.isSome) s') :
    wpAny (model X.prog X.w) A (compareOp .In u (.ref a)) Q E s := by
  rcases g with ⟨kvs, k, e, ey, l⟩ | ⟨kvs, k, b, e, ey, eb, l⟩
  · subst ey
    obtain ⟨z, hd, vs, rel, dd⟩ := dk_rd I.hok e
    refine wpAny_in_of (kV_is ry) hd dd.mapOf ?_
    rw [← (rel.val k).isSome_eq, ← l]
    exact h _ (I.tok _)
  · subst ey
    cases (show u = Value.ref b from ry)
    obtain ⟨z, hd, xs, rel, dd⟩ := dt_rd I.hok e
    refine wpAny_in_heap (tupleKind_room_in1 hu) (key_of I.hok eb) hd dd ?_
    have q := (rel.val k).isSome_eq
    rw [Option.isSome_map] at q
    rw [← q, ← l]
    exact h _ (I.tok _)
theorem d_write {h' : Heap} {t' : Nat} {ob : HO} (I : Inv X pins σ H s) (mu : Mut (H a)) (hs : Heap.SameBut a s.heap h') (he : ∃ q, h'.get? a = some q) (new : ObjOk X.prog X.w (upd H a ob) h' a ob) :
    Inv X pins σ (upd H a ob) { s with heap := h', toks := t' } :=
  I.write (x := a) (e := a) mu (.inl rfl) (fun b q hb z => (hs.2 b hb).trans z) he new
theorem dk_new {P : Program} {w : World} {H' : Hp} {h' : Heap} {kvs : List (Key × V)} {vs : List (Key × Value)} (z : kvs.length ≤ sizeLine) (hd : (a == sysModules) = false) (rel : KV kvs vs) (dd : h'.DictOf (mixKind P w) a vs) :
    ObjOk P w H' h' a (.dK kvs) := ⟨z, hd, vs, rel, dd⟩
theorem d_setItem {H' : Hp} {Q : Unit → Shared → Prop} (hu : A.units + 1 < cLine) (I : Inv X pins σ H s) (g : DPut H a y v H') (ry : RelV y u) (rv : RelV v r) (h : ∀ s', Inv X pins σ H' s' → Q () s') :
    wpAny (model X.prog X.w) A (setItem (.ref a) u r) Q E s := by
  rcases g with ⟨kvs, k, e, ey, l, eH⟩ | ⟨kvs, k, b, e, ey, eb, l, eH⟩
  · subst ey eH
    obtain ⟨z, hd, vs, rel, dd⟩ := dk_of I.hok e
    have hz : vs.length ≤ sizeLine := by rw [← rel.length]; exact z
    have hl : (putK kvs k v).length ≤ sizeLine := by have := length_putK kvs k v; omega
    refine wpAny_setItem_pairs (hsz := hz) (kV_is ry) dd fun h' dd' hs => h _ ?_
    have he : ∃ q, h'.get? a = some q := let ⟨q, _, _, hq, _⟩ := dd'; ⟨q, hq⟩
    exact d_write I (by rw [e]; exact True.intro) hs he (dk_new hl hd (rel.put k rv) dd')
  · subst ey eH
    cases (show u = Value.ref b from ry)
    obtain ⟨z, hd, xs, rel, dd⟩ := dt_of I.hok e
    have hz : xs.length ≤ sizeLine := by rw [← Paired.length rel]; exact z
    have hl : (putK kvs k v).length ≤ sizeLine := by have := length_putK kvs k v; omega
    refine wpAny_setItem_heap (hsz := hz) (tupleKind_room_in1 hu) (key_of I.hok eb) dd fun h' dd' hs => h _ ?_
    obtain ⟨q, es, ep, hq, h2, h3, h4, _, h5⟩ := dd'
    refine d_write I (by rw [e]; exact True.intro) hs ⟨q, hq⟩ ⟨hl, hd, _, (rel.put k eb rv).keeps fun c ys ec => ?_, q, es, ep, hq, h2, h3, h4, h5⟩
    rw [upd_ne (ne_of ec e (fun z => nomatch z))]
    exact ec
end
section
variable {X : Cx} {pins : List (Addr × Obj)} {σ : St} {H : Hp} {s : Shared} {a : Addr} {kvs : List (Key × V)} {k : Key} {u : Value} {A : Around} {E : Value → Shared → Prop}
theorem d_pop {v : V} {more : List Value} {Q : Value → Shared → Prop} (I : Inv X pins σ H s) (e : H a = some (.dK kvs)) (ry : RelV (kV k) u) (l : valV kvs k = some v) (hm : more = [] ∨ ∃ x, more = [x])
    (h : ∀ w' s', Inv X pins σ (upd H a (.dK (dropK kvs k))) s' → RelV v w' → Q w' s') : wpAny (model X.prog X.w) A (call (.builtin "dict.pop") (.ref a :: u :: more)) Q E s := by
  obtain ⟨z, hd, vs, rel, dd⟩ := dk_of I.hok e
  obtain ⟨w', hw, rw'⟩ := RelO.some_of (v := v) (o := valueAt vs k) (by rw [← l]; exact rel.val k)
  have hp : (keyPart u).isSome = true := by
    cases k with
    | inl i => obtain ⟨t, q⟩ := (show ∃ t, u = Value.int i t from ry); subst q; rfl
    | inr x => obtain ⟨t, q⟩ := (show ∃ t, u = Value.str x t from ry); subst q; rfl
  have ha : argsOk "dict.pop" ⟨.ref a :: u :: more, []⟩ := by
    rcases hm with q | ⟨x, q⟩
    · subst q; exact PySem.F.args_dict_pop_2 _ _
    · subst q; exact PySem.F.args_dict_pop_3 _ _ _
  refine call_meetsIn PySem.F.slot_dict_pop dd.typeIs PySem.F.entry_dict_pop ha (meets_dict_pop_there (mixKind X.prog X.w) a (kV_is ry) more hm hp)
    ⟨vs, w', dd, by rw [← rel.length]; exact z, hw, fun h' dd' hs => h w' _ ?_ rw'⟩
  have he : ∃ q, h'.get? a = some q := let ⟨q, _, _, hq, _⟩ := dd'; ⟨q, hq⟩
  exact d_write I (by rw [e]; exact True.intro) hs he (dk_new (Nat.le_trans (dropK_le kvs k) z) hd (rel.drop k) dd')
theorem d_clear {Q : Value → Shared → Prop} (I : Inv X pins σ H s) (e : H a = some (.dK kvs)) (h : ∀ s', Inv X pins σ (upd H a (.dK [])) s' → Q .none s') : wpAny (model X.prog X.w) A (call (.builtin "dict.clear") [.ref a]) Q E s := by
  obtain ⟨z, hd, vs, rel, dd⟩ := dk_of I.hok e
  refine call_meetsIn PySem.F.slot_dict_clear dd.typeIs PySem.F.entry_dict_clear (PySem.F.args_dict_clear_1 _) (meets_dict_clear (mixKind X.prog X.w) a) ⟨vs, dd, by rw [← rel.length]; exact z, fun h' dd' hs => h _ ?_⟩
  have he : ∃ q, h'.get? a = some q := let ⟨q, _, _, hq, _⟩ := dd'; ⟨q, hq⟩
  exact d_write (t' := s.toks) I (by rw [e]; exact True.intro) hs he (dk_new (Nat.zero_le _) hd .nil dd')
end
noncomputable def NoSl (i : Expr) : Prop := ∀ ov iv, subscripted i false ov iv = operate [ov, iv] (getItem ov iv)
theorem subD_of {prog : Program} {w : World} {A : Around} {E : Value → Shared → Prop} {s : Shared} {env : Env} {value slice : Expr} {pos : Pos} {T id : String} {Q : Value → Shared → Prop}
    (hl : typeLookup (.type T) "__getitem__" = pure (some (.builtin id))) (hs : NoSl slice)
    (h : wpAny (model prog w) A (eval value env) (fun o s₁ => wpAny (model prog w) A (eval slice env) (fun i s₂ => s₂.TypeIs o T ∧ wpAny (model prog w) A (getItem o i) Q E s₂) E s₁) E s) :
    wpAny (model prog w) A (eval (.Subscript value slice pos) env) Q E s := by
  refine Subscript_ (wpAny_mono h (fun o s₁ h₁ => wpAny_mono h₁ (fun i s₂ h₂ => ?_) fun _ _ x => x) fun _ _ x => x)
  obtain ⟨hT, h₂⟩ := h₂
  unfold subscriptTail
  refine wpAny_bind ?_
  rw [getitemInPython_of_ne hT.not_modules]
  refine wpAny_bind (wpAny_specialOf hT hl ?_)
  have fin : wpAny (model prog w) A (subscripted slice false o i) (fun r s₃ => wpAny (model prog w) A (letTemporaryGo value o r >>= fun _ => pure r) Q E s₃) E s₂ := by
    rw [hs o i]
    exact wpAny_operating (wpAny_mono h₂ (fun r s₃ h₃ => wpAny_bind (wpAny_letTemporaryGo (wpAny_pure h₃))) fun _ _ x => x)
  first
    | exact wpAny_pure (wpAny_bind fin)
    | exact wpAny_bind (wpAny_pure (wpAny_bind fin))
    | exact wpAny_bind fin
theorem dict_typeIs {X : Cx} {pins : List (Addr × Obj)} {σ : St} {H : Hp} {s : Shared} {a : Addr} {y : V} {o : Option V} (I : Inv X pins σ H s) (g : DGet H a y o) : s.TypeIs (.ref a) "dict" := by
  rcases g with ⟨kvs, k, e, _, _⟩ | ⟨kvs, k, b, e, _, _, _⟩
  · obtain ⟨_, _, vs, _, dd⟩ := dk_rd I.hok e
    exact dd.typeIs
  · obtain ⟨_, _, xs, _, dd⟩ := dt_rd I.hok e
    exact dd.typeIs
section
variable {X : Cx} {o i e value : Expr} {pos pos' tpos : Pos} {td ty tv : TE}
end
theorem dk_empty {P : Program} {w : World} {H : Hp} (h : Heap) (hb : sysModules < h.objs.size) : ObjOk P w H (h.push { cls := .type "dict", data := .dict #[] }) h.objs.size (.dK []) :=
  ⟨Nat.zero_le _, beq_eq_false_iff_ne.mpr (Ne.symm (Nat.ne_of_lt hb)), [], .nil, Heap.DictOf.new h⟩
noncomputable def tDNewK : TE := fun _ H Q => ∀ p, H p = none → Q (.ref p) (upd H p (.dK []))
section
variable {X : Cx} {pos : Pos}
theorem pe_dnewK : PE X (.Dict [] [] pos) tDNewK := fun pins s σ H Q I h =>
  wpAny_Dict_empty ⟨.ref s.heap.objs.size, _, I.laid (a := s.heap.objs.size) (o := .dK []) (t' := s.toks) (fun _ _ q => Heap.get?_push_of_some _ q) (Nat.le_refl _) (dk_empty s.heap I.big), rfl, h _ (I.hok.fresh (Nat.le_refl _))⟩
end
noncomputable def tPairs : List (TE × TE) → St → Hp → (List (V × V) → Hp → Prop) → Prop
  | [], _, H, Q => Q [] H
  | (tk, tv) :: r, σ, H, Q => tk σ H fun x H1 => tv σ H1 fun y H2 => tPairs r σ H2 fun ps H3 => Q ((x, y) :: ps) H3
noncomputable abbrev VV : List (V × V) → List (Value × Value) → Prop := Paired fun p q => RelV p.1 q.1 ∧ RelV p.2 q.2
noncomputable def PPs (X : Cx) (pos : Pos) (keys : List (Option Expr)) (values : List Expr) (trs : List (TE × TE)) : Prop :=
  ∀ (pins : List (Addr × Obj)) (s : Shared) (σ : St) (H : Hp) (Q : List (V × V) → Hp → Prop), Inv X pins σ H s → tPairs trs σ H Q →
    wpAny (model X.prog X.w) X.A (evalPairs (pairTrees keys values X.env pos)) (fun vs s' => ∃ ps H', Inv X pins σ H' s' ∧ VV ps vs ∧ Q ps H') X.xe s
theorem pps_nil {X : Cx} {pos : Pos} : PPs X pos [] [] [] := fun pins s σ H Q I h => pairTrees_nil_walk ⟨[], H, I, .nil, h⟩
theorem pps_cons {X : Cx} {pos : Pos} {k v : Expr} {ks : List (Option Expr)} {vs : List Expr} {tk tv : TE} {trs : List (TE × TE)} (hk : PE X k tk) (hv : PE X v tv) (hr : PPs X pos ks vs trs) :
    PPs X pos (some k :: ks) (v :: vs) ((tk, tv) :: trs) := fun pins s σ H Q I h =>
  pairTrees_cons_walk (thn (hk pins s σ H _ I h) fun u s1 ⟨x, H1, I1, rx, q1⟩ => thn (hv pins s1 σ H1 _ I1 q1) fun w2 s2 ⟨y, H2, I2, ry, q2⟩ =>
    thn (hr pins s2 σ H2 _ I2 q2) fun ws s3 zq7 => by obtain ⟨ps, H3, I3, rel, q3⟩ := zq7; exact (⟨(x, y) :: ps, H3, I3, .cons ⟨rx, ry⟩ rel, q3⟩))
noncomputable def mergeK (kvs more : List (Key × V)) : List (Key × V) := more.foldl (fun acc kv => putK acc kv.1 kv.2) kvs
theorem KV.merge : ∀ {more : List (Key × V)} {rs : List (Key × Value)} {kvs : List (Key × V)} {vs : List (Key × Value)}, KV more rs → KV kvs vs → KV (mergeK kvs more) (merged vs rs) := by
  intro more rs kvs vs r
  unfold KV at r
  induction r generalizing kvs vs with
  | nil => intro q; exact q
  | @cons p q ps qs h t ih =>
    intro r0
    have e : KV (putK kvs p.1 p.2) (stored vs q.1 q.2) := by
      have := r0.put p.1 h.2
      rw [← h.1]; exact this
    exact ih e
theorem length_mergeK : ∀ (more kvs : List (Key × V)), (mergeK kvs more).length ≤ kvs.length + more.length
  | [], kvs => by show kvs.length ≤ kvs.length + 0; omega
  | p :: r, kvs => by
    have h1 := length_mergeK r (putK kvs p.1 p.2)
    have h2 := length_putK kvs p.1 p.2
    show (mergeK (putK kvs p.1 p.2) r).length ≤ _
    rw [List.length_cons]; omega
theorem carries_of {P : Program} {w : World} : ∀ {kvs : List (Key × V)} {ws : List (Value × Value)}, VV (kvs.map fun kv => (kV kv.1, kv.2)) ws → ∃ rs, Carries (mixKind P w) ws rs ∧ KV kvs rs
  | [], _, r => by rw [List.map_nil] at r; cases r; exact ⟨[], True.intro, .nil⟩
  | p :: kvs, _, r => by
    rw [List.map_cons] at r
    cases r with
    | @cons a b as bs h t =>
      obtain ⟨rs, c, q⟩ := carries_of (P := P) (w := w) t
      obtain ⟨b1, b2⟩ := b
      exact ⟨(p.1, b2) :: rs, ⟨kV_is h.1, rfl, c⟩, .cons ⟨rfl, h.2⟩ q⟩
noncomputable def tDisp (trs : List (TE × TE)) : TE := fun σ H Q => ∀ p, H p = none → tPairs trs σ (upd H p (.dK [])) fun ps H2 => H2 p = some (.dK []) ∧ ∃ kvs : List (Key × V), ps = kvs.map (fun kv => (kV kv.1, kv.2)) ∧ kvs.length ≤ 15 ∧ Q (.ref p) (upd H2 p (.dK (mergeK [] kvs)))
theorem pe_disp {X : Cx} {pos : Pos} {keys : List (Option Expr)} {values : List Expr} {trs : List (TE × TE)} (h : PPs X pos keys values trs) (hall : keys.all (·.isSome) = true) (hl : keys.length = values.length) (h0 : keys ≠ [])
    (h15 : keys.length ≤ 15) : PE X (.Dict keys values pos) (tDisp trs) := by
  intro pins s σ H Q I q
  have hn := I.hok.fresh (Nat.le_refl s.heap.objs.size)
  have I1 := I.laid (a := s.heap.objs.size) (o := .dK []) (h' := s.heap.push { cls := .type "dict", data := .dict #[] }) (t' := s.toks) (fun _ _ q => Heap.get?_push_of_some _ q) (Nat.le_refl _) (dk_empty s.heap I.big)
  refine wpAny_Dict_walk (knd := mixKind X.prog X.w) hall hl h0 h15 (thn (h pins _ σ _ _ I1 (q _ hn)) fun ws s2 zr2820 => ?_)
  obtain ⟨ps, H2, I2, rel, e, kvs, ep, lk, q2⟩ := zr2820
  subst ep
  obtain ⟨rs, c, rk⟩ := carries_of (P := X.prog) (w := X.w) rel
  obtain ⟨z, hd, vs0, r0, dd⟩ := dk_of I2.hok e
  cases r0
  refine ⟨rs, c, dd, fun h' dd' hs => ⟨.ref s.heap.objs.size, _, ?_, rfl, q2⟩⟩
  have hz : (mergeK [] kvs).length ≤ sizeLine := by
    have h1 := length_mergeK kvs []
    rw [List.length_nil] at h1
    rw [sizeLine_eq]; omega
  have he : ∃ q, h'.get? s.heap.objs.size = some q := let ⟨q, _, _, hq, _⟩ := dd'; ⟨q, hq⟩
  exact d_write I2 (by rw [e]; exact True.intro) hs he (dk_new hz hd (rk.merge .nil) dd')
structure M1 (X : Cx) (o : Expr) (m : Str) (apos : Pos) (e : Expr) (cpos : Pos) : Prop where
  base : attributeBase o m X.env (eval o X.env) = eval o X.env
  few : ((backTo cpos (starEach [e] X.env)).all (fun x => !x.1) && (backToKw cpos (keywordEach [] X.env)).all (fun x => x.1.isSome)
    && decide (([e] : List Expr).length + ([] : List Keyword).length + (if ([] : List Keyword).isEmpty then 0 else 1) < 30)) = true
  line : (apos.endLine == cpos.line) = true
  trees : backTo cpos (starEach [e] X.env) = [(false, eval e X.env)]
structure M2 (X : Cx) (o : Expr) (m : Str) (apos : Pos) (e f : Expr) (cpos : Pos) : Prop where
  base : attributeBase o m X.env (eval o X.env) = eval o X.env
  few : ((backTo cpos (starEach [e, f] X.env)).all (fun x => !x.1) && (backToKw cpos (keywordEach [] X.env)).all (fun x => x.1.isSome)
    && decide (([e, f] : List Expr).length + ([] : List Keyword).length + (if ([] : List Keyword).isEmpty then 0 else 1) < 30)) = true
  line : (apos.endLine == cpos.line) = true
  trees : backTo cpos (starEach [e, f] X.env) = [(false, eval e X.env), (false, eval f X.env)]
noncomputable def IsD (H : Hp) (a : Addr) : Prop := (∃ kvs, Rd H a (.dK kvs)) ∨ ∃ kvs, Rd H a (.dT kvs)
theorem isD_at {X : Cx} {pins : List (Addr × Obj)} {σ : St} {H : Hp} {s : Shared} {a : Addr} (I : Inv X pins σ H s) (d : IsD H a) :
    s.TypeIs (.ref a) "dict" ∧ (∀ b, Value.ref a = .ref b → ∃ ob, s.heap.get? b = some ob ∧ ob.dict = none) ∧ (a == sysModules) = false := by
  rcases d with ⟨kvs, e⟩ | ⟨kvs, e⟩
  · obtain ⟨_, hd, vs, _, dd⟩ := dk_rd I.hok e
    refine ⟨dd.typeIs, fun b q => ?_, hd⟩
    cases q
    obtain ⟨ob, _, _, h1, h2, _⟩ := dd
    exact ⟨ob, h1, h2.2.1⟩
  · obtain ⟨_, hd, xs, _, dd⟩ := dt_rd I.hok e
    refine ⟨dd.typeIs, fun b q => ?_, hd⟩
    cases q
    obtain ⟨ob, _, _, h1, h2, _⟩ := dd
    exact ⟨ob, h1, h2.2.1⟩
section
variable {X : Cx} {pins : List (Addr × Obj)} {σ : St} {H : Hp} {s : Shared} {a : Addr} {y d : V} {u r : Value} {o : Option V} {A : Around} {E : Value → Shared → Prop}
theorem d_get2 {Q : Value → Shared → Prop} (hu : A.units + 1 < cLine) (I : Inv X pins σ H s) (g : DGet H a y o) (ry : RelV y u) (rd : RelV d r) (h : ∀ w' s', Inv X pins σ H s' → RelV (o.getD d) w' → Q w' s') :
    wpAny (model X.prog X.w) A (call (.builtin "dict.get") [.ref a, u, r]) Q E s := by
  rcases g with ⟨kvs, k, e, ey, l⟩ | ⟨kvs, k, b, e, ey, eb, l⟩
  · subst ey
    obtain ⟨z, hd, vs, rel, dd⟩ := dk_rd I.hok e
    refine call_meetsIn PySem.F.slot_dict_get dd.typeIs PySem.F.entry_dict_get (PySem.F.args_dict_get_3 _ _ _) (meets_dict_get_default (mixKind X.prog X.w) a (kV_is ry) hd r) ⟨_, dd.mapOf, h _ _ (I.tok _) ?_⟩
    rw [l]
    exact (rel.val k).getD rd
  · subst ey
    cases (show u = Value.ref b from ry)
    obtain ⟨z, hd, xs, rel, dd⟩ := dt_rd I.hok e
    refine call_meetsIn PySem.F.slot_dict_get dd.typeIs PySem.F.entry_dict_get (PySem.F.args_dict_get_3 _ _ _) (meetsH_dict_get_default (tupleKind (mixKind X.prog X.w)) a b hd r) ⟨tupleKind_room_in1 hu, k, xs, key_of I.hok eb, dd, h _ _ (I.tok _) ?_⟩
    rw [l]
    exact (rel.val k).getD rd
end
noncomputable def tDGet2 (td ty tx : TE) : TE := fun σ H Q => td σ H fun x H1 => ∃ a, x = .ref a ∧ IsD H1 a ∧ ty σ H1 fun y H2 => tx σ H2 fun z H3 => ∃ o, DGet H3 a y o ∧ Q (o.getD z) H3
noncomputable def tDPop1 (td ty : TE) : TE := fun σ H Q => td σ H fun x H1 => ∃ a, x = .ref a ∧ IsD H1 a ∧ ty σ H1 fun y H2 => ∃ kvs k v, H2 a = some (.dK kvs) ∧ y = kV k ∧ valV kvs k = some v ∧ Q v (upd H2 a (.dK (dropK kvs k)))
section
variable {X : Cx} {o e f : Expr} {apos cpos : Pos} {td ty tx : TE}
theorem pe_dget2 (hu : X.A.units + 1 < cLine) (ho : PE X o td) (he : PE X e ty) (hf : PE X f tx) (m : M2 X o "get" apos e f cpos) : PE X (.Call (.Attribute o "get" apos) [e, f] [] cpos) (tDGet2 td ty tx) := by
  intro pins s σ H Q I h
  refine wpAny_Call_method m.base m.few m.line PySem.F.plainAttrs_dict PySem.F.slot_dict_get PySem.F.type_dict_get (thn (ho pins s σ H _ I h) fun u s1 zr2881 => ?_)
  obtain ⟨x, H1, I1, rx, a, ex, d, q1⟩ := zr2881
  subst ex
  obtain rfl : u = Value.ref a := rx
  obtain ⟨t1, t2, _⟩ := isD_at I1 d
  refine ⟨t1, t2, ?_⟩
  rw [m.trees]
  refine Calls.callWith_builtin rfl (Calls.evalArgs_plain (Calls.spliced_cons (thn (he pins s1 σ H1 _ I1 q1) fun iv s2 ⟨y, H2, I2, ry, q2⟩ =>
    Calls.spliced_cons (thn (hf pins s2 σ H2 _ I2 q2) fun fv s3 ⟨z, H3, I3, rz, ov, g, q3⟩ => Calls.spliced_nil ?_))))
  exact d_get2 hu I3 g ry rz fun w' s4 I4 rw' => ⟨_, H3, I4, rw', q3⟩
theorem pe_dpop1 (ho : PE X o td) (he : PE X e ty) (m : M1 X o "pop" apos e cpos) : PE X (.Call (.Attribute o "pop" apos) [e] [] cpos) (tDPop1 td ty) := by
  intro pins s σ H Q I h
  refine wpAny_Call_method m.base m.few m.line PySem.F.plainAttrs_dict PySem.F.slot_dict_pop PySem.F.type_dict_pop (thn (ho pins s σ H _ I h) fun u s1 zr2892 => ?_)
  obtain ⟨x, H1, I1, rx, a, ex, d, q1⟩ := zr2892
  subst ex
  obtain rfl : u = Value.ref a := rx
  obtain ⟨t1, t2, _⟩ := isD_at I1 d
  refine ⟨t1, t2, ?_⟩
  rw [m.trees]
  refine Calls.callWith_builtin rfl (Calls.evalArgs_plain (Calls.spliced_cons (thn (he pins s1 σ H1 _ I1 q1) fun iv s2 ⟨y, H2, I2, ry, kvs, k, v, ea, ey, l, q2⟩ => Calls.spliced_nil ?_)))
  subst ey
  exact d_pop I2 ea ry l (.inl rfl) fun w' s3 I3 rw' => ⟨v, _, I3, rw', q2⟩
end
section
variable {X : Cx} {pins : List (Addr × Obj)} {σ : St} {H : Hp} {s : Shared} {a : Addr} {kvs : List (Key × V)} {A : Around} {E : Value → Shared → Prop}
end
section
variable {X : Cx} {pins : List (Addr × Obj)} {σ : St} {H : Hp} {s : Shared} {a : Addr} {y : V} {u : Value} {A : Around} {E : Value → Shared → Prop}
end
end L2
namespace Att
open PySem PySem.W PySem.Calls PyProof.Rows
theorem ints_of_wellAll {P : Params} {h : Heap} : ∀ (ns : List Int) (vs : List Value), WellAll P h vs (ns.map WData.int) → IntsAre vs ns := by
  intro ns
  induction ns with
  | nil =>
    intro vs w
    rw [List.map_nil] at w
    cases w
    exact .nil
  | cons n ns ih =>
    intro vs w
    rw [List.map_cons] at w
    cases w with
    | cons a b =>
      cases a
      exact .cons _ _ (ih _ b)
theorem script_of {l : OpenLaw} {n : Nat} (hn : l.most = some n) {P : Params} {h : Heap} {args : List WData} {vals : List Value}
    (hpre : l.row.toRowW.claim.pre args = true) (hwl : WellAll P h vals args) :
    ∃ a vs ns, vals = [Value.ref a] ∧ args = [WData.list (ns.map WData.int)] ∧ h.get? a = some { cls := .type "list", data := .seq vs.toArray } ∧ IntsAre vs ns ∧ ns.length ≤ n := by
  have hsh : WShape.hasAll [] args [.list .int] = true := (pre_splitW hpre).1
  have hc : l.pre.holds [] { args := args } = true := (pre_splitW hpre).2
  obtain ⟨d, r, rfl, h1, h2⟩ := hasAllW_cons hsh
  obtain rfl := hasAllW_nil h2
  obtain ⟨xs, rfl, h3⟩ := hasW_list h1
  obtain ⟨ns, rfl⟩ := items_int h3
  have hlen : ns.length ≤ n := by
    unfold OpenLaw.pre at hc
    have h4 : (WTm.not (.lt (.lit (.int (n : Int))) (.len (.arg 0)))).holds [] { args := [.list (ns.map .int)] } = true := by
      have h4 := (holds_andW hc).1
      rw [hn] at h4
      exact h4
    have h5 := condW_of h4 (w_not (w_lt w_lit (w_len_list (w_arg rfl))))
    rw [List.length_map] at h5
    refine Nat.le_of_not_lt fun q => ?_
    have q' : (n : Int) < ((ns.length : Nat) : Int) := by omega
    first
      | (rw [decide_eq_true q'] at h5; exact absurd h5 (by decide))
      | (simp at h5; omega)
  cases hwl with
  | cons w1 w2 =>
    cases w2
    cases w1 with
    | list ho hall => exact ⟨_, _, ns, rfl, rfl, ho, ints_of_wellAll ns _ hall, hlen⟩
theorem post_true (l : OpenLaw) (args : List WData) : l.row.toRowW.claim.post args (.bool true) args = true :=
  postW_of (r := l.row.toRowW) (X := (true == true))
    (show WShape.has [] (.bool true) .bool = true by first | rfl | decide | simp [WShape.has, WShape.arms, WShape.armsAll])
    (show (WTm.eq .res (.lit (.bool true))).value [] { args := args, res := some (.bool true), after := args } = some (.bool (true == true)) from w_eq_bool (w_res rfl) w_lit) rfl
theorem attach_call {l : OpenLaw} {n : Nat} {q : Program} {loose : List Str} {XP : (Str → Option Value) → Heap → Prop} {YP : World → Heap → Prop} {d : DefRec}
    (hn : l.most = some n) (hdf : d.params.defaults = [])
    (call : ∀ (w : World) (s₀ s₁ : Shared) (mg mb : Str → Option Value) (fa : Addr) (o : Obj) (pm cd doc : Value) (a : Addr) (vs : List Value) (ns : List Int),
      Ground q loose [] XP w s₀ mg mb s₁.heap → YP w s₁.heap →
      s₁.heap.get? fa = some o → o.data = .func (docDef d.name d.params d.body d.scope pm cd doc) → s₁.heap.CodeRec cd d.name → mg d.name = some (.ref fa) →
      s₁.heap.get? a = some { cls := .type "list", data := .seq vs.toArray } → IntsAre vs ns → ns.length ≤ n → s₁.gens = #[] →
      codeAny (model l.prog w) callerA (.call (.ref fa) ⟨[.ref a], []⟩) (fun r s' => r = .ok (.ret (.bool true)) ∧ OldK s₁.heap s'.heap ∧ s'.os = s₁.os ∧ AllBare s'.gens) s₁) :
    WalkO q loose XP YP l.row.toRowW d [] (fun f vs => PySem.call f vs) := by
  intro w s₀ s₁ mg mb G Y fa o pm cd doc dV kV ho hd hcd hD hmg hg args vals as hpre hlay hrd hwl hlo
  obtain rfl : dV = .none := Dflts.none hD hdf
  obtain rfl : kV = .none := Dflts.noKw hD
  obtain ⟨a, vs, ns, rfl, rfl, hobj, hints, hlen⟩ := script_of hn hpre hwl
  refine enter_call (codeAny_mono (call w s₀ s₁ mg mb fa o pm cd doc a vs ns G Y ho (fd_plain hd) hcd hmg hobj hints hlen hg) fun r s' hq => ?_)
  obtain ⟨rfl, h2, h3, h4⟩ := hq
  exact ⟨.inl ⟨.bool true, .bool true, [], rfl, fun _ => rfl, .bool true, post_true l _, fun _ => ⟨List.Pairwise.nil, fun _ hm => (nomatch hm)⟩⟩, h2, h3, h4⟩
section
variable {prog : Program} {w : World} {A : Around} {E : Value → Shared → Prop} {s : Shared} {K : Frag}
end
end Att
namespace L2
open PySem PySem.Spec PyProof.Rows
theorem vals_ints : ∀ {vs : List Value} {ns : List Int}, IntsAre vs ns → Vals (ns.map V.int) vs
  | _, _, .nil => .nil
  | _, _, .cons n t h => .cons ⟨t, rfl⟩ (vals_ints h)
noncomputable def Only (H : Hp) : Prop := ∀ b, H b = none ∨ ∃ o xs, H b = some (.frz o (.lst xs))
theorem law_call {P : Program} {w : World} {K : PySem.W.Frag} {mg mb : Str → Option Value} {CX : CXT} {k : Nat} {fa a : Addr} {fd : FuncData} {x : Str} {sp : Sp} {s₁ : Shared} {vs : List Value} {ns : List Int}
    (KX : K.In s₁.heap) (hns : s₁.heap.Ns mainGlobals mg) (hb : s₁.heap.Ns builtinsNs mb) (hbb : ∀ x : Str, x ≠ "__name__" → mb x = bootBuiltins x) (hlim : s₁.heap.NoLimit) (hg : s₁.gens = #[])
    (ha : s₁.heap.get? a = some { cls := .type "list", data := .seq vs.toArray }) (hi : IntsAre vs ns) (hl : ns.length ≤ sizeLine) (hr : Room k callerA)
    (F : ∀ base : Heap, K.In base → base.Ns mainGlobals mg → FnOk P w K mg base CX k fa fd [x] sp) (hbind : ∀ (s : Shared) (u : Value), BindsTo s fd ⟨[u], []⟩ [(x, u)])
    (hsp : ∀ H : Hp, Only H → SqL K H a (ns.map V.int) → sp [.ref a] H (fun v _ => v = .bl true) fun _ _ _ => False)
    (hCX : ∀ H e s', CX [] H s₁ (fun _ _ _ => False) e s' → False) :
    codeAny (model P w) callerA (.call (.ref fa) ⟨[.ref a], []⟩) (fun r s' => r = .ok (.ret (.bool true)) ∧ OldK s₁.heap s'.heap ∧ s'.os = s₁.os ∧ AllBare s'.gens) s₁ := by
  have rv := vals_ints hi
  have lenV := hi.length
  -- from an abstract heap in which nothing but the script may be tracked
  have core : ∀ H : Hp, Only H → SqL K H a (ns.map V.int) → HOk P w H s₁.heap → (∀ b, H b ≠ none → b = a) → (H a ≠ none → K.lookup a = none) →
      codeAny (model P w) callerA (.call (.ref fa) ⟨[.ref a], []⟩) (fun r s' => r = .ok (.ret (.bool true)) ∧ OldK s₁.heap s'.heap ∧ s'.os = s₁.os ∧ AllBare s'.gens) s₁ := by
    intro H hO hS hok hA hK
    have base_of : ∀ {b : Addr} {o : Obj}, s₁.heap.get? b = some o → H b = none → (hidT s₁.heap H).get? b = some o := fun e n => hidT_get e n
    have noA : ∀ {b : Addr} {o : Obj} {es : Array DictEntry} {ep : Nat}, s₁.heap.get? b = some o → o.data = .dict es ep → H b = none := fun {b o es ep} e d => by
      cases q : H b with
      | none => rfl
      | some u =>
        have e' : b = a := hA b (by rw [q]; simp)
        subst e'
        rw [ha] at e; cases e
        have d' : Data.seq vs.toArray _ = Data.dict es ep := d
        cases d'
    have nsK : ∀ {b : Addr} {m : Str → Option Value}, s₁.heap.Ns b m → (hidT s₁.heap H).Ns b m := fun {b m} zq8 => by obtain ⟨o, es, ep, e, d, r⟩ := zq8; exact (⟨o, es, ep, base_of e (noA e d), d, r⟩)
    have hKb : K.In (hidT s₁.heap H) := fun b o e => base_of (KX b o e) (by
      cases q : H b with
      | none => rfl
      | some u =>
        have e' : b = a := hA b (by rw [q]; simp)
        subst e'
        rw [hK (by rw [q]; simp)] at e; cases e)
    have hM : Mod K mg (hidT s₁.heap H) := ⟨hKb, nsK hns, ⟨mb, nsK hb, hbb⟩, let ⟨mc, h1, h2⟩ := hlim; ⟨mc, nsK h1, h2⟩⟩
    have e0 : Env0 P w K mg (hidT s₁.heap H) callerA [] s₁ H := ⟨rfl, hM, fun b o e => of_hidT e, Nat.le_of_eq (hidT_size _ _), trivial, fun b hb => absurd (show b ∈ ([] : List Addr) from hb) (by simp), hok, .of_eq hg⟩
    refine codeAny_mono ((F _ hKb (nsK hns)).run callerA [] s₁ H ⟨[.ref a], []⟩ [.ref a] [.ref a] _ _ hr e0 (hbind s₁ (.ref a)) (.cons rfl .nil) (hsp H hO hS)) fun r s' h => ?_
    cases r with
    | error e => exact (hCX H e s' h).elim
    | ok fl =>
      cases fl with
      | next => exact False.elim h
      | brk => exact False.elim h
      | cont => exact False.elim h
      | ret u =>
        obtain ⟨v, H', os, bare, un, hok', r', q⟩ := h
        have q' : v = .bl true := q
        subst q'
        obtain rfl : u = Value.bool true := r'
        refine ⟨rfl, OldK.of_keep fun b o e => ?_, os, bare⟩
        cases q : H b with
        | none => exact un.keep b o e q (by intro z; exact absurd (show b ∈ ([] : List Addr) from z) (by simp)) (by simp)
        | some u =>
          rcases hO b with z | ⟨ob, xs, z⟩
          · rw [q] at z; cases z
          · have z2 := un.frzs b ob _ z
            obtain ⟨e1, _⟩ := hok b _ z
            obtain ⟨e2, _⟩ := hok' b _ z2
            rw [e] at e1; cases e1
            exact e2
  cases hk : K.lookup a with
  | some o =>
    -- the script is one of the module's own objects
    have e := KX a o hk
    rw [ha] at e
    cases e
    refine core (fun _ => none) (fun _ => .inl rfl) (.inr ⟨_, vs.toArray, _, hk, rfl, rfl, rfl, by rw [List.size_toArray, lenV]; exact hl, by simpa using rv⟩) (fun b u z => by have z' : (none : Option HO) = some u := z; cases z') (fun b z => absurd rfl z) fun z => absurd rfl z
  | none =>
    refine core (fun b => if b = a then some (.frz { cls := .type "list", data := .seq vs.toArray } (.lst (ns.map V.int))) else none) (fun b => ?_) (.inl (.inr ⟨{ cls := .type "list", data := .seq vs.toArray }, if_pos rfl⟩)) (fun b u z => ?_) (fun b z => ?_) fun _ => hk
    · by_cases hb : b = a
      · exact .inr ⟨_, _, if_pos hb⟩
      · exact .inl (if_neg hb)
    · by_cases hb : b = a
      · have z' := (if_pos hb).symm.trans z
        cases z'
        subst hb
        exact ⟨ha, by rw [List.length_map]; exact hl, vs, _, rv, ha⟩
      · have z' := (if_neg hb).symm.trans z
        cases z'
    · by_cases hb : b = a
      · exact hb
      · exact absurd (if_neg hb) z
end L2
namespace L2
open PySem PySem.Spec PyProof.Rows
noncomputable abbrev KOf {K : PySem.W.Frag} {h : Heap} (_ : K.In h) : PySem.W.Frag := K
theorem walk_of {l : PySem.W.OpenLaw} {n k : Nat} {q : Program} {loose : List Str} {XP : (Str → Option Value) → Heap → Prop} {YP : World → Heap → Prop} {d : DefRec} {K : Params → PySem.W.Frag} {CX : World → CXT} {sp : World → Sp} {x : Str}
    (hn : l.most = some n) (hn2 : n ≤ sizeLine) (hdf : d.params.defaults = []) (hr : Room k callerA)
    (hY : ∀ (w : World) (h : Heap), YP w h → (K w.params).In h)
    (F : ∀ (w : World) (mg : Str → Option Value) (fa : Addr) (h : Heap), (K w.params).In h → h.Ns mainGlobals mg → mg d.name = some (.ref fa) →
      ∃ fd : FuncData, (∀ (s : Shared) (u : Value), BindsTo s fd ⟨[u], []⟩ [(x, u)]) ∧
        ∀ base : Heap, (K w.params).In base → base.Ns mainGlobals mg → FnOk l.prog w (K w.params) mg base (CX w) k fa fd [x] (sp w))
    (hsp : ∀ (w : World) (H : Hp) (a : Addr) (ns : List Int), ns.length ≤ n → Only H → SqL (K w.params) H a (ns.map V.int) → sp w [.ref a] H (fun v _ => v = .bl true) fun _ _ _ => False)
    (hCX : ∀ (w : World) (H : Hp) (s : Shared) (e : Value) (s' : Shared), CX w [] H s (fun _ _ _ => False) e s' → False) :
    PySem.W.WalkO q loose XP YP l.row.toRowW d [] (fun f vs => PySem.call f vs) := by
  refine Att.attach_call hn hdf fun w s₀ s₁ mg mb fa o pm cd doc a vs ns G Y ho hd hcd hmg hobj hints hlen hg => ?_
  have KX := hY w _ Y
  obtain ⟨fd, hb, hF⟩ := F w mg fa _ KX G.T.g hmg
  exact law_call KX G.T.g G.T.b G.T.builtins G.T.nolimit hg hobj hints (Nat.le_trans hlen hn2) hr hF hb (fun H hO hS => hsp w H a ns hlen hO hS) fun H e s' => hCX w H s₁ e s'
end L2
/- THE LAST THEOREM (shape; LID, My.* are yours):
   My.Adr: a structure of the addresses that your layer names (classes, functions); My.Txt K t: a structure (Prop) of the equations over K;
   My.txt_mk : {K} {implicit addresses ..} (e1 : nsIn K mainGlobals "law" = some (some (.ref f))) (e2 : K.lookup f = some ⟨oc, od, .func (fnOf "law" "law" params body scope dV kV doc pm an cdv ct), sl⟩) (e3 : codeIn K cdv "law" = true) .. : ∃ t, My.Txt K t
set_option maxRecDepth 100000 in
set_option maxHeartbeats 0 in
theorem PySem.Challenge.cw_LID_holds : PySem.Challenge.rw_LID.Holds := by
  w_on; o_law; k_head; (case hw => w_witness2)
  k_fill
  refine L2.walk_of (l := PySem.Challenge.rw_LID) (n := 63) (k := 40) (x := "script") (CX := fun w => ..) (sp := fun _ => My.sp_law) rfl (by decide) rfl ⟨rfl, by decide, by decide⟩ (fun w h Y => PySem.W.kIn_of Y) ?F ?S ?C
  case F =>
    intro w mg fa h KX G hmg
    have T : ∃ t, My.Txt (L2.KOf KX) t := by
      dsimp only [L2.KOf]                          -- K must stand as «<heap const> w.params» for k_is
      refine' My.txt_mk ?e1 ?e2 ?e3 ..
      (case e1 => PySem.W.k_is)                    -- in the order: a name -> its address -> its object -> its parts
      (case e2 => PySem.W.k_is)
      ..
    obtain ⟨t, T⟩ := T
    have e0 := hmg.symm.trans (PySem.W.mg_of KX G T.law)
    cases e0                                       -- fa is the law's own address
    exact ⟨_, fun s u => .of_eq rfl, fun base kb nb => My.law_fn T kb nb⟩     -- if «.of_eq rfl» comes too early: refine' ⟨_, ?b, fun base kb nb => My.law_fn T kb nb⟩; exact fun s u => .of_eq rfl
  case S => exact fun w H a ns hl hO hS => ..
  case C => exact ..
(the tactic k_is has no namespace: write k_is) -/
namespace L2
open PySem PySem.Spec PyProof.Rows
noncomputable def defArgs (s : Stmt) : Arguments := match s with
  | .FunctionDef _ a _ _ _ _ _ _ _ _ => a
  | _ => { posonlyargs := [], args := [], vararg := none, kwonlyargs := [], kw_defaults := [], kwarg := none, defaults := [] }
noncomputable def defBody (s : Stmt) : List Stmt := match s with
  | .FunctionDef _ _ b _ _ _ _ _ _ _ => b
  | _ => []
noncomputable def defScope (s : Stmt) : Scope := match s with
  | .FunctionDef _ _ _ _ _ _ sc _ _ _ => sc
  | _ => { kind := .function, names := [], isGenerator := false, isCoroutine := false }
noncomputable abbrev CX0 : CXT := fun _ _ _ _ _ _ => False
noncomputable abbrev E0 : XK := fun _ _ _ => False
theorem pass0 {X : Cx} : Passes CX0 X E0 := fun _ _ _ _ _ _ _ h => h.elim
structure Fun (K : PySem.W.Frag) (x qual : Str) (st : Stmt) (f : Addr) (fd : FuncData) : Prop where
  ex : ∃ (oc : Value) (od : Option Addr) (kV doc pm : Value) (an : Option Addr) (cdv ct : Value) (osl : Array (Option Value)),
    fd = PySem.W.fnOf x qual (defArgs st) (defBody st) (defScope st) .none kV doc pm an cdv ct ∧ K.lookup f = some ⟨oc, od, .func fd, osl⟩ ∧ PySem.W.codeIn K cdv qual = true
  kp : PySem.W.keepIn K (.ref f) = true
section
variable {P : Program} {w : World} {K : PySem.W.Frag} {mg : Str → Option Value} {base : Heap}
theorem Fun.ok {x qual : Str} {st : Stmt} {f : Addr} {fd : FuncData} {N ps : List Str} {k : Nat} {sp : Sp} (F : Fun K x qual st f fd) (S : FnScope N ps (defScope st)) (len : ∀ vs H Q E, sp vs H Q E → vs.length = ps.length)
    (hbody : ∀ (cdv : Value) (A : Around) (outer : List Env) (s : Shared) (H : Hp) (vs : List V) (Q : VK) (E : XK), Room k (A.deeper (envOfC qual (defScope st) s.heap.objs.size f cdv)) → sp vs H Q E →
      ∃ t, PSs (cxOf CX0 P w K mg base N qual (defScope st) f cdv A outer s H E).nox (defBody st) t ∧ t { nx := fun _ H' => Q .non H', rt := Q } (start N vs) H) : FnOk P w K mg base CX0 (k + 1) f fd ps sp := by
  obtain ⟨oc, od, kV, doc, pm, an, cdv, ct, osl, rfl, lk, hcd⟩ := F.ex
  refine fn_of lk hcd S len fun A outer s H vs Q E hr hsp => ?_
  obtain ⟨t, h, q⟩ := hbody cdv A outer s H vs Q E hr hsp
  exact ⟨t, h.nox, q⟩
theorem Fun.binds {x qual : Str} {st : Stmt} {f : Addr} {fd : FuncData} {ps : List Str} (F : Fun K x qual st f fd)
    (h : ∀ (kV doc pm : Value) (an : Option Addr) (cdv ct : Value) (us : List Value), us.length = ps.length → bindArgs (PySem.W.fnOf x qual (defArgs st) (defBody st) (defScope st) .none kV doc pm an cdv ct) ⟨us, []⟩ = pure (ps.zip us)) : Binds K fd ps [] := by
  obtain ⟨oc, od, kV, doc, pm, an, cdv, ct, osl, rfl, lk, hcd⟩ := F.ex
  exact .all (h kV doc pm an cdv ct)
theorem fun_mk {x qual : Str} {st : Stmt} {f : Addr} {oc : Value} {od an : Option Addr} {osl : Array (Option Value)} {kV doc pm cdv ct : Value} (l : K.lookup f = some ⟨oc, od, .func (PySem.W.fnOf x qual (defArgs st) (defBody st) (defScope st) .none kV doc pm an cdv ct), osl⟩)
    (c : PySem.W.codeIn K cdv qual = true) (k : PySem.W.keepIn K (.ref f) = true) : Fun K x qual st f (PySem.W.fnOf x qual (defArgs st) (defBody st) (defScope st) .none kV doc pm an cdv ct) := ⟨⟨oc, od, kV, doc, pm, an, cdv, ct, osl, rfl, l, c⟩, k⟩
end
theorem hu_of {A : Around} {k : Nat} (hr : Room k A) : A.units + 1 < cLine := Nat.lt_of_le_of_lt (Nat.add_le_add_left (by decide : 1 ≤ 64) _) hr.units
theorem small1000 {n : Nat} (h : n ≤ 1000) : n < sizeLine := Nat.lt_of_le_of_lt h (by decide)
section
variable {X : Cx}
end
theorem ite2 {c A B : Prop} [Decidable c] (h1 : c → A) (h2 : ¬ c → B) : if c then A else B := by
  by_cases h : c
  · rw [if_pos h]
    exact h1 h
  · rw [if_neg h]
    exact h2 h
noncomputable def Same (H H' : Hp) : Prop := ∀ b o, H b = some o → H' b = some o
theorem Same.refl (H : Hp) : Same H H := fun _ _ h => h
theorem Same.trans {H H1 H2 : Hp} (a : Same H H1) (b : Same H1 H2) : Same H H2 := fun c o h => b c o (a c o h)
theorem Same.free {H H' : Hp} (e : Same H H') {l : Addr} (h : H' l = Option.none) : H l = Option.none := by
  cases q : H l with
  | none => rfl
  | some o =>
    rw [e l o q] at h
    cases h
theorem Same.seq {K : PySem.W.Frag} {H H' : Hp} {a : Addr} {xs : List V} (e : Same H H') (h : SqL K H a xs) : SqL K H' a xs := by
  rcases h with (h | ⟨o, h⟩) | h
  · exact .inl (.inl (e _ _ h))
  · exact .inl (.inr ⟨o, e _ _ h⟩)
  · exact .inr h
end L2
namespace L2
open PySem PySem.Spec PyProof.Rows
section
variable {X : Cx}
end
section
variable {κ : Type} [DecidableEq κ]
theorem valV_not {kvs : List (κ × V)} {k : κ} (h : valV kvs k = none) : ¬ k ∈ kvs.map (·.1) := by
  intro m
  obtain ⟨p, hp, e⟩ := List.mem_map.mp m
  have q : (kvs.any fun kv => decide (kv.1 = k)) = true := List.any_eq_true.mpr ⟨p, hp, decide_eq_true e⟩
  rw [valV_any, h] at q
  exact absurd q (by simp)
theorem nd_snoc : ∀ {l : List κ} {k : κ}, l.Nodup → ¬ k ∈ l → (l ++ [k]).Nodup
  | [], k, _, _ => by simp
  | a :: r, k, h, hk => by
    obtain ⟨h1, h2⟩ := List.nodup_cons.mp h
    show (a :: (r ++ [k])).Nodup
    refine List.nodup_cons.mpr ⟨fun m => ?_, nd_snoc h2 fun m => hk (List.mem_cons.mpr (Or.inr m))⟩
    rcases List.mem_append.mp m with q | q
    · exact h1 q
    · exact hk (List.mem_cons.mpr (Or.inl (List.mem_singleton.mp q).symm))
theorem nd_putK {kvs : List (κ × V)} {k : κ} (v : V) (hn : (kvs.map (·.1)).Nodup) (h : valV kvs k = none) : ((putK kvs k v).map (·.1)).Nodup := by
  rw [putK_new v h, List.map_append]
  exact nd_snoc hn (valV_not h)
theorem dropK_mem {kvs : List (κ × V)} {k : κ} {p : κ × V} (h : p ∈ dropK kvs k) : p ∈ kvs := (List.mem_filter.mp h).1
end
end L2
set_option Elab.async false
set_option linter.all false
set_option maxRecDepth 100000
namespace L2
open PySem PySem.Spec PyProof.Rows
theorem compLoop_any {prog : Program} {w : World} {A : Around} {R : Result → Shared → Prop} {s : Shared} {elt target iter : Expr} {ifs : List Expr} {scope : Scope} {pos : Pos} {it acc : Value} {env : Env} (I : Nat → Shared → Prop)
    (turn : ∀ n s, I n s → wpAny (model prog w) A (pyNext it) (fun r s₁ => match r with
      | none => R (.ok .next) s₁
      | some v => wpAny (model prog w) A (letOwnedTupleGo target it v) (fun _ s₁ => wpAny (model prog w) A (assign target env v) (fun _ s₂ =>
          wpAny (model prog w) A (forIn ifs true fun c r => if r = true then do let ok ← isTrue c env (eval c env); pure (ForInStep.yield ok) else pure (ForInStep.yield r)) (fun ok s₃ =>
            if ok = true then wpAny (model prog w) A (eval elt env) (fun x s₄ =>
              wpAny (model prog w) A (call (.builtin "list.append") [acc, x]) (fun _ s₅ => ∃ m, m < n ∧ I m s₅) (notedBy (model prog w) A env fun e s' => R (.error e) s') s₄) (notedBy (model prog w) A env fun e s' => R (.error e) s') s₃
            else ∃ m, m < n ∧ I m s₃) (notedBy (model prog w) A env fun e s' => R (.error e) s') s₂) (notedBy (model prog w) A env fun e s' => R (.error e) s') s₁) (notedBy (model prog w) A env fun e s' => R (.error e) s') s₁) (notedBy (model prog w) A env fun e s' => R (.error e) s') s)
    (n : Nat) (h : I n s) :
    codeAny (model prog w) A (.compLoop (.ListComp elt [⟨target, iter, ifs, 0⟩] scope pos) 0 it acc env) R s := by
  refine codeAny_loop rfl I (fun n s hI => ?_) n h
  show wpAny _ A ((compTurn (.ListComp elt [⟨target, iter, ifs, 0⟩] scope pos) 0 it acc env).onRaise (fun x => do noteFrame x env; theTreesLotGoes x)) _ _ s
  refine wpAny_noted ?_
  rw [compTurn_list]
  refine wpAny_bind (wpAny_standAt (wpAny_bind (wpAny_mono (turn n s hI) (fun r s₁ h₁ => ?_) fun _ _ h' => h')))
  cases r with
  | none => exact wpAny_pure h₁
  | some v =>
    refine wpAny_bind (wpAny_mono h₁ (fun _ s₁ h₁ => ?_) fun _ _ h' => h')
    refine wpAny_bind (wpAny_mono h₁ (fun _ s₂ h₂ => wpAny_bind (wpAny_mono h₂ (fun ok s₃ h₃ => ?_) fun _ _ h' => h')) fun _ _ h' => h')
    cases ok with
    | false => exact wpAny_pure ⟨rfl, h₃⟩
    | true =>
      exact wpAny_bind (wpAny_bind (wpAny_mono h₃ (fun x s₄ h₄ => wpAny_bind (wpAny_mono h₄ (fun _ s₅ h₅ => wpAny_pure (wpAny_pure ⟨rfl, h₅⟩)) fun _ _ h' => h')) fun _ _ h' => h'))
noncomputable def PTs (X : Cx) (ifs : List Expr) (t : TT) : Prop :=
  ∀ (pins : List (Addr × Obj)) (s : Shared) (σ : St) (H : Hp) (Q : Bool → Hp → Prop), Inv X pins σ H s → t σ H Q →
    wpAny (model X.prog X.w) X.A (forIn ifs true fun c r => if r = true then do let ok ← isTrue c X.env (eval c X.env); pure (ForInStep.yield ok) else pure (ForInStep.yield r)) (TP X pins σ Q) X.xe s
noncomputable def tYes : TT := fun _ H Q => Q true H
theorem pts_nil {X : Cx} : PTs X [] tYes := fun _ _ _ H _ I h => wpAny_tests_nil ⟨H, I, h⟩
theorem pts_one {X : Cx} {c : Expr} {t : TT} (hc : PT X c t) : PTs X [c] t := fun pins s σ H Q I h => wpAny_tests_one (hc pins s σ H Q I h)
theorem closure_of {env : Env} : ∀ (names : List (Str × NameKind)) (acc : List (Str × Addr)), (∀ x ∈ names, x.2 = .free → ∃ c, env.cells.lookup x.1 = some c) →
    ∃ cl, (forIn (m := Sem) names acc fun x r => match x with
      | (name, kind) => if (kind == NameKind.free) = true then do let c ← cellOf env name; pure (ForInStep.yield ((name, c) :: r)) else pure (ForInStep.yield r)) = pure cl ∧
      (∀ x c, cl.lookup x = some c → acc.lookup x = some c ∨ env.cells.lookup x = some c) ∧ (∀ x, (acc.lookup x).isSome = true → (cl.lookup x).isSome = true) ∧ (∀ x, (x, NameKind.free) ∈ names → (cl.lookup x).isSome = true)
  | [], acc, _ => ⟨acc, rfl, fun x c h => .inl h, fun x h => h, fun x h => nomatch h⟩
  | (n, k) :: r, acc, h => by
    by_cases hk : k = .free
    · subst hk
      obtain ⟨c, hc⟩ := h (n, .free) List.mem_cons_self rfl
      obtain ⟨cl, e, h1, h2, h3⟩ := closure_of r ((n, c) :: acc) (fun x hx => h x (List.mem_cons_of_mem _ hx))
      refine ⟨cl, ?_, fun x d hd => ?_, fun x hx => h2 x ?_, fun x hx => ?_⟩
      · simp only [List.forIn_cons, beq_self_eq_true, if_true, cellOf, hc]
        exact e
      · rcases h1 x d hd with q | q
        · simp only [List.lookup_cons] at q
          split at q
          · rename_i hb
            have : x = n := by simpa using hb
            subst this
            cases q
            exact .inr hc
          · exact .inl q
        · exact .inr q
      · simp only [List.lookup_cons]
        split
        · rfl
        · exact hx
      · rcases List.mem_cons.mp hx with q | q
        · cases q
          exact h2 n (by simp)
        · exact h3 x q
    · obtain ⟨cl, e, h1, h2, h3⟩ := closure_of r acc (fun x hx => h x (List.mem_cons_of_mem _ hx))
      refine ⟨cl, ?_, h1, h2, fun x hx => ?_⟩
      · have : (k == NameKind.free) = false := by simpa using hk
        simp only [List.forIn_cons, this, Bool.false_eq_true, if_false]
        exact e
      · rcases List.mem_cons.mp hx with q | q
        · cases q
          exact absurd rfl hk
        · exact h3 x q
noncomputable def compCx (X : Cx) (scope : Scope) (N : List Str) (cl : List (Str × Addr)) (C : Addr) (fp : List Addr) (s : Shared) (H : Hp) (xe : Value → Shared → Prop) : Cx where
  prog := X.prog
  w := X.w
  K := X.K
  mg := X.mg
  base := X.base
  A := X.A
  N := N
  s₀ := s
  H₀ := H
  env := compEnvC scope cl C X.env
  outer := X.stack
  stack := X.stack
  ex := fp
  fn := fun _ => false
  calm := X.calm
  pn := []
  xe := xe
noncomputable def inner (nt : Nat) (js : List Nat) (σ : St) : St := List.replicate nt none ++ js.map fun j => (σ[j]?).join
noncomputable def Wk (σ0 σ2 : St) : Prop := σ0.length = σ2.length ∧ ∀ (i : Nat) v, σ0[i]? = some (some v) → σ2[i]? = some (some v)
noncomputable def TgOk (g : TG) (nt : Nat) : Prop := ∀ (x : V) (σ0 : St) (H : Hp) (Q : St → Hp → Prop), (∀ i, i < nt → σ0[i]? = some none) → g x σ0 H Q → g x σ0 H fun σ2 H2 => Wk σ0 σ2 ∧ Q σ2 H2
theorem Wk.set {σ0 : St} {i : Nat} {v : V} (h : σ0[i]? = some none) : Wk σ0 (σ0.set i (some v)) := by
  refine ⟨by simp, fun j w e => ?_⟩
  by_cases hj : j = i
  · subst hj; rw [h] at e; cases e
  · rw [List.getElem?_set_ne (Ne.symm hj)]; exact e
theorem Wk.trans {a b c : St} (h : Wk a b) (h' : Wk b c) : Wk a c := ⟨h.1.trans h'.1, fun i v e => h'.2 i v (h.2 i v e)⟩
theorem tgOk_name {i nt : Nat} (hi : i < nt) : TgOk (gName i) nt := fun x σ0 H Q h q => ⟨Wk.set (h i hi), q⟩
theorem inner_none {nt : Nat} {js : List Nat} {σ : St} : ∀ i, i < nt → (inner nt js σ)[i]? = some none := fun i hi => by
  unfold inner
  rw [List.getElem?_append_left (by simpa using hi)]
  simp [hi]
noncomputable def tComp (nt : Nat) (js : List Nat) (wi : TI) (g : TG) (tc : TT) (te : TE) : TE := fun σ H Q => wi σ H fun J H1 => ∀ D, H1 D = none → ∃ W : Nat → Nat → List V → Hp → Prop, (∃ m, W 0 m [] (upd H1 D (.lst []))) ∧
  ∀ i m ys H2, W i m ys H2 → (J.stop i H2 ∧ Q (.ref D) H2) ∨ (J.go i H2 ∧ ∃ N : List V → Hp → Prop, (∀ ys' H', N ys' H' → ∃ m', m' < m ∧ W (i + 1) m' ys' H') ∧
    ∀ x H', J.yld i H2 x H' → g x (inner nt js σ) H' fun σ2 H3 => tc σ2 H3 fun b H4 => if b = true then te σ2 H4 fun y H5 => H5 D = some (.lst ys) ∧ ys.length < sizeLine ∧ N (ys ++ [y]) (upd H5 D (.lst (ys ++ [y]))) else N ys H4)
section
variable {X : Cx}
structure CompOk (X : Cx) (scope : Scope) (N : List Str) (nt : Nat) (js : List Nat) : Prop where
  kind : scope.kind = .function
  nd : N.Nodup
  len : N.length = nt + js.length
  /-- each name of around: its slot there, where it is a cell or free -/
  at_ : ∀ (k : Nat) (j : Nat) (x : Str), js[k]? = some j → N[nt + k]? = some x → X.N[j]? = some x ∧ (X.env.scope.names.lookup x = some .cell ∨ X.env.scope.names.lookup x = some .free)
  frl : ∀ (k : Nat) (x : Str), N[nt + k]? = some x → scope.names.lookup x = some .free
  own : ∀ y ∈ scope.names, y.2 ≠ .cell
  loc : ∀ y ∈ scope.names, y.2 = .local → scope.names.lookup y.1 = some .local
  free : ∀ y ∈ scope.names, y.2 = .free → X.env.scope.names.lookup y.1 = some .cell ∨ X.env.scope.names.lookup y.1 = some .free
theorem relabel_free {env : Env} : ∀ {names : List (Str × NameKind)} {x : Str}, ((names.map fun (n, k) => if (k == NameKind.free && env.scope.kind == .function && env.kindOf n == some .cell) then (n, NameKind.cell) else (n, k)).lookup x = some .cell ∨ (names.map fun (n, k) => if (k == NameKind.free && env.scope.kind == .function && env.kindOf n == some .cell) then (n, NameKind.cell) else (n, k)).lookup x = some .free) →
    (∀ y ∈ names, y.2 ≠ .cell) → (x, NameKind.free) ∈ names
  | [], x, h, _ => by rcases h with h | h <;> simp at h
  | (n, k) :: r, x, h, hc => by
    have ih := @relabel_free env r x
    have hr : ∀ y ∈ r, y.2 ≠ .cell := fun y hy => hc y (List.mem_cons_of_mem _ hy)
    cases hx : x == n with
    | true =>
      have e : x = n := by simpa using hx
      subst e
      have kf : k = .free := by
        simp only [List.map_cons] at h
        by_cases q : (k == NameKind.free && env.scope.kind == .function && env.kindOf x == some .cell) = true
        · simp only [Bool.and_eq_true, beq_iff_eq] at q
          exact q.1.1
        · rw [if_neg q] at h
          simp only [List.lookup_cons, beq_self_eq_true] at h
          rcases h with h | h
          · cases h
            exact absurd rfl (hc _ List.mem_cons_self)
          · exact Option.some.inj h
      subst kf
      exact List.mem_cons_self
    | false =>
      refine List.mem_cons_of_mem _ (ih ?_ hr)
      simp only [List.map_cons] at h
      by_cases q : (k == NameKind.free && env.scope.kind == .function && env.kindOf n == some .cell) = true
      · rw [if_pos q] at h; simpa only [List.lookup_cons, hx] using h
      · rw [if_neg q] at h; simpa only [List.lookup_cons, hx] using h
theorem lookup_relabel_free {env : Env} : ∀ {names : List (Str × NameKind)} {x : Str}, names.lookup x = some .free →
    ((names.map fun (n, k) => if (k == NameKind.free && env.scope.kind == .function && env.kindOf n == some .cell) then (n, NameKind.cell) else (n, k)).lookup x = some .cell ∨ (names.map fun (n, k) => if (k == NameKind.free && env.scope.kind == .function && env.kindOf n == some .cell) then (n, NameKind.cell) else (n, k)).lookup x = some .free)
  | [], _, h => by simp at h
  | (n, k) :: r, x, h => by
    have ih := @lookup_relabel_free env r x
    simp only [List.map_cons]
    cases hx : x == n with
    | true =>
      simp only [List.lookup_cons, hx] at h
      cases h
      by_cases q : (NameKind.free == NameKind.free && env.scope.kind == .function && env.kindOf n == some .cell) = true
      · rw [if_pos q]; simp only [List.lookup_cons, hx]; simp
      · rw [if_neg q]; simp only [List.lookup_cons, hx]; simp
    | false =>
      simp only [List.lookup_cons, hx] at h
      by_cases q : (k == NameKind.free && env.scope.kind == .function && env.kindOf n == some .cell) = true
      · rw [if_pos q]; simp only [List.lookup_cons, hx]; exact ih h
      · rw [if_neg q]; simp only [List.lookup_cons, hx]; exact ih h
theorem comp_start {scope : Scope} {N : List Str} {nt : Nat} {js : List Nat} {cl : List (Str × Addr)} {fp : List Addr} {pins : List (Addr × Obj)} {σ : St} {H H1 : Hp} {s : Shared} {h' : Heap} {C : Addr} {tk : Nat} {xe : Value → Shared → Prop} {m : Str → Option Value}
    (S : CompOk X scope N nt js) (I : Inv X pins σ H s) (hf : ∀ b ∈ fp, FpOk X pins H b) (hcl : ∀ x c, cl.lookup x = some c → X.env.cells.lookup x = some c) (hcl2 : ∀ x, (x, NameKind.free) ∈ scope.names → (cl.lookup x).isSome = true)
    (hfp : ∀ b ∈ fp, b < s.heap.objs.size) (hC : s.heap.objs.size ≤ C) (k : ∀ b o, s.heap.get? b = some o → h'.get? b = some o) (hs : ∀ b o, H b = some o → H1 b = some o) (hs2 : ∀ b, H b = none → b < s.heap.objs.size → H1 b = none) (hok : HOk X.prog X.w H1 h') (hn : h'.Ns C m) (hC0 : H1 C = none)
    (hm : ∀ x, m x = none) :
    Inv (compCx X scope N cl C fp s H xe) [] (inner nt js σ) H1 { s with heap := h', toks := tk } := by
  have hfs : ∀ b ∈ fp, b ∉ frs X.stack := fun b hb z => by
    obtain ⟨f0, f1, f2, _⟩ := hf b hb
    rcases List.mem_cons.mp (I.stkSub b z) with q | q
    · exact f1 q
    · exact f2 q
  refine ⟨⟨I.ok.mod, S.kind, I.ok.glob, I.ok.blt, hC, fun x y c h1 h2 => I.ok.inj x y c (hcl x c h1) (hcl y c h2), fun x hx => ?_, fun x c z => (Bool.false_ne_true z).elim, I.ok.hd, I.ok.frames, .inl rfl, fun b hb => ?_, I.bs, Nat.le_trans I.ok.bsz I.sz, fun b o e hb => ?_, hfs, I.stack, I.stkFree⟩,
    rfl, I.bare, ?_, ⟨m, hn, fun i x v h1 h2 h3 => ?_⟩, fun x c e => ?_, hC0, fun x c e => ?_, fun p hp => absurd (show p ∈ ([] : List (Addr × Obj)) from hp) (by simp), hok, ?_⟩
  · have q : (x, NameKind.free) ∈ scope.names := relabel_free (env := X.env) hx S.own
    exact Option.isSome_iff_exists.mp (hcl2 x q)
  · obtain ⟨f0, f1, f2, f3, f4, f5⟩ := hf b hb
    refine ⟨Nat.ne_of_lt (Nat.lt_of_lt_of_le (hfp b hb) hC), fun x c e => f4 x c (hcl x c e)⟩
  · have := hf b hb
    obtain ⟨f0, f1, f2, f3, f4, f5⟩ := this
    rcases f3 with f3 | f3
    · exact I.ok.noex b o e f3
    · exact absurd (Nat.lt_of_lt_of_le (Heap.lt_size e) (Nat.le_trans I.ok.bsz f3)) (Nat.lt_irrefl _)
  · refine ⟨fun b o e n _ _ => k b o e, fun b o e n _ _ => ⟨o.slots, k b o e⟩, fun b o e n _ => hs2 b n (Heap.lt_size e), fun b o e _ => ⟨o, k b o e⟩, fun b xs e => hs b _ e, fun b o u e => hs b _ e, fun b ps e => ⟨#[], by rw [hs b _ e]; simp⟩⟩
  · by_cases hi : i < nt
    · rw [inner_none i hi] at h2; cases h2
    · obtain ⟨k', rfl⟩ : ∃ k', i = nt + k' := ⟨i - nt, by omega⟩
      unfold inner at h2
      rw [List.getElem?_append_right (by simp)] at h2
      simp only [List.length_replicate, Nat.add_sub_cancel_left, List.getElem?_map] at h2
      cases ej : js[k']? with
      | none => rw [ej] at h2; cases h2
      | some j =>
        rw [ej] at h2
        simp only [Option.map_some, Option.some.injEq] at h2
        obtain ⟨hN, hk⟩ := S.at_ k' j x ej h1
        have hσ : σ[j]? = some (some v) := by
          cases q : σ[j]? with
          | none => rw [q] at h2; cases h2
          | some z => rw [q] at h2; simp only [Option.join] at h2; rw [← h2]; rfl
        have vis : Vis X.env.scope x := by rcases hk with q | q; exact .inr (.inl q); exact .inr (.inr q)
        obtain ⟨m0, hn0, hl0⟩ := I.loc
        obtain ⟨u, r, l⟩ := hl0 j x v hN hσ vis
        refine ⟨u, r, ?_⟩
        rcases l with ⟨q, _⟩ | ⟨q, c, e, z⟩
        · have q' : X.env.scope.names.lookup x = some .local := q
          rw [q'] at hk
          rcases hk with hk | hk <;> cases hk
        · have hv : (relabel scope X.env).names.lookup x = some .cell ∨ (relabel scope X.env).names.lookup x = some .free := lookup_relabel_free (env := X.env) (S.frl k' x h1)
          have q : (x, NameKind.free) ∈ scope.names := relabel_free (env := X.env) hv S.own
          obtain ⟨c', e'⟩ := Option.isSome_iff_exists.mp (hcl2 x q)
          have e2 := hcl x c' e'
          rw [e] at e2; cases e2
          obtain ⟨oc, hoc, hd⟩ := z
          exact .inr ⟨hv, c, e', oc, k _ _ hoc, hd⟩
  · obtain ⟨v, oc, hoc, hd⟩ := I.cell x c (hcl x c e)
    exact ⟨v, oc, k _ _ hoc, hd⟩
  · have e2 := hcl x c e
    obtain ⟨v, oc, hoc, hd⟩ := I.cell x c e2
    exact hs2 c (I.freeC x c e2) (Heap.lt_size hoc)
  · unfold inner
    show _ = N.length
    rw [S.len]
    simp
theorem Inv.wk {Y : Cx} {pins : List (Addr × Obj)} {σ0 σ2 : St} {H : Hp} {s : Shared} (I : Inv Y pins σ2 H s) (h : Wk σ0 σ2) : Inv Y pins σ0 H s := I.weak h.1 h.2
theorem pe_comp {elt tg iter : Expr} {ifs : List Expr} {scope : Scope} {pos : Pos} {N : List Str} {nt : Nat} {js : List Nat} {wi : TI} {g : TG} {tc : TT} {te : TE}
    (hca : X.calm = true) (S : CompOk X scope N nt js) (hi : PI X tg iter wi)
    (hg : ∀ cl C fp s H xe, PG (compCx X scope N cl C fp s H xe) tg g) (hgo : TgOk g nt)
    (hc : ∀ cl C fp s H xe, PTs (compCx X scope N cl C fp s H xe) ifs tc)
    (he : ∀ cl C fp s H xe, PE (compCx X scope N cl C fp s H xe) elt te)
    (hs : ∀ x, foldedSetIterable iter X.env x = pure x := by intro _; rfl) :
    PE X (.ListComp elt [⟨tg, iter, ifs, 0⟩] scope pos) (tComp nt js wi g tc te) := by
  intro pins s σ H Q I h
  obtain ⟨cl, hclos, hcl1, _, hcl2⟩ := closure_of (env := X.env) scope.names [] (fun x hx hk => I.ok.has x.1 (S.free x hx hk))
  have hcl : ∀ x c, cl.lookup x = some c → X.env.cells.lookup x = some c := fun x c e => (hcl1 x c e).elim (fun z => by simp at z) fun z => z
  have hclos' : closureFor scope X.env = pure cl := by
    unfold closureFor
    simp only []
    rw [hclos]
    rfl
  rw [eval_ListComp]
  refine wpAny_comprehension_free (use := none) rfl hs hclos' S.kind S.loc (thn (hi pins s σ H _ I h) fun v s1 h1 => thn h1 fun itv s2 h2 => ?_)
  obtain ⟨it, fp, tn, J, H2, e, I2, T, st2, f2, q2⟩ := h2
  subst e
  have hfresh : H2 s2.heap.objs.size = none := I2.hok.fresh (Nat.le_refl _)
  obtain ⟨W, ⟨m0, w0⟩, turn⟩ := q2 s2.heap.objs.size hfresh
  refine wpAny_newObj_type (wpAny_newFunctionEnv S.own (by intro y hy; simp at hy) (fun h₁ hns₁ hsb₁ => ?_) S.kind)
  dsimp only at hns₁ hsb₁ ⊢
  generalize hG : s2.heap.push { cls := .type "list", dict := none, data := .seq ([] : List Value).toArray } = G at hns₁ hsb₁ ⊢
  have hGs : G.objs.size = s2.heap.objs.size + 1 := by rw [← hG, Heap.size_push]
  have kold : ∀ b o, s2.heap.get? b = some o → h₁.get? b = some o := fun b o e =>
    hsb₁.extBut b o (by rw [hGs]; exact Nat.ne_of_lt (Nat.lt_succ_of_lt (Heap.lt_size e))) (Heap.get?_push_of_some _ (hG ▸ Heap.get?_push_of_some _ e))
  have kD : h₁.get? s2.heap.objs.size = some { cls := .type "list", dict := none, data := .seq ([] : List Value).toArray } :=
    hsb₁.extBut _ _ (by rw [hGs]; exact Nat.ne_of_lt (Nat.lt_succ_self _)) (Heap.get?_push_of_some _ (hG ▸ Heap.get?_push_size _ rfl))
  have hok1 : HOk X.prog X.w (upd H2 s2.heap.objs.size (.lst [])) h₁ := I2.hok.laid kold (Nat.le_refl _) ⟨Nat.zero_le _, [], 0, .nil, kD⟩
  have hfpl : ∀ b ∈ fp, b < s2.heap.objs.size := fun b hb => by
    obtain ⟨o, e, _⟩ := T.obj _ _ st2 b hb
    exact Heap.lt_size e
  have hC0 : (upd H2 s2.heap.objs.size (.lst [])) G.objs.size = none := by
    rw [upd_ne (by rw [hGs]; exact Nat.ne_of_gt (Nat.lt_succ_self _))]
    exact I2.hok.fresh (by rw [hGs]; exact Nat.le_succ _)
  generalize hRR : (compPost (model X.prog X.w) X.A X.xe none (EP X pins σ Q) (.ref s2.heap.objs.size) G.objs.size) = RR
  have stat : ∀ {H' : Hp}, (∀ b ∈ fp, H' b = none) → ∀ b ∈ fp, FpOk (compCx X scope N cl G.objs.size fp s2 H2 (notedBy (model X.prog X.w) X.A (compEnvC scope cl G.objs.size X.env) fun e s' => RR (.error e) s')) [] H' b := fun {H'} hn b hb => by
    obtain ⟨f0, f1, f2', f3, f4, f5⟩ := f2 b hb
    refine ⟨hn b hb, Nat.ne_of_lt (Nat.lt_of_lt_of_le (hfpl b hb) (by show _ ≤ G.objs.size; rw [hGs]; exact Nat.le_succ _)), fun z => ?_, .inl hb, fun x c e => f4 x c (hcl x c e), fun p hp => absurd (show p ∈ ([] : List (Addr × Obj)) from hp) (by simp)⟩
    rcases List.mem_cons.mp (I2.stkSub b z) with q | q
    · exact f1 q
    · exact f2' q
  have I3 : ∀ tk, Inv (compCx X scope N cl G.objs.size fp s2 H2 (notedBy (model X.prog X.w) X.A (compEnvC scope cl G.objs.size X.env) fun e s' => RR (.error e) s')) [] (inner nt js σ) (upd H2 s2.heap.objs.size (.lst [])) { s2 with heap := h₁, toks := tk } := fun tk =>
    comp_start S I2 f2 hcl hcl2 hfpl (by rw [hGs]; exact Nat.le_succ _) kold (fun b o e => by rw [upd_ne (ne_of_none e hfresh)]; exact e) (fun b n hb => by rw [upd_ne (Nat.ne_of_lt hb)]; exact n) hok1 hns₁ hC0 (fun _ => rfl)
  have loop : ∀ s₃ : Shared, s₃ = { s2 with heap := h₁, toks := s2.toks + ([] : List (Str × Value)).length } →
      codeAny (model X.prog X.w) X.A (.compLoop (.ListComp elt [⟨tg, iter, ifs, 0⟩] scope pos) 0 (.ref it) (.ref s2.heap.objs.size) (compEnvC scope cl G.objs.size X.env)) RR s₃ := by
    rintro s₃ rfl
    refine compLoop_any (fun n s' => ∃ i ys H', Inv (compCx X scope N cl G.objs.size fp s2 H2 (notedBy (model X.prog X.w) X.A (compEnvC scope cl G.objs.size X.env) fun e s' => RR (.error e) s')) [] (inner nt js σ) H' s' ∧ tn i s'.heap ∧ (∀ b ∈ fp, H' b = none) ∧ W i n ys H') ?_ m0
      ⟨0, [], _, I3 _, T.keep _ _ _ st2 fun b hb o e => kold b o e, fun b hb => by rw [upd_ne (Nat.ne_of_lt (hfpl b hb))]; exact (f2 b hb).1, w0⟩
    rintro n s3 ⟨i, ys, H3, J3, st3, fr3, w3⟩
    rcases turn i n ys H3 w3 with ⟨stop, qn⟩ | ⟨go, NN, hN, step⟩
    · refine thn (T.done (compCx X scope N cl G.objs.size fp s2 H2 (notedBy (model X.prog X.w) X.A (compEnvC scope cl G.objs.size X.env) fun e s' => RR (.error e) s')) rfl rfl rfl hca i [] s3 (inner nt js σ) H3 _ J3 (stat fr3) st3 stop) fun r s4 zr3475 => ?_
      obtain ⟨hr, I4⟩ := zr3475
      subst hr
      show RR (.ok .next) s4
      rw [← hRR]
      obtain ⟨mC, hnC, _⟩ := id I4.loc
      refine ⟨mC, hnC, fun h'' hs'' => ?_⟩
      have keepC : ∀ b o, b ≠ G.objs.size → s4.heap.get? b = some o → h''.get? b = some o := fun b o hb e => hs''.extBut b o hb e
      have un : Un (frs X.stack) fp H2 H3 s2.heap h'' := by
        have u := I4.base
        refine ⟨fun b o e n hb hx => keepC b o ?_ (u.keep b o e n hb hx), fun b o e n hb hx => ?_, u.free, fun b o e hx => ?_, u.tups, u.frzs, u.tbls⟩
        · exact Nat.ne_of_lt (Nat.lt_of_lt_of_le (Heap.lt_size e) (by rw [hGs]; exact Nat.le_succ _))
        · obtain ⟨sl, e1⟩ := u.slot b o e n hb hx
          exact ⟨sl, keepC b _ (Nat.ne_of_lt (Nat.lt_of_lt_of_le (Heap.lt_size e) (by rw [hGs]; exact Nat.le_succ _))) e1⟩
        · obtain ⟨o', e1⟩ := u.there b o e hx
          exact ⟨o', keepC b _ (Nat.ne_of_lt (Nat.lt_of_lt_of_le (Heap.lt_size e) (by rw [hGs]; exact Nat.le_succ _))) e1⟩
      have hok' : HOk X.prog X.w H3 h'' := fun b u e => (I4.hok b u e).stay (fun c v hc q => keepC c v (by
          have cf : H3 G.objs.size = none := I4.free
          rintro rfl
          rcases hc with z | z
          · rw [z] at cf; rw [cf] at e; cases e
          · rw [cf] at z; cases z) q) (fun _ q => q) fun _ _ q => q
      exact ⟨.ref s2.heap.objs.size, H3, I2.call' (s' := { s4 with heap := h'' }) I4.os un hok' I4.bare (fun b hb => by
        obtain ⟨f0, f1, f2', f3, f4, f5⟩ := f2 b hb
        exact ⟨f3, f1, f4, f5⟩), rfl, qn⟩
    · refine thn (T.item (compCx X scope N cl G.objs.size fp s2 H2 (notedBy (model X.prog X.w) X.A (compEnvC scope cl G.objs.size X.env) fun e s' => RR (.error e) s')) rfl rfl rfl hca i [] s3 (inner nt js σ) H3 _ J3 (stat fr3) st3 go) fun r s4 zr3499 => ?_
      obtain ⟨u, hr, h4⟩ := zr3499
      subst hr
      refine thn h4 fun _ s5 zr3501 => ?_
      obtain ⟨x, H5, I5, r5, y5, st5, fr5⟩ := zr3501
      have I5' := I5.pinned (stat fr5) (T.obj _ _ st5)
      have g5 := hgo x (inner nt js σ) H5 _ inner_none (step x H5 y5)
      refine thn (hg cl G.objs.size fp s2 H2 _ _ s5 _ H5 x u _ I5' r5 g5) fun _ s6 zr3504 => ?_
      obtain ⟨σ6, H6, I6, wk6, q6⟩ := zr3504
      refine thn (hc cl G.objs.size fp s2 H2 _ _ s6 σ6 H6 _ I6 q6) fun ok s7 zr3505 => ?_
      obtain ⟨H7, I7, q7⟩ := zr3505
      have again : ∀ {s8 : Shared} {H8 : Hp} {ys' : List V}, Inv (compCx X scope N cl G.objs.size fp s2 H2 (notedBy (model X.prog X.w) X.A (compEnvC scope cl G.objs.size X.env) fun e s' => RR (.error e) s')) ([] ++ pinsAt fp s5.heap) σ6 H8 s8 → NN ys' H8 →
          ∃ m, m < n ∧ ∃ i ys H', Inv (compCx X scope N cl G.objs.size fp s2 H2 (notedBy (model X.prog X.w) X.A (compEnvC scope cl G.objs.size X.env) fun e s' => RR (.error e) s')) [] (inner nt js σ) H' s8 ∧ tn i s8.heap ∧ (∀ b ∈ fp, H' b = none) ∧ W i m ys H' := fun {s8 H8 ys'} I8 n8 => by
        obtain ⟨m', hm, w8⟩ := hN ys' H8 n8
        refine ⟨m', hm, i + 1, ys', H8, (I8.unpinned).wk wk6, T.keep _ _ _ st5 fun b hb o e => (I8.pin (b, o) (List.mem_append_right _ (List.mem_append_right _ (mem_pinsAt hb e)))).1, fun b hb => ?_, w8⟩
        obtain ⟨o, e, d⟩ := T.obj _ _ st5 b hb
        exact (I8.pin (b, o) (List.mem_append_right _ (List.mem_append_right _ (mem_pinsAt hb e)))).2.1
      cases ok with
      | false =>
        rw [if_neg Bool.false_ne_true] at q7 ⊢
        exact again I7 q7
      | true =>
        rw [if_pos rfl] at q7 ⊢
        refine thn (he cl G.objs.size fp s2 H2 _ _ s7 σ6 H7 _ I7 q7) fun y s8 zr3518 => ?_
        obtain ⟨yv, H8, I8, r8, hD8, hl8, q8⟩ := zr3518
        refine thn (mt_append (X := compCx X scope N cl G.objs.size fp s2 H2 (notedBy (model X.prog X.w) X.A (compEnvC scope cl G.objs.size X.env) fun e s' => RR (.error e) s')) _ s8 σ6 H8 (.ref s2.heap.objs.size) [yv] (.ref s2.heap.objs.size) [y] (fun _ H9 => NN (ys ++ [yv]) H9) I8 rfl (.cons r8 .nil) ⟨_, ys, yv, rfl, rfl, hD8, hl8, q8⟩) fun v9 s9 zr3519 => ?_
        obtain ⟨x9, H9, I9, r9, q9⟩ := zr3519
        exact again I9 q9
  subst hRR
  exact codeAny_compStart_list (loop _ rfl) (T.self _ 0 _ _ _ (T.keep _ _ _ st2 fun b hb o e => kold b o e) (loop _ rfl))
end
end L2
set_option Elab.async false
set_option linter.all false
set_option maxRecDepth 100000
namespace PySem
open Sem (wp)
theorem lri_nolen : typeLookup (.type "list_reverseiterator") "__len__" = pure none := by rw [typeLookup_type, builtinLookup_eq_fast]; kernel_rfl
theorem lri_hint : typeLookup (.type "list_reverseiterator") "__length_hint__" = pure (some (.builtin "list_reverseiterator.__length_hint__")) := by rw [typeLookup_type, builtinLookup_eq_fast]; kernel_rfl
section
variable {prog : Program} {w : World} {A : Around} {E : Value → Shared → Prop} {s : Shared}
theorem extend_rev {R : Result → Shared → Prop} (hh : A.handled = none) (S : Addr) (res : Value) (c₀ : Nat) (hS : s.heap.get? S = some { cls := .type "list", data := .seq #[] c₀ })
    {I l : Addr} {items : Array Value} (hi : s.heap.IsRevIter I l ((items.size : Int) - 1)) (hl : s.heap.IsList l items) (hIl : l ≠ I) (hSI : S ≠ I) (hSl : S ≠ l)
    (hR : ∀ h' tk acc' c', (∀ b o, b ≠ S → b ≠ I → s.heap.get? b = some o → h'.get? b = some o) → h'.get? S = some { cls := .type "list", dict := none, data := .seq acc' c', slots := #[] } →
      ItemsOf (fun i v => items[items.size - 1 - i]? = some v) acc' items.size → R (.ok (.ret res)) { s with heap := h', toks := tk }) (hn : items.size ≤ sizeLine) :
    wpAny (model prog w) A.in1 (Builtin.List.listExtendWith (.ref S) (.ref I) res)
      (fun fin s' => match fin with | .done f => R (.ok f) s' | .again c' => c'.quiet = true ∧ codeAny (model prog w) A c' R s') (fun e s' => R (.error e) s') s := by
  have W := (Walks.listRev (prog := prog) (w := w) (A := A.in1) hh I l hIl items)
  have hSf : S ∉ [I, l] := fun hm => by
    rcases List.mem_cons.mp hm with e | e
    · exact hSI e
    · exact hSl (List.mem_singleton.mp e)
  have hst : 0 ≤ items.size ∧ s.heap.IsRevIter I l ((items.size : Int) - 1 - ((0 : Nat) : Int)) ∧ s.heap.IsList l items := ⟨Nat.zero_le _, by simpa using hi, hl⟩
  unfold Builtin.List.listExtendWith
  refine wpAny_bind (wpAny_typeOf hi.typeIs ?_)
  have h1 : Builtin.List.listSameRef (.ref S) (.ref I) = false := by simp [Builtin.List.listSameRef, hSI]
  have h2 : (Value.type "list_reverseiterator" == Value.type "list") = false := by decide
  have h3 : (Value.type "list_reverseiterator" == Value.type "tuple") = false := by decide
  simp only [h1, h2, h3, Bool.or_false, Bool.false_eq_true, if_false]
  refine wpAny_bind (W.self 0 _ _ _ hst ?_)
  refine wpAny_bind (wpAny_holding ?_)
  unfold Builtin.List.listLengthHint
  refine wpAny_bind (wpAny_specialOf hi.typeIs lri_nolen ?_)
  show wpAny _ A.in1 (specialOf (Value.ref I) (Str.ofString "__length_hint__") >>= _) _ _ _
  refine wpAny_bind (wpAny_specialOf hi.typeIs lri_hint ?_)
  (generalize hid : ("list_reverseiterator.__length_hint__" : String) = id0; (fail_if_success (clear hid id0)); wp_delta; rw [show splitId id0 = some ("list_reverseiterator", "__length_hint__") from by subst hid; decide +kernel]; subst hid)
  refine wpAny_bind (wpAny_isInstance (b := true) hi.typeIs (by rw [isSubtype_type]; kernel_rfl) ?_)
  refine wpAny_pure ?_
  rw [if_neg (by decide)]
  refine wpAny_pure ⟨plainId_quiet F.plain_extend_loop _, codeAny_extend_loopS W.toS hn _ hSf _ items.size 0 _ _ _ rfl (Nat.zero_le _) hst hS (ItemsOf.nil _) fun s' acc' c' hm hS' hacc => ?_⟩
  rw [Moved.eq_with hm]
  refine hR s'.heap s'.toks acc' c' (fun b ob hb hbI e => hm.heap b ob (fun hmem => ?_) e) hS' hacc
  rcases List.mem_cons.mp hmem with e' | hmem
  · exact hb e'
  · exact hbI (List.mem_singleton.mp hmem)
theorem list_init_rev {R : Result → Shared → Prop} (hh : A.handled = none) (S : Addr) (hS : s.heap.get? S = some { cls := .type "list", data := .seq #[] })
    {I l : Addr} {items : Array Value} (hi : s.heap.IsRevIter I l ((items.size : Int) - 1)) (hl : s.heap.IsList l items) (hIl : l ≠ I) (hSI : S ≠ I) (hSl : S ≠ l)
    (hR : ∀ h' tk acc' c', (∀ b o, b ≠ S → b ≠ I → s.heap.get? b = some o → h'.get? b = some o) → h'.get? S = some { cls := .type "list", dict := none, data := .seq acc' c', slots := #[] } →
      ItemsOf (fun i v => items[items.size - 1 - i]? = some v) acc' items.size → R (.ok (.ret .none)) { s with heap := h', toks := tk }) (hn : items.size ≤ sizeLine) :
    wpAny (model prog w) A.in1 (Builtin.«list.__init__» ⟨[.ref S, .ref I], []⟩)
      (fun fin s' => match fin with | .done f => R (.ok f) s' | .again c' => c'.quiet = true ∧ codeAny (model prog w) A c' R s') (fun e s' => R (.error e) s') s := by
  show wpAny _ _ (do let old ← Builtin.List.listItems (.ref S); Builtin.List.listUpdate (.ref S) (fun _ => #[]); letGo old.toList.reverse; Builtin.List.listExtendWith (.ref S) (.ref I) .none) _ _ s
  refine wpAny_bind ?_
  unfold Builtin.List.listItems
  refine wpAny_bind (wpAny_seqItems hS rfl (wpAny_pure ?_))
  show wpAny _ _ (updateSeq S (fun _ => #[]) >>= fun _ => letGo (#[] : Array Value).toList.reverse >>= fun _ => Builtin.List.listExtendWith (.ref S) (.ref I) .none) _ _ s
  refine wpAny_bind (wpAny_updateSeq hS rfl ?_)
  have hS₂ := Heap.get?_update_self (Obj.mapSeq (fun _ => (#[] : Array Value))) hS rfl
  have oth : ∀ b o, b ≠ S → s.heap.get? b = some o → (s.heap.update S (Obj.mapSeq (fun _ => (#[] : Array Value)))).get? b = some o :=
    fun b o hb e => (Heap.get?_update_other _ _ (Ne.symm hb)).trans e
  refine wpAny_bind (wpAny_letGo ?_)
  refine extend_rev (s := { s with heap := s.heap.update S (Obj.mapSeq (fun _ => (#[] : Array Value))) }) hh S .none _ hS₂ (hi.at fun o e => oth _ o (Ne.symm hSI) e) (hl.at fun o e => oth _ o (Ne.symm hSl) e) hIl hSI hSl (fun h' tk acc' c' hk hS' hacc => ?_) hn
  exact hR h' tk acc' c' (fun b o hb hbI e => hk b o hb hbI (oth b o hb e)) hS' hacc
theorem call_list_rev {Q : Value → Shared → Prop} (hh : A.handled = none) {I l : Addr} {items : Array Value} (hi : s.heap.IsRevIter I l ((items.size : Int) - 1)) (hl : s.heap.IsList l items) (hIl : l ≠ I)
    (hQ : ∀ h' tk acc' c', (∀ b o, b ≠ I → s.heap.get? b = some o → h'.get? b = some o) →
      h'.get? s.heap.objs.size = some { cls := .type "list", dict := none, data := .seq acc' c', slots := #[] } → ItemsOf (fun i v => items[items.size - 1 - i]? = some v) acc' items.size → Q (.ref s.heap.objs.size) { s with heap := h', toks := tk }) (hn : items.size ≤ sizeLine) :
    wpAny (model prog w) A (call (.type "list") [.ref I]) Q E s := by
  refine callType_codes (Q₁ := fun obj s₁ => obj = .ref s.heap.objs.size ∧ s₁ = { s with heap := s.heap.push { cls := .type "list", data := .seq #[] } }) F.called_list (F.typeCall_list_1 _) F.entry_list_init
    (code_list_new _ ⟨rfl, rfl⟩) fun obj s₁ h₁ => ?_
  obtain ⟨rfl, rfl⟩ := h₁
  have hS : (s.heap.push { cls := .type "list", data := .seq #[] }).get? s.heap.objs.size = some { cls := .type "list", data := .seq #[] } := Heap.get?_push_size _ rfl
  have up : ∀ b o, s.heap.get? b = some o → (s.heap.push { cls := .type "list", data := .seq #[] }).get? b = some o := fun b o e => Heap.get?_push_of_some _ e
  obtain ⟨oi, hoi, _⟩ := id hi
  obtain ⟨ol, hol, _⟩ := id hl
  refine ⟨⟨_, hS, rfl⟩, F.args_list_init_2 _ _, list_init_rev (s := { s with heap := s.heap.push { cls := .type "list", data := .seq #[] } }) (A := A.in1) hh _ hS (hi.at fun o e => up _ o e) (hl.at fun o e => up _ o e) hIl (Nat.ne_of_gt (Heap.lt_size hoi)) (Nat.ne_of_gt (Heap.lt_size hol)) (fun h' tk acc' c' hk hS' hacc => ?_) hn⟩
  exact ⟨rfl, hQ h' tk acc' c' (fun b o hb e => hk b o (Nat.ne_of_lt (Heap.lt_size e)) hb (up b o e)) hS' hacc⟩
end
end PySem
set_option Elab.async false
set_option linter.all false
set_option maxRecDepth 100000
namespace L2
open PySem PySem.Spec PyProof.Rows
mutual
inductive Rep (K : PySem.W.Frag) (H : Hp) : V → PyData → Prop
  | non : Rep K H .non .none
  | bl (b : Bool) : Rep K H (.bl b) (.bool b)
  | int (i : Int) : Rep K H (.int i) (.int i)
  | str (x : Str) : Rep K H (.str x) (.str x)
  | tup {a : Addr} {vs : List V} {ds : List PyData} : SqT K H a vs → Reps K H vs ds → Rep K H (.ref a) (.tuple ds)
  | lst {a : Addr} {vs : List V} {ds : List PyData} : SqL K H a vs → Reps K H vs ds → Rep K H (.ref a) (.list ds)
inductive Reps (K : PySem.W.Frag) (H : Hp) : List V → List PyData → Prop
  | nil : Reps K H [] []
  | cons {v : V} {vs : List V} {d : PyData} {ds : List PyData} : Rep K H v d → Reps K H vs ds → Reps K H (v :: vs) (d :: ds)
end
theorem Same.seqT {K : PySem.W.Frag} {H H' : Hp} {a : Addr} {xs : List V} (e : Same H H') (h : SqT K H a xs) : SqT K H' a xs := by
  rcases h with (h | ⟨o, h⟩) | h
  · exact .inl (.inl (e _ _ h))
  · exact .inl (.inr ⟨o, e _ _ h⟩)
  · exact .inr h
theorem Reps.ints {K : PySem.W.Frag} {H : Hp} : ∀ (ns : List Int), Reps K H (ns.map V.int) (ns.map PyData.int)
  | [] => .nil
  | _ :: ns => .cons (.int _) (Reps.ints ns)
section
variable {X : Cx} {pins : List (Addr × Obj)} {σ : St} {H : Hp} {s : Shared}
mutual
theorem Inv.reads (I : Inv X pins σ H s) : ∀ {v : V} {d : PyData} {u : Value}, Rep X.K H v d → RelV v u → ∃ as, Reads s.heap u d as
  | _, _, _, .non, r => by cases r; exact ⟨_, .none⟩
  | _, _, _, .bl b, r => by cases r; exact ⟨_, .bool b⟩
  | _, _, _, .int b, r => by obtain ⟨t, rfl⟩ := r; exact ⟨_, .int b t⟩
  | _, _, _, .str b, r => by obtain ⟨t, rfl⟩ := r; exact ⟨_, .str b t⟩
  | _, _, _, .tup h q, r => by
    cases r
    obtain ⟨its, rv, ⟨o, ho, hc, n, hd⟩, _⟩ := I.tuple h
    obtain ⟨as, ra⟩ := Inv.readsAll I q rv
    exact ⟨_, .tuple ho hc hd (by simpa using ra)⟩
  | _, _, _, .lst h q, r => by
    cases r
    obtain ⟨its, rv, ⟨o, n, ho, hc, _, hd⟩, _⟩ := I.list h
    obtain ⟨as, ra⟩ := Inv.readsAll I q rv
    exact ⟨_, .list ho hc hd (by simpa using ra)⟩
theorem Inv.readsAll (I : Inv X pins σ H s) : ∀ {v : List V} {d : List PyData} {u : List Value}, Reps X.K H v d → Vals v u → ∃ as, ReadsAll s.heap u d as
  | _, _, _, .nil, r => by cases r; exact ⟨_, .nil⟩
  | _, _, _, .cons h q, r => by
    cases r with
    | cons r1 r2 =>
      obtain ⟨as, ra⟩ := Inv.reads I h r1
      obtain ⟨bs, rb⟩ := Inv.readsAll I q r2
      exact ⟨_, .cons ra rb⟩
end
end
section
variable {X : Cx} {a b c : Expr} {ta tb tc : TE} {pos : Pos}
noncomputable def rEqD (K : PySem.W.Frag) : R2 := fun x y H Q => ∃ dx dy, Rep K H x dx ∧ Rep K H y dy ∧ dx.canLay0 = true ∧ dy.canLay0 = true ∧ dx.depth ≤ 100 ∧ Q (.bl (PyData.eqv dx dy)) H
noncomputable def rNeD (K : PySem.W.Frag) : R2 := fun x y H Q => ∃ dx dy, Rep K H x dx ∧ Rep K H y dy ∧ dx.canLay0 = true ∧ dy.canLay0 = true ∧ dx.depth ≤ 100 ∧ Q (.bl (!PyData.eqv dx dy)) H
theorem op_eqD (hu : X.A.units + 100 < cLine) : OpR X (compareOp .Eq) (rEqD X.K) := by
  intro pins s σ H x y v u Q I rx ry h
  obtain ⟨dx, dy, h1, h2, h3, h4, h5, q⟩ := h
  obtain ⟨as, r1⟩ := I.reads h1 rx
  obtain ⟨bs, r2⟩ := I.reads h2 ry
  exact PySem.SeqAt.compareEq_reads r1 r2 h3 h4 (by omega) ⟨.bl _, H, I, rfl, q⟩
theorem op_neD (hu : X.A.units + 100 < cLine) : OpR X (compareOp .NotEq) (rNeD X.K) := by
  intro pins s σ H x y v u Q I rx ry h
  obtain ⟨dx, dy, h1, h2, h3, h4, h5, q⟩ := h
  obtain ⟨as, r1⟩ := I.reads h1 rx
  obtain ⟨bs, r2⟩ := I.reads h2 ry
  exact PySem.SeqAt.compareNe_reads r1 r2 h3 h4 (by omega) ⟨.bl _, H, I, rfl, q⟩
theorem op_le_str : OpR X (compareOp .LtE) (fun x y H Q => ∃ i j, x = .str i ∧ y = .str j ∧ Q (.bl (!decide (j.cps.toList < i.cps.toList))) H) := by
  intro pins s σ H x y v u Q I rx ry h
  obtain ⟨i, j, rfl, rfl, q⟩ := h
  obtain ⟨t, rfl⟩ := rx
  obtain ⟨t', rfl⟩ := ry
  exact PySem.P.le_str (fin_bl I q rfl)
noncomputable def rIsI (K : PySem.W.Frag) : List V → Hp → VK → Prop := fun xs H Q => ∃ x t T k, xs = [x, .ty T] ∧ TyOf K H x t ∧ PySem.W.kitOne K t (.type T) = some k ∧ Q (.bl k) H
theorem call_isi : CallR X (.builtin "isinstance") (rIsI X.K) := by
  intro pins s σ H xs us Q I r h
  obtain ⟨x, t, T, k, rfl, ty, e, q⟩ := h
  obtain ⟨u, w', rfl, r1, r2⟩ := vals2 r
  cases r2
  exact isinst_ok I r1 ty e fun tk => ⟨.bl k, H, I.tok tk, rfl, q⟩
theorem pe_ty {x : Str} {T : String} (hg : Gl X x) (hm : X.mg x = none) (hv : bootBuiltins x = some (.type T)) (hn : x ≠ "__name__" := by decide) (hd : (x == ("__debug__" : Str)) = false := by decide) : PE X (.Name x pos) (tC (.ty T)) :=
  pe_bltn hg hm hv rfl hn hd
theorem truth_of_bools {prog : Program} {w : World} {A : Around} {its : Array Value} {bs : List Bool} (h : Vals (bs.map V.bl) its.toList) : TruthOf prog w A (fun i v => its[i]? = some v) (fun i => bs.getD i true) := by
  intro i v s Q E hP hq
  have h1 : its.toList[i]? = some v := by simpa using hP
  have hlt : i < its.toList.length := (List.getElem?_eq_some_iff.mp h1).1
  have hl := h.length
  have hb : i < bs.length := by rw [← hl] at hlt; simpa using hlt
  obtain ⟨u, hu, ru⟩ := h.get (i := i) (x := V.bl bs[i]) (by simp [hb])
  rw [h1] at hu; cases hu
  cases ru
  refine wpAny_truthy_bool ?_
  have e : bs.getD i true = bs[i] := by simp [List.getD, hb]
  show Q bs[i] s
  have hq : Q (bs.getD i true) s := hq
  rw [e] at hq
  exact hq
theorem range_all (bs : List Bool) : (List.range bs.length).all (fun i => bs.getD i true) = bs.all id := by
  rw [Bool.eq_iff_iff]
  simp only [List.all_eq_true, List.mem_range]
  constructor
  · intro h b hb
    obtain ⟨i, hi, e⟩ := List.getElem_of_mem hb
    have := h i hi
    simp [List.getD, hi, e] at this
    simpa using this
  · intro h i hi
    have := h bs[i] (List.getElem_mem hi)
    simpa [List.getD, hi] using this
theorem range_any (bs : List Bool) : (List.range bs.length).any (fun i => bs.getD i true) = bs.any id := by
  rw [Bool.eq_iff_iff]
  simp only [List.any_eq_true, List.mem_range]
  constructor
  · rintro ⟨i, hi, e⟩
    refine ⟨bs[i], List.getElem_mem hi, ?_⟩
    simpa [List.getD, hi] using e
  · rintro ⟨b, hb, e⟩
    obtain ⟨i, hi, e'⟩ := List.getElem_of_mem hb
    refine ⟨i, hi, ?_⟩
    simp only [List.getD, List.getElem?_eq_getElem hi, Option.getD_some, e']
    exact e
noncomputable def rAll (K : PySem.W.Frag) : List V → Hp → VK → Prop := fun xs H Q => ∃ (p : Addr) (bs : List Bool), xs = [.ref p] ∧ SqL K H p (bs.map V.bl) ∧ Q (.bl (bs.all id)) H
noncomputable def rAny (K : PySem.W.Frag) : List V → Hp → VK → Prop := fun xs H Q => ∃ (p : Addr) (bs : List Bool), xs = [.ref p] ∧ SqL K H p (bs.map V.bl) ∧ Q (.bl (bs.any id)) H
theorem call_all_l (hc : X.calm = true) : CallR X (.builtin "all") (rAll X.K) := by
  intro pins s σ H xs us Q I r h
  obtain ⟨p, bs, rfl, hq, q⟩ := h
  obtain ⟨u, rfl, rx⟩ := vals1 r
  cases rx
  obtain ⟨its, rv, pl, hz⟩ := I.list hq
  refine call_all_walk (wpAny_pyIter_list pl.isList ?_)
  have hne : p ≠ s.heap.objs.size := by
    obtain ⟨o, n, ho, _⟩ := pl
    exact Nat.ne_of_lt (Heap.lt_size ho)
  refine ⟨_, _, _, _, _, _, fun i => bs.getD i true, rfl, Walks.list (A := X.A.in1) (I.ok.hd hc) _ p hne its.toArray, ⟨⟨_, Heap.get?_push_size _ rfl, rfl, rfl⟩, pl.isList.at fun o e => Heap.get?_push_of_some _ e⟩, truth_of_bools (by simpa using rv), fun h' tk hk => ?_⟩
  have hl : its.toArray.size = bs.length := by have := rv.length; simp at this ⊢; omega
  rw [hl, range_all]
  exact ⟨.bl (bs.all id), H, I.kept fun b o e => hk b o (by simp; exact Nat.ne_of_lt (Heap.lt_size e)) (Heap.get?_push_of_some _ e), rfl, q⟩
theorem call_any_l (hc : X.calm = true) : CallR X (.builtin "any") (rAny X.K) := by
  intro pins s σ H xs us Q I r h
  obtain ⟨p, bs, rfl, hq, q⟩ := h
  obtain ⟨u, rfl, rx⟩ := vals1 r
  cases rx
  obtain ⟨its, rv, pl, hz⟩ := I.list hq
  refine call_any_walk (wpAny_pyIter_list pl.isList ?_)
  have hne : p ≠ s.heap.objs.size := by
    obtain ⟨o, n, ho, _⟩ := pl
    exact Nat.ne_of_lt (Heap.lt_size ho)
  refine ⟨_, _, _, _, _, _, fun i => bs.getD i true, rfl, Walks.list (A := X.A.in1) (I.ok.hd hc) _ p hne its.toArray, ⟨⟨_, Heap.get?_push_size _ rfl, rfl, rfl⟩, pl.isList.at fun o e => Heap.get?_push_of_some _ e⟩, truth_of_bools (by simpa using rv), fun h' tk hk => ?_⟩
  have hl : its.toArray.size = bs.length := by have := rv.length; simp at this ⊢; omega
  rw [hl, range_any]
  exact ⟨.bl (bs.any id), H, I.kept fun b o e => hk b o (by simp; exact Nat.ne_of_lt (Heap.lt_size e)) (Heap.get?_push_of_some _ e), rfl, q⟩
theorem preSum_take (ns : List Int) : ∀ n, n ≤ ns.length → preSum (fun i => ns.getD i 0) n = (ns.take n).sum
  | 0, _ => by simp [preSum]
  | n + 1, h => by
    have ih := preSum_take ns n (by omega)
    have e : ns[n]? = some (ns[n]'(by omega)) := by simp
    show preSum (fun i => ns.getD i 0) n + ns.getD n 0 = _
    rw [ih, List.take_add_one, e, List.sum_append, List.getD, e]
    simp
theorem preSum_list (ns : List Int) : preSum (fun i => ns.getD i 0) ns.length = ns.sum := by
  rw [preSum_take ns _ (Nat.le_refl _), List.take_length]
noncomputable def rSum (K : PySem.W.Frag) : List V → Hp → VK → Prop := fun xs H Q => ∃ (p : Addr) (ns : List Int), xs = [.ref p] ∧ SqL K H p (ns.map V.int) ∧ Q (.int ns.sum) H
theorem call_sum_l (hc : X.calm = true) : CallR X (.builtin "sum") (rSum X.K) := by
  intro pins s σ H xs us Q I r h
  obtain ⟨p, ns, rfl, hq, q⟩ := h
  obtain ⟨u, rfl, rx⟩ := vals1 r
  cases rx
  obtain ⟨its, rv, pl, hz⟩ := I.list hq
  refine call_sum_walkG (wpAny_pyIter_list pl.isList ?_)
  have hne : p ≠ s.heap.objs.size := by
    obtain ⟨o, n, ho, _⟩ := pl
    exact Nat.ne_of_lt (Heap.lt_size ho)
  refine ⟨_, _, _, _, _, _, fun i => ns.getD i 0, rfl, Walks.list (A := X.A.in1) (I.ok.hd hc) _ p hne its.toArray, ⟨⟨_, Heap.get?_push_size _ rfl, rfl, rfl⟩, pl.isList.at fun o e => Heap.get?_push_of_some _ e⟩, fun b hb => ?_, fun i v hv => ?_, fun h' tk t' hk => ?_⟩
  · obtain ⟨o, n, ho, _⟩ := pl
    rcases List.mem_cons.mp hb with e | e
    · rw [e]; exact Nat.lt_of_lt_of_le (Nat.lt_succ_self _) (by simp)
    · rw [List.mem_singleton.mp e]; exact Nat.lt_of_lt_of_le (Heap.lt_size ho) (by simp)
  · have h1 : its[i]? = some v := by simpa using hv
    have hlt : i < its.length := (List.getElem?_eq_some_iff.mp h1).1
    have hl := rv.length
    have hb : i < ns.length := by rw [← hl] at hlt; simpa using hlt
    obtain ⟨u, hu, t, ru⟩ := rv.get (i := i) (x := V.int ns[i]) (by simp [hb])
    rw [h1] at hu; cases hu
    exact ⟨t, by rw [ru]; simp [List.getD, hb]⟩
  · have hl : its.toArray.size = ns.length := by have := rv.length; simp at this ⊢; omega
    rw [hl, preSum_list]
    exact ⟨.int ns.sum, H, I.kept fun b o e => hk b o (by simp; exact Nat.ne_of_lt (Heap.lt_size e)) (Heap.get?_push_of_some _ e), ⟨t', rfl⟩, q⟩
noncomputable def tListRev (t : TE) : TE := fun σ H Q => t σ H fun x H1 => ∃ p, x = .ref p ∧ ∃ ys, H1 p = some (.lst ys) ∧ ∀ l, H1 l = none → Q (.ref l) (upd H1 l (.lst ys.reverse))
end
end L2
set_option Elab.async false
set_option linter.all false
set_option maxRecDepth 100000
namespace L2
open PySem PySem.Spec PyProof.Rows
section
variable {X : Cx} {a b c e : Expr} {ta tb tc te : TE} {pos p p2 pos2 : Pos} {tg : Expr}
theorem pe_listrev (hc : X.calm = true) (hg : Gl X "list") (hm : X.mg "list" = none) (hg2 : Gl X "reversed") (hm2 : X.mg "reversed" = none) (he : PE X e te) (hse : starEach [e] X.env = [(false, eval e X.env)] := by rfl) :
    PE X (.Call (.Name "list" p) [.Call (.Name "reversed" p2) [e] [] pos2] [] pos) (tListRev te) := by
  intro pins s σ H Q I h
  refine wpAny_Call_Name_kw (ld_blt I hg hm (by decide +kernel : bootBuiltins "list" = some (.type "list")) ?_)
  refine PyProof.Rows.callWith_type1 (Calls.spliced_cons ?_) rfl rfl
  refine wpAny_Call_Name_kw (ld_blt I hg2 hm2 boot_reversed ?_)
  refine PyProof.Rows.callWith_type1 (Q := _) ?_ hse rfl
  rw [hse]
  refine Calls.spliced_cons (thn (he pins s σ H _ I h) fun u s1 ⟨x, H1, I1, r1, pp, e1, ys, hq', q⟩ => Calls.spliced_nil ?_)
  subst e1
  cases r1
  have hq : SqL X.K H1 pp ys := .of hq'
  obtain ⟨its, rv, pl, hz⟩ := I1.list hq
  have hlen := rv.length
  refine call_reversed_list pl.isList ?_
  have hlt : pp < s1.heap.objs.size := by
    obtain ⟨o, n, ho, _⟩ := pl
    exact Heap.lt_size ho
  refine Calls.spliced_nil (call_list_rev (I.ok.hd hc) (I := s1.heap.objs.size) (l := pp) (items := its.toArray) ⟨_, Heap.get?_push_size _ rfl, rfl, rfl⟩ (pl.isList.at fun o e => Heap.get?_push_of_some _ e) (Nat.ne_of_lt hlt) (fun h' tk acc' c' hk hS hacc => ?_) (by simp only [List.size_toArray]; omega))
  have kp : ∀ b o, s1.heap.get? b = some o → h'.get? b = some o := fun b o e => hk b o (Nat.ne_of_lt (Heap.lt_size e)) (Heap.get?_push_of_some _ e)
  have hrev : acc' = its.reverse.toArray := by
    apply Array.ext_getElem?
    intro i
    have hs1 := hacc.1
    simp only [List.size_toArray] at hs1
    by_cases hi : i < its.length
    · have h1 : acc'[i]? = some (acc'[i]'(by omega)) := by simp [hs1, hi]
      have h2 := hacc.2 i _ h1
      rw [h1, ← h2]
      simp only [List.size_toArray, List.getElem?_toArray]
      rw [List.getElem?_reverse hi]
    · simp only [List.getElem?_toArray]
      rw [Array.getElem?_eq_none (by omega), List.getElem?_eq_none (by simp; omega)]
  subst hrev
  have hsz : s1.heap.objs.size ≤ (s1.heap.push (revObj pp ((its.toArray.size : Int) - 1))).objs.size := by rw [Heap.size_push]; exact Nat.le_succ _
  exact ⟨.ref (s1.heap.push (revObj pp ((its.toArray.size : Int) - 1))).objs.size, upd H1 _ (.lst ys.reverse), I1.laid (t' := tk) kp hsz ⟨by simp; omega, its.reverse, c', rv.reverse, hS⟩, rfl, q _ (I1.hok.fresh hsz)⟩
noncomputable def Its (x : Str) : It := ⟨fun i _ => i < x.length, fun i H v H' => H' = H ∧ ∃ c, x.cps[i]? = some c ∧ v = .str ⟨#[c]⟩, fun i _ => x.length ≤ i⟩
theorem turn_strA {P : Program} {w : World} {K : PySem.W.Frag} {tg : Expr} (it : Addr) (x : Str) (t : Tok) : Turn P w K tg (Its x) [it] it (fun i h => h.IsStrIter it "str_ascii_iterator" x t i) where
  mem := by simp
  obj := fun i h st b hb => by
    have e : b = it := by simpa using hb
    subst e
    obtain ⟨o, e, c, d⟩ := st
    exact ⟨o, e, fun v z => by rw [d] at z; cases z⟩
  keep := fun i h h' st k => let ⟨o, ho, r⟩ := st; ⟨o, k it (by simp) o ho, r⟩
  item := by
    intro X hP hw hK hc i pins s σ H E I hf st hg
    subst hP hw hK
    obtain ⟨f0, f1, f2, f3, f4, f5⟩ := hf it (by simp)
    have hg : i < x.cps.size := hg
    refine wpAny_pyNext_ascii_item st (c := x.cps[i]'hg) (by simp) fun h' st' sb => ?_
    have I1 : Inv X pins σ H { s with heap := h', toks := s.toks + 1 } := I.turned (fun b o hb e => (sb.2 b hb).trans e) f0 f1 f3 f4 f5
    obtain ⟨o, e, c, d⟩ := id st'
    exact ⟨_, rfl, go_of (s := { s with heap := h', toks := s.toks + 1 }) e c d (by decide) ⟨.str ⟨#[x.cps[i]'hg]⟩, H, I1, ⟨_, rfl⟩, ⟨rfl, _, by simp, rfl⟩, st', fun b hb => (hf b hb).1⟩⟩
  done := by
    intro X hP hw hK hc i pins s σ H E I hf st hg
    subst hP hw hK
    have hg : x.cps.size ≤ i := hg
    obtain ⟨f0, f1, f2, f3, f4, f5⟩ := hf it (by simp)
    exact wpAny_pyNext_ascii_end (I.ok.hd hc) st (Array.getElem?_eq_none hg) fun h' eb => ⟨rfl, I.turned (t' := s.toks) (fun b o hb e => eb b o hb e) f0 f1 f3 f4 f5⟩
  self := fun _ _ _ _ _ st h => wpAny_pyIter_striter_ascii st h
theorem turn_strW {P : Program} {w : World} {K : PySem.W.Frag} {tg : Expr} (it : Addr) (x : Str) (t : Tok) : Turn P w K tg (Its x) [it] it (fun i h => h.IsStrIter it "str_iterator" x t i) where
  mem := by simp
  obj := fun i h st b hb => by
    have e : b = it := by simpa using hb
    subst e
    obtain ⟨o, e, c, d⟩ := st
    exact ⟨o, e, fun v z => by rw [d] at z; cases z⟩
  keep := fun i h h' st k => let ⟨o, ho, r⟩ := st; ⟨o, k it (by simp) o ho, r⟩
  item := by
    intro X hP hw hK hc i pins s σ H E I hf st hg
    subst hP hw hK
    obtain ⟨f0, f1, f2, f3, f4, f5⟩ := hf it (by simp)
    have hg : i < x.cps.size := hg
    refine wpAny_pyNext_wide_item st (c := x.cps[i]'hg) (by simp) fun h' st' sb => ?_
    have I1 : Inv X pins σ H { s with heap := h', toks := s.toks + 1 } := I.turned (fun b o hb e => (sb.2 b hb).trans e) f0 f1 f3 f4 f5
    obtain ⟨o, e, c, d⟩ := id st'
    exact ⟨_, rfl, go_of (s := { s with heap := h', toks := s.toks + 1 }) e c d (by decide) ⟨.str ⟨#[x.cps[i]'hg]⟩, H, I1, ⟨_, rfl⟩, ⟨rfl, _, by simp, rfl⟩, st', fun b hb => (hf b hb).1⟩⟩
  done := by
    intro X hP hw hK hc i pins s σ H E I hf st hg
    subst hP hw hK
    have hg : x.cps.size ≤ i := hg
    obtain ⟨f0, f1, f2, f3, f4, f5⟩ := hf it (by simp)
    exact wpAny_pyNext_wide_end (I.ok.hd hc) st (Array.getElem?_eq_none hg) fun h' eb => ⟨rfl, I.turned (t' := s.toks) (fun b o hb e => eb b o hb e) f0 f1 f3 f4 f5⟩
  self := fun _ _ _ _ _ st h => wpAny_pyIter_striter_wide st h
noncomputable def iStr (tl : TE) : TI := fun σ H R => tl σ H fun x H1 => ∃ z, x = .str z ∧ R (Its z) H1
theorem pi_str {l : Expr} {tl : TE} (hl : PE X l tl) : PI X tg l (iStr tl) := by
  intro pins s σ H R I h
  refine thn (hl pins s σ H _ I h) fun v s1 zr3888 => ?_
  obtain ⟨x, H1, I1, r1, q1⟩ := zr3888
  obtain ⟨z, e, q⟩ := q1
  subst e
  obtain ⟨t, rfl⟩ := r1
  cases ha : z.cps.all (· < 128)
  · refine wpAny_pyIter_wide ha ?_
    refine ⟨s1.heap.objs.size, [s1.heap.objs.size], _, _, H1, rfl, I1.kept (t' := s1.toks) fun b o e => Heap.get?_push_of_some _ e, turn_strW _ z t, ⟨_, Heap.get?_push_size _ rfl, rfl, rfl⟩, fun b hb => ?_, q⟩
    have e : b = s1.heap.objs.size := by simpa using hb
    subst e
    exact I1.fpOk (Nat.le_refl _) (I1.hok.fresh (Nat.le_refl _))
  · refine wpAny_pyIter_ascii ha ?_
    refine ⟨s1.heap.objs.size, [s1.heap.objs.size], _, _, H1, rfl, I1.kept (t' := s1.toks) fun b o e => Heap.get?_push_of_some _ e, turn_strA _ z t, ⟨_, Heap.get?_push_size _ rfl, rfl, rfl⟩, fun b hb => ?_, q⟩
    have e : b = s1.heap.objs.size := by simpa using hb
    subst e
    exact I1.fpOk (Nat.le_refl _) (I1.hok.fresh (Nat.le_refl _))
noncomputable def rSlS : V → Option Int → Option Int → Hp → VK → Prop := fun x lo hi H Q => ∃ z, x = .str z ∧ z.length ≤ sizeLine ∧ Q (.str (Txt.slice z lo hi)) H
theorem sl_str : SlR X rSlS := by
  intro pins s σ H x v vl vu lo hi sl Q I rx hs pl pu h
  obtain ⟨z, rfl, hz, q⟩ := h
  obtain ⟨t, rfl⟩ := rx
  refine ⟨"str", _, F.slot_str_getitem.lookup, typeIs_str _ _ _, ?_⟩
  have fin : ∀ (t' : Tok) (k : Nat), EP X pins σ Q (.str (Txt.slice z lo hi) t') { s with toks := k } := fun t' k => ⟨.str _, H, I.tok k, ⟨t', rfl⟩, q⟩
  obtain ⟨o, h1, h2, h3⟩ := hs
  cases pl with
  | none => cases pu with
    | none => exact wpAny_getItem_str_slice (l := none) (u := none) (st := none) ⟨o, h1, h2, h3⟩ rfl (post_val_or_str ⟨Nat.le_trans (Txt.slice_le z _ _) hz, fun t' k => fin t' k⟩)
    | int j uj => exact wpAny_getItem_str_slice (l := none) (u := some (j, uj)) (st := none) ⟨o, h1, h2, h3⟩ rfl (post_val_or_str ⟨Nat.le_trans (Txt.slice_le z _ _) hz, fun t' k => fin t' k⟩)
  | int i ui => cases pu with
    | none => exact wpAny_getItem_str_slice (l := some (i, ui)) (u := none) (st := none) ⟨o, h1, h2, h3⟩ rfl (post_val_or_str ⟨Nat.le_trans (Txt.slice_le z _ _) hz, fun t' k => fin t' k⟩)
    | int j uj => exact wpAny_getItem_str_slice (l := some (i, ui)) (u := some (j, uj)) (st := none) ⟨o, h1, h2, h3⟩ rfl (post_val_or_str ⟨Nat.le_trans (Txt.slice_le z _ _) hz, fun t' k => fin t' k⟩)
end
end L2
set_option Elab.async false
set_option linter.all false
set_option maxRecDepth 100000
namespace L2
open PySem PySem.Spec PyProof.Rows
noncomputable def FnL (K : PySem.W.Frag) (mg : Str → Option Value) (x : Str) (st : Stmt) (ps : List Str) : Prop :=
  ∃ f fd, Fun K x x st f fd ∧ mg x = some (.ref f) ∧ Binds K fd ps []
noncomputable def Fn (P : Program) (w : World) (K : PySem.W.Frag) (mg : Str → Option Value) (base : Heap) (x : Str) (k : Nat) (ps : List Str) (sp : Sp) : Prop :=
  ∃ f fd, FnOk P w K mg base CX0 k f fd ps sp ∧ mg x = some (.ref f) ∧ PySem.W.keepIn K (.ref f) = true ∧ Binds K fd ps []
section
variable {P : Program} {w : World} {K : PySem.W.Frag} {mg : Str → Option Value} {base : Heap}
theorem FnL.ok {x : Str} {st : Stmt} {N ps : List Str} {k : Nat} {sp : Sp} (F : FnL K mg x st ps) (S : FnScope N ps (defScope st)) (len : ∀ vs H Q E, sp vs H Q E → vs.length = ps.length)
    (hbody : ∀ (f : Addr) (cdv : Value) (A : Around) (outer : List Env) (s : Shared) (H : Hp) (vs : List V) (Q : VK) (E : XK), Room k (A.deeper (envOfC x (defScope st) s.heap.objs.size f cdv)) → sp vs H Q E →
      ∃ t, PSs (cxOf CX0 P w K mg base N x (defScope st) f cdv A outer s H E).nox (defBody st) t ∧ t { nx := fun _ H' => Q .non H', rt := Q } (start N vs) H) : Fn P w K mg base x (k + 1) ps sp := by
  obtain ⟨f, fd, F, m, b⟩ := F
  exact ⟨f, fd, F.ok S len (hbody f), m, F.kp, b⟩
theorem fnL_mk {x : Str} {st : Stmt} {ps : List Str} {h : Heap} {f : Addr} {oc : Value} {od an : Option Addr} {osl : Array (Option Value)} {kV doc pm cdv ct : Value} (X : K.In h) (G : h.Ns mainGlobals mg)
    (a : PySem.W.nsIn K mainGlobals x = some (some (.ref f)))
    (l : K.lookup f = some ⟨oc, od, .func (PySem.W.fnOf x x (defArgs st) (defBody st) (defScope st) .none kV doc pm an cdv ct), osl⟩)
    (c : PySem.W.codeIn K cdv x = true) (k : PySem.W.keepIn K (.ref f) = true)
    (hb : ∀ (kV doc pm : Value) (an : Option Addr) (cdv ct : Value) (us : List Value), us.length = ps.length → bindArgs (PySem.W.fnOf x x (defArgs st) (defBody st) (defScope st) .none kV doc pm an cdv ct) ⟨us, []⟩ = pure (ps.zip us)) : FnL K mg x st ps :=
  ⟨f, _, fun_mk l c k, PySem.W.mg_of X G a, (fun_mk l c k).binds hb⟩
end
section
variable {X : Cx} {k : Nat} {ps : List Str} {sp : Sp} {x : Str} {p pos : Pos} {e : Expr} {es : List Expr} {t : TA}
theorem pe_callF (F : Fn X.prog X.w X.K X.mg X.base x k ps sp) (hr : Room k X.A) (hg : Gl X x) (ha : PA X (e :: es) t) (hdb : (x == ("__debug__" : Str)) = false := by decide)
    (he : starEach (e :: es) X.env = (false, eval e X.env) :: starEach es X.env := by rfl) (hpl : (backTo pos (starEach es X.env)).any (·.1) = false := by rfl) :
    PE X (.Call (.Name x p) (e :: es) [] pos) (tCall sp [] E0 t) := by
  obtain ⟨f, fd, F, m, kp, b⟩ := F
  exact pe_call F hr hg m kp b .nil pass0 ha hdb he hpl
end
structure Wlk (J : It) (xs : List V) (C : Hp → Prop) : Prop where
  go : ∀ i H, C H → i < xs.length → J.go i H
  yld : ∀ i H x H', C H → i < xs.length → J.yld i H x H' → xs[i]? = some x ∧ H' = H
  stop : ∀ i H, C H → xs.length ≤ i → J.stop i H
theorem wlk_list {K : PySem.W.Frag} {a : Addr} {xs : List V} : Wlk (Itl K a) xs (fun H => SqL K H a xs) :=
  ⟨fun i H h hi => ⟨xs, xs[i], h, by simp [hi]⟩, fun i H x H' h _ y => ⟨y.2 xs h, y.1⟩, fun i H h hi => ⟨xs, h, hi⟩⟩
theorem wlk_tup {K : PySem.W.Frag} {a : Addr} {xs : List V} : Wlk (Itt K a) xs (fun H => SqT K H a xs) :=
  ⟨fun i H h hi => ⟨xs, xs[i], h, by simp [hi]⟩, fun i H x H' h _ y => ⟨y.2 xs h, y.1⟩, fun i H h hi => ⟨xs, h, hi⟩⟩
noncomputable def rngV (lo : Int) (n : Nat) : List V := (List.range n).map fun (i : Nat) => V.int (lo + (i : Int))
theorem rngV_length (lo : Int) (n : Nat) : (rngV lo n).length = n := by simp [rngV]
theorem rngV_get {lo : Int} {n i : Nat} (h : i < n) : (rngV lo n)[i]? = some (.int (lo + i)) := by simp [rngV, h]
theorem wlk_range {lo : Int} {n : Nat} : Wlk (Itr lo n) (rngV lo n) (fun _ => True) :=
  ⟨fun i H _ hi => by rw [rngV_length] at hi; exact hi, fun i H x H' _ hi y => by
    obtain ⟨e, y⟩ := y
    rw [rngV_length] at hi
    rw [rngV_get hi, y]; exact ⟨rfl, e⟩, fun i H _ hi => by rw [rngV_length] at hi; exact hi⟩
noncomputable def sgnV (x : Str) : List V := x.cps.toList.map fun c => V.str ⟨#[c]⟩
theorem wlk_str {x : Str} : Wlk (Its x) (sgnV x) (fun _ => True) :=
  ⟨fun i H _ hi => by show i < x.cps.size; simpa [sgnV] using hi, fun i H v H' _ hi y => by
    obtain ⟨e, c, hc, y⟩ := y
    refine ⟨?_, e⟩
    rw [y]
    simp [sgnV, hc], fun i H _ hi => by show x.cps.size ≤ i; simpa [sgnV] using hi⟩
theorem for_wlk {J : It} {xs : List V} {C : Hp → Prop} (w : Wlk J xs C) {g : TG} {tb : TS} {D : Ends} {σ : St} {H : Hp} (Pv : Nat → St → Hp → Prop) (h0 : Pv 0 σ H) (hl : ∀ i σ H, Pv i σ H → C H)
    (hs : ∀ i x σ H, i < xs.length → xs[i]? = some x → Pv i σ H → g x σ H fun σ2 H2 => tb { D with nx := Pv (i + 1), ct := Pv (i + 1), bk := D.nx } σ2 H2) (hd : ∀ σ H, Pv xs.length σ H → D.nx σ H) :
    ∃ W : Nat → Nat → St → Hp → Prop, (∃ m, W 0 m σ H) ∧ ∀ i m σ H, W i m σ H →
      (J.stop i H ∧ D.nx σ H) ∨ (J.go i H ∧ ∃ N : St → Hp → Prop, (∀ σ' H', N σ' H' → ∃ m', m' < m ∧ W (i + 1) m' σ' H') ∧ ∀ x H', J.yld i H x H' → g x σ H' fun σ2 H2 => tb { D with nx := N, ct := N, bk := D.nx } σ2 H2) := by
  refine ⟨fun i m σ H => m = xs.length - i ∧ i ≤ xs.length ∧ Pv i σ H, ⟨xs.length, by simp, Nat.zero_le _, h0⟩, ?_⟩
  rintro i m σ H ⟨rfl, hi, p⟩
  have q := hl i σ H p
  by_cases hlt : i < xs.length
  · refine .inr ⟨w.go i H q hlt, Pv (i + 1), fun σ' H' p' => ⟨xs.length - (i + 1), by omega, rfl, hlt, p'⟩, fun x H' y => ?_⟩
    obtain ⟨e1, e2⟩ := w.yld i H x H' q hlt y
    subst e2
    exact hs i x σ _ hlt e1 p
  · have e : i = xs.length := by omega
    subst e
    exact .inl ⟨w.stop _ H q (Nat.le_refl _), hd σ H p⟩
theorem comp_wlk {J : It} {xs : List V} {C : Hp → Prop} (w : Wlk J xs C) {g : TG} {tc : TT} {te : TE} {σ0 : St} {Q : VK} {H1 : Hp} {D : Addr} (Pv : Nat → List V → Hp → Prop) (h0 : Pv 0 [] (upd H1 D (.lst []))) (hl : ∀ i ys H, Pv i ys H → C H)
    (hs : ∀ i x ys H, i < xs.length → xs[i]? = some x → Pv i ys H → g x σ0 H fun σ2 H3 => tc σ2 H3 fun b H4 => if b = true then te σ2 H4 fun y H5 => H5 D = some (.lst ys) ∧ ys.length < sizeLine ∧ Pv (i + 1) (ys ++ [y]) (upd H5 D (.lst (ys ++ [y]))) else Pv (i + 1) ys H4)
    (hd : ∀ ys H, Pv xs.length ys H → Q (.ref D) H) :
    ∃ W : Nat → Nat → List V → Hp → Prop, (∃ m, W 0 m [] (upd H1 D (.lst []))) ∧
      ∀ i m ys H2, W i m ys H2 → (J.stop i H2 ∧ Q (.ref D) H2) ∨ (J.go i H2 ∧ ∃ N : List V → Hp → Prop, (∀ ys' H', N ys' H' → ∃ m', m' < m ∧ W (i + 1) m' ys' H') ∧
        ∀ x H', J.yld i H2 x H' → g x σ0 H' fun σ2 H3 => tc σ2 H3 fun b H4 => if b = true then te σ2 H4 fun y H5 => H5 D = some (.lst ys) ∧ ys.length < sizeLine ∧ N (ys ++ [y]) (upd H5 D (.lst (ys ++ [y]))) else N ys H4) := by
  refine ⟨fun i m ys H => m = xs.length - i ∧ i ≤ xs.length ∧ Pv i ys H, ⟨xs.length, by simp, Nat.zero_le _, h0⟩, ?_⟩
  rintro i m ys H ⟨rfl, hi, p⟩
  have q := hl i ys H p
  by_cases hlt : i < xs.length
  · refine .inr ⟨w.go i H q hlt, Pv (i + 1), fun σ' H' p' => ⟨xs.length - (i + 1), by omega, rfl, hlt, p'⟩, fun x H' y => ?_⟩
    obtain ⟨e1, e2⟩ := w.yld i H x H' q hlt y
    subst e2
    exact hs i x ys _ hlt e1 p
  · have e : i = xs.length := by omega
    subst e
    exact .inl ⟨w.stop _ H q (Nat.le_refl _), hd ys H p⟩
end L2
set_option Elab.async false
set_option linter.all false
set_option maxRecDepth 100000
namespace HT
open PySem PyProof.Rows
open PySem.SeqAt
open PySem.AutoSeq1 (wpAny_loadPart')
open PySem.MeetsSeq PySem.MeetsSeq2 PySem.MeetsSeq3
section
variable {prog : Program} {w : World} {A : Around} {E : Value → Shared → Prop} {s : Shared}
end
end HT
namespace L2
open PySem PySem.Spec PyProof.Rows
noncomputable def cellOrFree (xs : List (Str × NameKind)) (x : Str) : Bool := xs.lookup x == some .cell || xs.lookup x == some .free
noncomputable def compChk (XN : List Str) (xs sn : List (Str × NameKind)) (N : List Str) (nt : Nat) (js : List Nat) : Bool :=
  decide N.Nodup && N.length == nt + js.length && (js.zip (N.drop nt)).all (fun p => XN[p.1]? == some p.2 && cellOrFree xs p.2) && (N.drop nt).all (fun x => sn.lookup x == some .free)
    && sn.all (fun y => y.2 != .cell) && sn.all (fun y => y.2 != .local || sn.lookup y.1 == some .local) && sn.all (fun y => y.2 != .free || cellOrFree xs y.1)
theorem cellOrFree_iff {xs : List (Str × NameKind)} {x : Str} (h : cellOrFree xs x = true) : xs.lookup x = some .cell ∨ xs.lookup x = some .free := by
  unfold cellOrFree at h
  rw [Bool.or_eq_true] at h
  simpa using h
theorem compOk_of {X : Cx} {scope : Scope} {N : List Str} {nt : Nat} {js : List Nat} (XN : List Str) (xs : List (Str × NameKind)) (hk : scope.kind = .function) (hN : X.N = XN) (hx : X.env.scope.names = xs)
    (h : compChk XN xs scope.names N nt js = true) : CompOk X scope N nt js := by
  subst hN hx
  unfold compChk at h
  simp only [Bool.and_eq_true] at h
  obtain ⟨⟨⟨⟨⟨⟨h1, h2⟩, h3⟩, h4⟩, h5⟩, h6⟩, h7⟩ := h
  refine ⟨hk, of_decide_eq_true h1, by simpa using h2, fun k j x e1 e2 => ?_, fun k x e => ?_, fun y hy => ?_, fun y hy e => ?_, fun y hy e => ?_⟩
  · have hm : (j, x) ∈ js.zip (N.drop nt) := by
      have e2' : (N.drop nt)[k]? = some x := by rw [List.getElem?_drop]; exact e2
      have : (js.zip (N.drop nt))[k]? = some (j, x) := by rw [List.getElem?_zip_eq_some]; exact ⟨e1, e2'⟩
      exact List.mem_of_getElem? this
    have q := List.all_eq_true.mp h3 _ hm
    rw [Bool.and_eq_true] at q
    exact ⟨by simpa using q.1, cellOrFree_iff q.2⟩
  · have hm : x ∈ N.drop nt := by
      have e2' : (N.drop nt)[k]? = some x := by rw [List.getElem?_drop]; exact e
      exact List.mem_of_getElem? e2'
    simpa using List.all_eq_true.mp h4 _ hm
  · simpa using List.all_eq_true.mp h5 _ hy
  · have q := List.all_eq_true.mp h6 _ hy
    rw [e] at q
    simpa using q
  · have q := List.all_eq_true.mp h7 _ hy
    rw [e] at q
    exact cellOrFree_iff (by simpa using q)
end L2
set_option Elab.async false
set_option linter.all false
set_option maxRecDepth 100000
namespace L2
open PySem PySem.Spec PyProof.Rows
theorem ex_kS {s : Str} {P : Key → Prop} : (∃ k, V.str s = kV k ∧ P k) ↔ P (Sum.inr s) := by
  constructor
  · rintro ⟨k, e, p⟩
    cases k with
    | inl i => cases e
    | inr x => cases e; exact p
  · exact fun p => ⟨_, rfl, p⟩
theorem ex_kI {i : Int} {P : Key → Prop} : (∃ k, V.int i = kV k ∧ P k) ↔ P (Sum.inl i) := by
  constructor
  · rintro ⟨k, e, p⟩
    cases k with
    | inl i => cases e; exact p
    | inr x => cases e
  · exact fun p => ⟨_, rfl, p⟩
section
variable {X : Cx} {o i value e : Expr} {td ty tv : TE} {pos pos' : Pos}
noncomputable def tDG (td ty : TE) : TE := fun σ H Q => td σ H fun x H1 => ty σ H1 fun y H2 => ∃ a, x = .ref a ∧ ∃ k, y = kV k ∧ ∃ kvs v, H2 a = some (.dK kvs) ∧ valV kvs k = some v ∧ Q v H2
theorem pe_dg (hu : X.A.units + 1 < cLine) (ho : PE X o td) (hi : PE X i ty) (hs : NoSl i) : PE X (.Subscript o i pos) (tDG td ty) := by
  intro pins s σ H Q I h
  refine subD_of PySem.F.slot_dict_getitem.lookup hs (thn (ho pins s σ H _ I h) fun u s1 ⟨x, H1, I1, rx, q1⟩ => thn (hi pins s1 σ H1 _ I1 q1) fun iv s2 zr4079 => ?_)
  obtain ⟨y, H2, I2, ry, a, ex, k, ey, kvs, v, hd, hv, q2⟩ := zr4079
  subst ex
  obtain rfl : u = Value.ref a := rx
  have g : DGet H2 a y (some v) := .inl ⟨kvs, k, .inl hd, ey, hv.symm⟩
  exact ⟨dict_typeIs I2 g, d_getItem hu I2 g ry fun w' s3 I3 rw' => ⟨v, H2, I3, rw', q2⟩⟩
noncomputable def sDP (td ty tv : TE) : TS := fun D σ H => tv σ H fun v H1 => td σ H1 fun x H2 => ty σ H2 fun y H3 => ∃ a, x = .ref a ∧ ∃ k, y = kV k ∧ ∃ kvs, H3 a = some (.dK kvs) ∧ kvs.length < sizeLine ∧ D.nx σ (upd H3 a (.dK (putK kvs k v)))
theorem ps_dp (hu : X.A.units + 1 < cLine) (ho : PE X o td) (hi : PE X i ty) (hv : PE X value tv) (hs : swapsWith value (some (.Subscript o i pos')) pos.line X.env = pure false) :
    PS X (.Assign [.Subscript o i pos'] value pos) (sDP td ty tv) := by
  intro pins s σ H D I h
  refine wpAny_Assign_Subscript (thn (hv pins s σ H _ I h) fun r s1 ⟨v, H1, I1, rv, q1⟩ => thn (ho pins s1 σ H1 _ I1 q1) fun u s2 ⟨x, H2, I2, rx, q2⟩ => thn (hi pins s2 σ H2 _ I2 q2) fun iv s3 zr4088 => ?_) hs
  obtain ⟨y, H3, I3, ry, a, ex, k, ey, kvs, hd, hl, q3⟩ := zr4088
  subst ex
  obtain rfl : u = Value.ref a := rx
  have g : DPut H3 a y v (upd H3 a (.dK (putK kvs k v))) := .inl ⟨kvs, k, hd, ey, hl, rfl⟩
  exact d_setItem hu I3 g ry rv fun s4 I4 => ⟨σ, _, I4, q3⟩
noncomputable def tDI (ty td : TE) : TE := fun σ H Q => ty σ H fun y H1 => td σ H1 fun x H2 => ∃ a, x = .ref a ∧ ∃ k, y = kV k ∧ ∃ kvs, H2 a = some (.dK kvs) ∧ Q (.bl (valV kvs k).isSome) H2
end
end L2
namespace L2
open PySem PySem.Spec PyProof.Rows
theorem while_rd {c : TT} {tb : TS} {D : Ends} {σ : St} {H : Hp} (W : Nat → St → Hp → Prop) (hend : St → Hp → Prop) (h0 : ∃ m, W m σ H)
    (hs : ∀ R : St → Hp → Prop, (∀ σ H, hend σ H → R σ H) → ∀ m σ H, W m σ H → c σ H fun b H1 => if b = true then ∃ N : St → Hp → Prop, (∀ σ' H', N σ' H' → ∃ m', m' < m ∧ W m' σ' H') ∧ tb { D with nx := N, ct := N, bk := R } σ H1 else R σ H1)
    (hnx : ∀ σ H, hend σ H → D.nx σ H) : tWhile c tb D σ H := ⟨W, h0, fun m σ H w => hs D.nx hnx m σ H w⟩
theorem cxK {CX : CXT} {P : Program} {w : World} {K : PySem.W.Frag} {mg : Str → Option Value} {base : Heap} {N : List Str} {q : Str} {sc : Scope} {f : Addr} {cd : Value} {A : Around} {o : List Env} {s : Shared} {H : Hp} {E : XK} :
    (cxOf CX P w K mg base N q sc f cd A o s H E).K = K := rfl
theorem cpK {X : Cx} {sc : Scope} {N : List Str} {cl : List (Str × Addr)} {C : Addr} {fp : List Addr} {s : Shared} {H : Hp} {xe : Value → Shared → Prop} : (compCx X sc N cl C fp s H xe).K = X.K := rfl
end L2
set_option Elab.async false
set_option linter.all false
set_option maxRecDepth 100000
namespace L2
open PySem PySem.Spec PyProof.Rows
theorem scal_ii (i j : Int) : scal (.int i) (.int j) = true := rfl
theorem scal_ss (i j : Str) : scal (.str i) (.str j) = true := rfl
theorem scal_bb (i j : Bool) : scal (.bl i) (.bl j) = true := rfl
theorem scal_nn : scal .non .non = true := rfl
theorem scal_in (i : Int) : scal (.int i) .non = true := rfl
theorem scal_si (s : Str) (i : Int) : scal (.str s) (.int i) = true := rfl
section
variable {X : Cx} {a b o e l : Expr} {es : List Expr} {ta tb to : TE} {t : TA} {pos : Pos} {tg : Expr}
theorem OpR.imp {f : Value → Value → Sem Value} {r r' : R2} (h : OpR X f r) (i : ∀ x y H Q, r' x y H Q → r x y H Q) : OpR X f r' := fun pins s σ H x y v u Q I rx ry q => h pins s σ H x y v u Q I rx ry (i _ _ _ _ q)
theorem CallR.imp {f : Value} {r r' : List V → Hp → VK → Prop} (h : CallR X f r) (i : ∀ x H Q, r' x H Q → r x H Q) : CallR X f r' := fun pins s σ H xs us Q I rx q => h pins s σ H xs us Q I rx (i _ _ _ q)
theorem IxR.imp {r r' : R2} (h : IxR X r) (i : ∀ x y H Q, r' x y H Q → r x y H Q) : IxR X r' := fun value slice pins s σ H x y v u Q I rx ry q hs => h value slice pins s σ H x y v u Q I rx ry (i _ _ _ _ q) hs
theorem SlR.imp {r r' : V → Option Int → Option Int → Hp → VK → Prop} (h : SlR X r) (i : ∀ x lo hi H Q, r' x lo hi H Q → r x lo hi H Q) : SlR X r' := fun pins s σ H x v vl vu lo hi sl Q I rx hs pl pu q => h pins s σ H x v vl vu lo hi sl Q I rx hs pl pu (i _ _ _ _ _ q)
noncomputable def rLenL : List V → Hp → VK → Prop := fun xs H Q => ∃ p, xs = [.ref p] ∧ ∃ ys, H p = some (.lst ys) ∧ Q (.int ys.length) H
noncomputable def rLenT : List V → Hp → VK → Prop := fun xs H Q => ∃ p, xs = [.ref p] ∧ ∃ ys, H p = some (.tup ys) ∧ Q (.int ys.length) H
theorem call_lenL : CallR X (.builtin "len") rLenL := call_len_seq.imp fun _ _ _ zq9 => by obtain ⟨p, e, ys, h, q⟩ := zq9; exact (⟨p, ys, e, .inl (.of h), q⟩)
theorem call_lenT : CallR X (.builtin "len") rLenT := call_len_seq.imp fun _ _ _ zq10 => by obtain ⟨p, e, ys, h, q⟩ := zq10; exact (⟨p, ys, e, .inr (.of h), q⟩)
noncomputable def rIL : R2 := fun x y H Q => ∃ p, x = .ref p ∧ ∃ i, y = .int i ∧ ∃ xs, H p = some (.lst xs) ∧ ∃ v, atI xs i = some v ∧ Q v H
noncomputable def rIT : R2 := fun x y H Q => ∃ p, x = .ref p ∧ ∃ i, y = .int i ∧ ∃ xs, H p = some (.tup xs) ∧ ∃ v, atI xs i = some v ∧ Q v H
theorem ix_L : IxR X rIL := ix_list.imp fun _ _ _ _ zq11 => by obtain ⟨p, e, i, e2, xs, h, v, ha, q⟩ := zq11; exact (⟨p, xs, i, v, e, e2, .of h, ha, q⟩)
theorem ix_T : IxR X rIT := ix_tup.imp fun _ _ _ _ zq12 => by obtain ⟨p, e, i, e2, xs, h, v, ha, q⟩ := zq12; exact (⟨p, xs, i, v, e, e2, .of h, ha, q⟩)
noncomputable def rIS : R2 := fun x y H Q => ∃ z, x = .str z ∧ ∃ i, y = .int i ∧ z.length ≤ sizeLine ∧ ∃ c, atI z.cps.toList i = some c ∧ Q (.str ⟨#[c]⟩) H
theorem ix_S : IxR X rIS := ix_str.imp fun _ _ _ _ zq13 => by obtain ⟨z, e, i, e2, h, c, ha, q⟩ := zq13; exact (⟨z, i, c, e, e2, h, ha, q⟩)
noncomputable def rSL : V → Option Int → Option Int → Hp → VK → Prop := fun x lo hi H Q => ∃ a, x = .ref a ∧ ∃ xs, H a = some (.lst xs) ∧ ∀ p, H p = none → Q (.ref p) (upd H p (.lst (cutV xs lo hi)))
theorem sl_L : SlR X rSL := sl_list.imp fun _ _ _ _ _ zq14 => by obtain ⟨a, e, xs, h, q⟩ := zq14; exact (⟨a, xs, e, .of h, q⟩)
noncomputable def rSQ (K : PySem.W.Frag) : V → Option Int → Option Int → Hp → VK → Prop := fun x lo hi H Q => ∃ a, x = .ref a ∧ ∃ xs, SqL K H a xs ∧ ∀ p, H p = none → Q (.ref p) (upd H p (.lst (cutV xs lo hi)))
theorem sl_Q : SlR X (rSQ X.K) := sl_list.imp fun _ _ _ _ _ zq15 => by obtain ⟨a, e, xs, h, q⟩ := zq15; exact (⟨a, xs, e, h, q⟩)
noncomputable def iL (K : PySem.W.Frag) (tl : TE) : TI := fun σ H R => tl σ H fun x H1 => ∃ a, x = .ref a ∧ ∃ xs, H1 a = some (.lst xs) ∧ R (Itl K a) H1
noncomputable def iT (K : PySem.W.Frag) (tl : TE) : TI := fun σ H R => tl σ H fun x H1 => ∃ a, x = .ref a ∧ ∃ xs, H1 a = some (.tup xs) ∧ R (Itt K a) H1
theorem pi_L {tl : TE} (hl : PE X l tl) : PI X tg l (iL X.K tl) := by
  intro pins s σ H R I h
  refine thn (hl pins s σ H _ I h) fun v s1 zr4140 => ?_
  obtain ⟨x, H1, I1, r1, a, e, xs, hq, q⟩ := zr4140
  subst e
  cases r1
  obtain ⟨its, rv, p, hz⟩ := I1.list (SqL.of hq)
  refine wpAny_pyIter_list p.isList ?_
  refine ⟨s1.heap.objs.size, [s1.heap.objs.size], _, _, H1, rfl, I1.kept (t' := s1.toks) fun b o e => Heap.get?_push_of_some _ e, turn_list a _, ⟨_, Heap.get?_push_size _ rfl, rfl, rfl⟩, fun b hb => ?_, q⟩
  have e : b = s1.heap.objs.size := by simpa using hb
  subst e
  exact I1.fpOk (Nat.le_refl _) (I1.hok.fresh (Nat.le_refl _))
theorem pi_T {tl : TE} (hl : PE X l tl) : PI X tg l (iT X.K tl) := by
  intro pins s σ H R I h
  refine thn (hl pins s σ H _ I h) fun v s1 zr4151 => ?_
  obtain ⟨x, H1, I1, r1, a, e, xs, hq, q⟩ := zr4151
  subst e
  cases r1
  obtain ⟨its, rv, p, hz⟩ := I1.tuple (SqT.of hq)
  refine wpAny_pyIter_tuple (show s1.heap.IsTuple a its.toArray from p) ?_
  refine ⟨s1.heap.objs.size, [s1.heap.objs.size], _, _, H1, rfl, I1.kept (t' := s1.toks) fun b o e => Heap.get?_push_of_some _ e, turn_tuple a _, ⟨_, Heap.get?_push_size _ rfl, rfl, rfl⟩, fun b hb => ?_, q⟩
  have e : b = s1.heap.objs.size := by simpa using hb
  subst e
  exact I1.fpOk (Nat.le_refl _) (I1.hok.fresh (Nat.le_refl _))
noncomputable abbrev RM := Addr → List V → Hp → VK → Prop
noncomputable def MtL (X : Cx) (id : String) (r : RM) : Prop := MtR X id fun x vs H Q => ∃ p, x = .ref p ∧ r p vs H Q
noncomputable def tML (r : RM) (to : TE) (t : TA) : TE := fun σ H Q => to σ H fun x H1 => ∃ p, x = .ref p ∧ (∃ xs, H1 p = some (.lst xs)) ∧ t σ H1 fun vs H2 => r p vs H2 Q
variable {name : Str} {id : String} {r : RM} {apos cpos : Pos}
theorem pe_mL (slot : Slot "list" name id) (hty : typeOf (.builtin id) = pure (.type "method_descriptor")) (hm : MtL X id r) (ho : PE X o to) (ha : PA X (e :: es) t)
    (hbase : attributeBase o name X.env (eval o X.env) = eval o X.env := by rfl)
    (hfew : ((backTo cpos (starEach (e :: es) X.env)).all (fun x => !x.1) && (backToKw cpos (keywordEach [] X.env)).all (fun x => x.1.isSome)
      && decide ((e :: es).length + ([] : List Keyword).length + (if ([] : List Keyword).isEmpty then 0 else 1) < 30)) = true := by rfl)
    (hline : (apos.endLine == cpos.line) = true := by rfl) (hs : starEach (e :: es) X.env = (false, eval e X.env) :: starEach es X.env := by rfl) (hplain : (backTo cpos (starEach es X.env)).any (·.1) = false := by rfl) :
    PE X (.Call (.Attribute o name apos) (e :: es) [] cpos) (tML r to t) := by
  intro pins s σ H Q I h
  refine wpAny_Call_method_late hbase hfew hline rfl (thn (ho pins s σ H _ I h) fun v s1 ⟨x, H1, I1, r1, p, ex, ⟨xs, hp⟩, q1⟩ => ?_)
  subst ex
  have ty : tyV X.K "list" (.ref p) H1 := .inl ⟨rfl, xs, .of hp⟩
  obtain ⟨h1, h2⟩ := tyV_is I1 r1 ty
  refine ⟨"list", id, PySem.F.plainAttrs_list, slot, hty, h1, h2, ?_⟩
  have hA := ha cpos pins s1 σ H1 _ I1 q1
  rw [hs] at hA ⊢
  refine Calls.callWith_builtin (by show (false || (backTo cpos (starEach es X.env)).any (·.1)) = false; rw [hplain] <;> rfl) (Calls.evalArgs_plain ?_)
  refine thn hA fun us s2 zr4179 => ?_
  obtain ⟨vs, H2, I2, rr, q2⟩ := zr4179
  exact hm pins s2 σ H2 (.ref p) vs v us Q I2 r1 rr ⟨p, rfl, q2⟩
theorem pe_mL0 (slot : Slot "list" name id) (hty : typeOf (.builtin id) = pure (.type "method_descriptor")) (hm : MtL X id r) (ho : PE X o to)
    (hbase : attributeBase o name X.env (eval o X.env) = eval o X.env := by rfl) (hline : (apos.endLine == cpos.line) = true := by rfl) : PE X (.Call (.Attribute o name apos) [] [] cpos) (tML r to tNil) := by
  intro pins s σ H Q I h
  refine wpAny_Call_method0_late hbase hline (thn (ho pins s σ H _ I h) fun v s1 ⟨x, H1, I1, r1, p, ex, ⟨xs, hp⟩, q1⟩ => ?_)
  subst ex
  have ty : tyV X.K "list" (.ref p) H1 := .inl ⟨rfl, xs, .of hp⟩
  obtain ⟨h1, h2⟩ := tyV_is I1 r1 ty
  exact ⟨"list", id, PySem.F.plainAttrs_list, slot, hty, h1, h2, Calls.callWith_builtin rfl (PySem.evalArgs_none (hm pins s1 σ H1 _ [] v [] Q I1 r1 .nil ⟨p, rfl, q1⟩))⟩
noncomputable def rmAppend : RM := fun p vs H Q => ∃ y, vs = [y] ∧ ∃ xs, H p = some (.lst xs) ∧ xs.length < sizeLine ∧ Q .non (upd H p (.lst (xs ++ [y])))
theorem ml_append : MtL X "list.append" rmAppend := fun pins s σ H x vs v us Q I rx rv zq16 => by obtain ⟨p, e, y, e2, xs, h, hl, q⟩ := zq16; exact (mt_append pins s σ H x vs v us Q I rx rv ⟨p, xs, y, e, e2, h, hl, q⟩)
noncomputable def rmPop : RM := fun p vs H Q => vs = [] ∧ ∃ xs, H p = some (.lst xs) ∧ ∃ y, xs[xs.length - 1]? = some y ∧ Q y (upd H p (.lst xs.dropLast))
theorem ml_pop : MtL X "list.pop" rmPop := fun pins s σ H x vs v us Q I rx rv zq17 => by obtain ⟨p, e, e2, xs, h, y, hl, q⟩ := zq17; exact (mt_pop pins s σ H x vs v us Q I rx rv ⟨p, xs, y, e, e2, h, hl, q⟩)
noncomputable def rCL : R2 := fun x y H Q => ∃ l, x = .ref l ∧ ∃ b, y = .ref b ∧ ∃ xs, H l = some (.lst xs) ∧ ∃ zs, H b = some (.lst zs) ∧ xs.length + zs.length ≤ sizeLine ∧ ∀ p, H p = none → Q (.ref p) (upd H p (.lst (xs ++ zs)))
theorem op_catL : OpR X (binaryOp .Add) rCL := op_cat.imp fun _ _ _ _ zq18 => by obtain ⟨l, e, b, e2, xs, h, zs, h2, hl, q⟩ := zq18; exact (⟨l, b, xs, zs, e, e2, h, h2, hl, q⟩)
noncomputable def rInL (neg : Bool) : R2 := fun x y H Q => ∃ p, y = .ref p ∧ ∃ xs, H p = some (.lst xs) ∧ flatV x = true ∧ xs.all flatV = true ∧ Q (.bl (if neg then !inV x xs else inV x xs)) H
noncomputable def rInT (neg : Bool) : R2 := fun x y H Q => ∃ p, y = .ref p ∧ ∃ xs, H p = some (.tup xs) ∧ flatV x = true ∧ xs.all flatV = true ∧ Q (.bl (if neg then !inV x xs else inV x xs)) H
noncomputable def rInM (K : PySem.W.Frag) (neg : Bool) : R2 := fun x y H Q => ∃ p, y = .ref p ∧ ∃ xs, SqT K H p xs ∧ flatV x = true ∧ xs.all flatV = true ∧ Q (.bl (if neg then !inV x xs else inV x xs)) H
theorem op_inL : OpR X (compareOp .In) (rInL false) := op_in_seq.imp fun _ _ _ _ zq19 => by obtain ⟨p, e, xs, h, f1, f2, q⟩ := zq19; exact (⟨p, xs, e, .inl (.of h), f1, f2, q⟩)
theorem op_inT : OpR X (compareOp .In) (rInT false) := op_in_seq.imp fun _ _ _ _ zq20 => by obtain ⟨p, e, xs, h, f1, f2, q⟩ := zq20; exact (⟨p, xs, e, .inr (.of h), f1, f2, q⟩)
theorem op_notInM : OpR X (compareOp .NotIn) (rInM X.K true) := op_notIn_seq.imp fun _ _ _ _ zq21 => by obtain ⟨p, e, xs, h, f1, f2, q⟩ := zq21; exact (⟨p, xs, e, .inr h, f1, f2, q⟩)
noncomputable def rTupL : List V → Hp → VK → Prop := fun xs H Q => ∃ p, xs = [.ref p] ∧ ∃ ys, H p = some (.lst ys) ∧ ∀ l, H l = none → Q (.ref l) (upd H l (.tup ys))
theorem call_tupL : CallR X (.type "tuple") rTupL := call_tuple_of.imp fun _ _ _ zq22 => by obtain ⟨p, e, ys, h, q⟩ := zq22; exact (⟨p, ys, e, .inl ⟨.of h, q⟩⟩)
noncomputable def rCS : R2 := fun x y H Q => ∃ i, x = .str i ∧ ∃ j, y = .str j ∧ i.length + j.length ≤ sizeLine ∧ Q (.str (i ++ j)) H
theorem op_catS : OpR X (binaryOp .Add) rCS := op_add_str.imp fun _ _ _ _ zq23 => by obtain ⟨i, e, j, e2, h, q⟩ := zq23; exact (⟨i, j, e, e2, h, q⟩)
noncomputable def rLenS : List V → Hp → VK → Prop := fun xs H Q => ∃ z, xs = [.str z] ∧ z.length ≤ sizeLine ∧ Q (.int z.length) H
theorem call_lenS : CallR X (.builtin "len") rLenS := call_len_str
noncomputable def rLeS : R2 := fun x y H Q => ∃ i, x = .str i ∧ ∃ j, y = .str j ∧ Q (.bl (!decide (j.cps.toList < i.cps.toList))) H
theorem op_leS : OpR X (compareOp .LtE) rLeS := op_le_str.imp fun _ _ _ _ zq24 => by obtain ⟨i, e, j, e2, q⟩ := zq24; exact (⟨i, j, e, e2, q⟩)
noncomputable def rInS : R2 := fun x y H Q => ∃ i, x = .str i ∧ ∃ j, y = .str j ∧ Q (.bl (!(Builtin.Str.occurrences j i 0 j.length 1).isEmpty)) H
theorem op_inS : OpR X (compareOp .In) rInS := op_in_str.imp fun _ _ _ _ zq25 => by obtain ⟨i, e, j, e2, q⟩ := zq25; exact (⟨i, j, e, e2, q⟩)
end
end L2
set_option Elab.async false
set_option linter.all false
set_option maxRecDepth 100000
namespace L2
open PySem PySem.Spec PyProof.Rows
section
variable {X : Cx}
theorem ps_setC {i : Nat} {y : Str} {py spos : Pos} {elt tg iter : Expr} {ifs : List Expr} {scope : Scope} {pos : Pos} {N : List Str} {nt : Nat} {js : List Nat} {wi : TI} {g : TG} {tc : TT} {te : TE}
    (hN : X.N.Nodup) (hi0 : X.N[i]? = some y) (hy : Loc X.env.scope y) (hca : X.calm = true) (S : CompOk X scope N nt js) (hi : PI X tg iter wi)
    (hg : ∀ cl C fp s H xe, PG (compCx X scope N cl C fp s H xe) tg g) (hgo : TgOk g nt)
    (hc : ∀ cl C fp s H xe, PTs (compCx X scope N cl C fp s H xe) ifs tc)
    (he : ∀ cl C fp s H xe, PE (compCx X scope N cl C fp s H xe) elt te)
    (hs : ∀ x, foldedSetIterable iter X.env x = pure x := by intro _; rfl)
    (hsw : swapsWith (.ListComp elt [⟨tg, iter, ifs, 0⟩] scope pos) (some (.Name y py)) spos.line X.env = pure true := by rfl)
    (hf : X.fn y = true ∨ X.env.scope.names.lookup y = some .local := by first | exact .inl rfl | exact .inr rfl | assumption) :
    PS X (.Assign [.Name y py] (.ListComp elt [⟨tg, iter, ifs, 0⟩] scope pos) spos) (tAsg (tComp nt js wi g tc te) (gName i)) := by
  intro pins s σ H D I h
  obtain ⟨cl, hclos, hcl1, _, hcl2⟩ := closure_of (env := X.env) scope.names [] (fun x hx hk => I.ok.has x.1 (S.free x hx hk))
  have hcl : ∀ x c, cl.lookup x = some c → X.env.cells.lookup x = some c := fun x c e => (hcl1 x c e).elim (fun z => by simp at z) fun z => z
  have hclos' : closureFor scope X.env = pure cl := by
    unfold closureFor
    simp only []
    rw [hclos]
    rfl
  rw [exec_Assign_Name_used _ _ _ _ hsw]
  refine wpAny_bind (wpAny_standAt (wpAny_bind ?_))
  show wpAny _ X.A (do let _ ← comprehension (.ListComp elt [⟨tg, iter, ifs, 0⟩] scope pos) scope X.env _ (newList []) false (eval iter X.env) (some (assign (.Name y py) X.env))) _ _ s
  refine wpAny_bind (wpAny_mono (wpAny_comprehension_free (use := some (assign (.Name y py) X.env)) (Q := fun _ s' => SP X pins D .next s') rfl hs hclos' S.kind S.loc (thn (hi pins s σ H _ I h) fun v s1 h1 => thn h1 fun itv s2 h2 => ?_)) (fun _ s' hq => wpAny_pure (wpAny_pure hq)) fun _ _ e => e)
  obtain ⟨it, fp, tn, J, H2, e, I2, T, st2, f2, q2⟩ := h2
  subst e
  have hfresh : H2 s2.heap.objs.size = none := I2.hok.fresh (Nat.le_refl _)
  obtain ⟨W, ⟨m0, w0⟩, turn⟩ := q2 s2.heap.objs.size hfresh
  refine wpAny_newObj_type (wpAny_newFunctionEnv S.own (by intro y hy; simp at hy) (fun h₁ hns₁ hsb₁ => ?_) S.kind)
  dsimp only at hns₁ hsb₁ ⊢
  generalize hG : s2.heap.push { cls := .type "list", dict := none, data := .seq ([] : List Value).toArray } = G at hns₁ hsb₁ ⊢
  have hGs : G.objs.size = s2.heap.objs.size + 1 := by rw [← hG, Heap.size_push]
  have kold : ∀ b o, s2.heap.get? b = some o → h₁.get? b = some o := fun b o e =>
    hsb₁.extBut b o (by rw [hGs]; exact Nat.ne_of_lt (Nat.lt_succ_of_lt (Heap.lt_size e))) (Heap.get?_push_of_some _ (hG ▸ Heap.get?_push_of_some _ e))
  have kD : h₁.get? s2.heap.objs.size = some { cls := .type "list", dict := none, data := .seq ([] : List Value).toArray } :=
    hsb₁.extBut _ _ (by rw [hGs]; exact Nat.ne_of_lt (Nat.lt_succ_self _)) (Heap.get?_push_of_some _ (hG ▸ Heap.get?_push_size _ rfl))
  have hok1 : HOk X.prog X.w (upd H2 s2.heap.objs.size (.lst [])) h₁ := I2.hok.laid kold (Nat.le_refl _) ⟨Nat.zero_le _, [], 0, .nil, kD⟩
  have hfpl : ∀ b ∈ fp, b < s2.heap.objs.size := fun b hb => by
    obtain ⟨o, e, _⟩ := T.obj _ _ st2 b hb
    exact Heap.lt_size e
  have hC0 : (upd H2 s2.heap.objs.size (.lst [])) G.objs.size = none := by
    rw [upd_ne (by rw [hGs]; exact Nat.ne_of_gt (Nat.lt_succ_self _))]
    exact I2.hok.fresh (by rw [hGs]; exact Nat.le_succ _)
  generalize hRR : (compPost (model X.prog X.w) X.A X.xe (some (assign (.Name y py) X.env)) (fun _ s' => SP X pins D .next s') (.ref s2.heap.objs.size) G.objs.size) = RR
  have stat : ∀ {H' : Hp}, (∀ b ∈ fp, H' b = none) → ∀ b ∈ fp, FpOk (compCx X scope N cl G.objs.size fp s2 H2 (notedBy (model X.prog X.w) X.A (compEnvC scope cl G.objs.size X.env) fun e s' => RR (.error e) s')) [] H' b := fun {H'} hn b hb => by
    obtain ⟨f0, f1, f2', f3, f4, f5⟩ := f2 b hb
    refine ⟨hn b hb, Nat.ne_of_lt (Nat.lt_of_lt_of_le (hfpl b hb) (by show _ ≤ G.objs.size; rw [hGs]; exact Nat.le_succ _)), fun z => ?_, .inl hb, fun x c e => f4 x c (hcl x c e), fun p hp => absurd (show p ∈ ([] : List (Addr × Obj)) from hp) (by simp)⟩
    rcases List.mem_cons.mp (I2.stkSub b z) with q | q
    · exact f1 q
    · exact f2' q
  have I3 : ∀ tk, Inv (compCx X scope N cl G.objs.size fp s2 H2 (notedBy (model X.prog X.w) X.A (compEnvC scope cl G.objs.size X.env) fun e s' => RR (.error e) s')) [] (inner nt js σ) (upd H2 s2.heap.objs.size (.lst [])) { s2 with heap := h₁, toks := tk } := fun tk =>
    comp_start S I2 f2 hcl hcl2 hfpl (by rw [hGs]; exact Nat.le_succ _) kold (fun b o e => by rw [upd_ne (ne_of_none e hfresh)]; exact e) (fun b n hb => by rw [upd_ne (Nat.ne_of_lt hb)]; exact n) hok1 hns₁ hC0 (fun _ => rfl)
  have loop : ∀ s₃ : Shared, s₃ = { s2 with heap := h₁, toks := s2.toks + ([] : List (Str × Value)).length } →
      codeAny (model X.prog X.w) X.A (.compLoop (.ListComp elt [⟨tg, iter, ifs, 0⟩] scope pos) 0 (.ref it) (.ref s2.heap.objs.size) (compEnvC scope cl G.objs.size X.env)) RR s₃ := by
    rintro s₃ rfl
    refine compLoop_any (fun n s' => ∃ i ys H', Inv (compCx X scope N cl G.objs.size fp s2 H2 (notedBy (model X.prog X.w) X.A (compEnvC scope cl G.objs.size X.env) fun e s' => RR (.error e) s')) [] (inner nt js σ) H' s' ∧ tn i s'.heap ∧ (∀ b ∈ fp, H' b = none) ∧ W i n ys H') ?_ m0
      ⟨0, [], _, I3 _, T.keep _ _ _ st2 fun b hb o e => kold b o e, fun b hb => by rw [upd_ne (Nat.ne_of_lt (hfpl b hb))]; exact (f2 b hb).1, w0⟩
    rintro n s3 ⟨i, ys, H3, J3, st3, fr3, w3⟩
    rcases turn i n ys H3 w3 with ⟨stop, qn⟩ | ⟨go, NN, hN, step⟩
    · refine thn (T.done (compCx X scope N cl G.objs.size fp s2 H2 (notedBy (model X.prog X.w) X.A (compEnvC scope cl G.objs.size X.env) fun e s' => RR (.error e) s')) rfl rfl rfl hca i [] s3 (inner nt js σ) H3 _ J3 (stat fr3) st3 stop) fun r s4 zr4276 => ?_
      obtain ⟨hr, I4⟩ := zr4276
      subst hr
      show RR (.ok .next) s4
      rw [← hRR]
      obtain ⟨mC, hnC, _⟩ := id I4.loc
      have I5 : Inv X pins σ H3 s4 := I2.call' (s' := s4) I4.os I4.base I4.hok I4.bare (fun b hb => by
        obtain ⟨f0, f1, f2', f3, f4, f5⟩ := f2 b hb
        exact ⟨f3, f1, f4, f5⟩)
      show wpAny _ X.A (assign (.Name y py) X.env (.ref s2.heap.objs.size)) _ _ s4
      have hCL : G.objs.size ≠ X.env.locals := Nat.ne_of_gt (Nat.lt_of_lt_of_le I2.lt (by rw [hGs]; exact Nat.le_succ _))
      have hCc : ∀ x c, X.env.cells.lookup x = some c → c ≠ G.objs.size := fun x c e z => by
        obtain ⟨v, q⟩ := I2.cell x c e
        exact absurd (Nat.lt_of_lt_of_le q.lt (by rw [z, hGs]; exact Nat.le_succ _)) (Nat.lt_irrefl _)
      refine wpAny_assign_Name (store_ok2 I5 hN hi0 hy (v := .ref s2.heap.objs.size) rfl (fun s6 I6 zr4289 => ?_) hf)
      obtain ⟨ad, sb, had⟩ := zr4289
      have hadC : G.objs.size ≠ ad := by
        rcases had with z | z
        · rw [z]; exact hCL
        · exact fun e => hCc _ _ z e.symm
      refine ⟨mC, hnC.sameBut sb hadC, fun h'' hs'' => ?_⟩
      refine ⟨_, H3, Inv.turned (t' := s6.toks) (it := G.objs.size) I6 (fun b o hb e => hs''.extBut b o hb e) I4.free hCL (.inr (Nat.le_trans I2.sz (by rw [hGs]; exact Nat.le_succ _))) hCc (fun p hp z => ?_), qn⟩
      have e := (I2.pin p hp).1
      exact absurd (Nat.lt_of_lt_of_le (Heap.lt_size e) (by rw [z, hGs]; exact Nat.le_succ _)) (Nat.lt_irrefl _)
    · refine thn (T.item (compCx X scope N cl G.objs.size fp s2 H2 (notedBy (model X.prog X.w) X.A (compEnvC scope cl G.objs.size X.env) fun e s' => RR (.error e) s')) rfl rfl rfl hca i [] s3 (inner nt js σ) H3 _ J3 (stat fr3) st3 go) fun r s4 zr4298 => ?_
      obtain ⟨u, hr, h4⟩ := zr4298
      subst hr
      refine thn h4 fun _ s5 zr4300 => ?_
      obtain ⟨x, H5, I5, r5, y5, st5, fr5⟩ := zr4300
      have I5' := I5.pinned (stat fr5) (T.obj _ _ st5)
      have g5 := hgo x (inner nt js σ) H5 _ inner_none (step x H5 y5)
      refine thn (hg cl G.objs.size fp s2 H2 _ _ s5 _ H5 x u _ I5' r5 g5) fun _ s6 zr4303 => ?_
      obtain ⟨σ6, H6, I6, wk6, q6⟩ := zr4303
      refine thn (hc cl G.objs.size fp s2 H2 _ _ s6 σ6 H6 _ I6 q6) fun ok s7 zr4304 => ?_
      obtain ⟨H7, I7, q7⟩ := zr4304
      have again : ∀ {s8 : Shared} {H8 : Hp} {ys' : List V}, Inv (compCx X scope N cl G.objs.size fp s2 H2 (notedBy (model X.prog X.w) X.A (compEnvC scope cl G.objs.size X.env) fun e s' => RR (.error e) s')) ([] ++ pinsAt fp s5.heap) σ6 H8 s8 → NN ys' H8 →
          ∃ m, m < n ∧ ∃ i ys H', Inv (compCx X scope N cl G.objs.size fp s2 H2 (notedBy (model X.prog X.w) X.A (compEnvC scope cl G.objs.size X.env) fun e s' => RR (.error e) s')) [] (inner nt js σ) H' s8 ∧ tn i s8.heap ∧ (∀ b ∈ fp, H' b = none) ∧ W i m ys H' := fun {s8 H8 ys'} I8 n8 => by
        obtain ⟨m', hm, w8⟩ := hN ys' H8 n8
        refine ⟨m', hm, i + 1, ys', H8, (I8.unpinned).wk wk6, T.keep _ _ _ st5 fun b hb o e => (I8.pin (b, o) (List.mem_append_right _ (List.mem_append_right _ (mem_pinsAt hb e)))).1, fun b hb => ?_, w8⟩
        obtain ⟨o, e, d⟩ := T.obj _ _ st5 b hb
        exact (I8.pin (b, o) (List.mem_append_right _ (List.mem_append_right _ (mem_pinsAt hb e)))).2.1
      cases ok with
      | false =>
        rw [if_neg Bool.false_ne_true] at q7 ⊢
        exact again I7 q7
      | true =>
        rw [if_pos rfl] at q7 ⊢
        refine thn (he cl G.objs.size fp s2 H2 _ _ s7 σ6 H7 _ I7 q7) fun y s8 zr4317 => ?_
        obtain ⟨yv, H8, I8, r8, hD8, hl8, q8⟩ := zr4317
        refine thn (mt_append (X := compCx X scope N cl G.objs.size fp s2 H2 (notedBy (model X.prog X.w) X.A (compEnvC scope cl G.objs.size X.env) fun e s' => RR (.error e) s')) _ s8 σ6 H8 (.ref s2.heap.objs.size) [yv] (.ref s2.heap.objs.size) [y] (fun _ H9 => NN (ys ++ [yv]) H9) I8 rfl (.cons r8 .nil) ⟨_, ys, yv, rfl, rfl, hD8, hl8, q8⟩) fun v9 s9 zr4318 => ?_
        obtain ⟨x9, H9, I9, r9, q9⟩ := zr4318
        exact again I9 q9
  subst hRR
  exact codeAny_compStart_list (loop _ rfl) (T.self _ 0 _ _ _ (T.keep _ _ _ st2 fun b hb o e => kold b o e) (loop _ rfl))
end
end L2
namespace L2
open PySem PySem.Spec PyProof.Rows
noncomputable def CompG (J : It) (σ0 : St) (g : TG) (tc : TT) (te : TE) (Q : VK) (H1 : Hp) (D : Addr) : Prop := ∃ W : Nat → Nat → List V → Hp → Prop, (∃ m, W 0 m [] (upd H1 D (.lst []))) ∧
  ∀ i m ys H2, W i m ys H2 → (J.stop i H2 ∧ Q (.ref D) H2) ∨ (J.go i H2 ∧ ∃ N : List V → Hp → Prop, (∀ ys' H', N ys' H' → ∃ m', m' < m ∧ W (i + 1) m' ys' H') ∧
    ∀ x H', J.yld i H2 x H' → g x σ0 H' fun σ2 H3 => tc σ2 H3 fun b H4 => if b = true then te σ2 H4 fun y H5 => H5 D = some (.lst ys) ∧ ys.length < sizeLine ∧ N (ys ++ [y]) (upd H5 D (.lst (ys ++ [y]))) else N ys H4)
theorem tComp_eq (nt : Nat) (js : List Nat) (wi : TI) (g : TG) (tc : TT) (te : TE) : tComp nt js wi g tc te = fun σ H Q => wi σ H fun J H1 => ∀ D, H1 D = none → CompG J (inner nt js σ) g tc te Q H1 D := rfl
noncomputable def ForG (J : It) (g : TG) (tb : TS) (D : Ends) (σ : St) (H1 : Hp) : Prop := ∃ W : Nat → Nat → St → Hp → Prop, (∃ m, W 0 m σ H1) ∧ ∀ i m σ H, W i m σ H →
  (J.stop i H ∧ D.nx σ H) ∨ (J.go i H ∧ ∃ N : St → Hp → Prop, (∀ σ' H', N σ' H' → ∃ m', m' < m ∧ W (i + 1) m' σ' H') ∧ ∀ x H', J.yld i H x H' → g x σ H' fun σ2 H2 => tb { D with nx := N, ct := N, bk := D.nx } σ2 H2)
theorem tFor_eq (wi : TI) (g : TG) (tb : TS) : tFor wi g tb = fun D σ H => wi σ H fun J H1 => ForG J g tb D σ H1 := rfl
theorem for_g {J : It} {xs : List V} {C : Hp → Prop} (w : Wlk J xs C) {g : TG} {tb : TS} {D : Ends} {σ : St} {H : Hp} (Pv : Nat → St → Hp → Prop) (h0 : Pv 0 σ H) (hl : ∀ i σ H, Pv i σ H → C H)
    (hs : ∀ i x σ H, i < xs.length → xs[i]? = some x → Pv i σ H → g x σ H fun σ2 H2 => tb { D with nx := Pv (i + 1), ct := Pv (i + 1), bk := D.nx } σ2 H2) (hd : ∀ σ H, Pv xs.length σ H → D.nx σ H) : ForG J g tb D σ H :=
  for_wlk w Pv h0 hl hs hd
theorem comp_g {J : It} {xs : List V} {C : Hp → Prop} (w : Wlk J xs C) {g : TG} {tc : TT} {te : TE} {σ0 : St} {Q : VK} {H1 : Hp} {D : Addr} (Pv : Nat → List V → Hp → Prop) (h0 : Pv 0 [] (upd H1 D (.lst []))) (hl : ∀ i ys H, Pv i ys H → C H)
    (hs : ∀ i x ys H, i < xs.length → xs[i]? = some x → Pv i ys H → g x σ0 H fun σ2 H3 => tc σ2 H3 fun b H4 => if b = true then te σ2 H4 fun y H5 => H5 D = some (.lst ys) ∧ ys.length < sizeLine ∧ Pv (i + 1) (ys ++ [y]) (upd H5 D (.lst (ys ++ [y]))) else Pv (i + 1) ys H4)
    (hd : ∀ ys H, Pv xs.length ys H → Q (.ref D) H) : CompG J σ0 g tc te Q H1 D := comp_wlk w Pv h0 hl hs hd
theorem inner0 (js : List Nat) (σ : St) : inner 0 js σ = js.map fun j => (σ[j]?).join := rfl
theorem inner1 (js : List Nat) (σ : St) : inner 1 js σ = none :: js.map fun j => (σ[j]?).join := rfl
theorem inner2 (js : List Nat) (σ : St) : inner 2 js σ = none :: none :: js.map fun j => (σ[j]?).join := rfl
theorem inner3 (js : List Nat) (σ : St) : inner 3 js σ = none :: none :: none :: js.map fun j => (σ[j]?).join := rfl
theorem Same.upd_new {H H1 : Hp} {p : Addr} {o : HO} (s : Same H H1) (hp : H1 p = none) : Same H (upd H1 p o) := fun b u e => by
  have e1 := s b u e
  rw [upd_ne (ne_of_none e1 hp)]; exact e1
theorem Same.upd0 {H : Hp} {p : Addr} {o : HO} (hp : H p = none) : Same H (upd H p o) := (Same.refl H).upd_new hp
end L2
set_option Elab.async false
set_option linter.all false
set_option maxRecDepth 100000
namespace L2
open PySem PySem.Spec PyProof.Rows
noncomputable def IsB (H : Hp) (x : V) (T : String) (k : Bool) : Prop := match x with
  | .non => k = false
  | .bl _ => k = (T == "bool" || T == "int")
  | .int _ => k = (T == "int")
  | .str _ => k = (T == "str")
  | .ref a => (∃ vs, H a = some (.tup vs) ∧ k = (T == "tuple")) ∨ (∃ vs, H a = some (.lst vs) ∧ k = (T == "list"))
  | _ => False
noncomputable def rIsB : List V → Hp → VK → Prop := fun xs H Q => ∃ x T, xs = [x, .ty T] ∧ (T = "int" ∨ T = "str" ∨ T = "bool" ∨ T = "tuple" ∨ T = "list") ∧ ∃ k, IsB H x T k ∧ Q (.bl k) H
theorem kit_all (K : PySem.W.Frag) {T : String} (h : T = "int" ∨ T = "str" ∨ T = "bool" ∨ T = "tuple" ∨ T = "list") :
    PySem.W.kitOne K (.type "NoneType") (.type T) = some false ∧ PySem.W.kitOne K (.type "bool") (.type T) = some (T == "bool" || T == "int") ∧ PySem.W.kitOne K (.type "int") (.type T) = some (T == "int") ∧
    PySem.W.kitOne K (.type "str") (.type T) = some (T == "str") ∧ PySem.W.kitOne K (.type "tuple") (.type T) = some (T == "tuple") ∧ PySem.W.kitOne K (.type "list") (.type T) = some (T == "list") := by
  rcases h with rfl | rfl | rfl | rfl | rfl
  all_goals exact ⟨rfl, rfl, rfl, rfl, rfl, rfl⟩
theorem call_isB {X : Cx} : CallR X (.builtin "isinstance") rIsB := call_isi.imp fun xs H Q ⟨x, T, e, hT, k, hk, q⟩ => by
  obtain ⟨k1, k2, k3, k4, k5, k6⟩ := kit_all X.K hT
  cases x with
  | non => cases hk; exact ⟨_, _, T, _, e, .non, k1, q⟩
  | bl b => cases hk; exact ⟨_, _, T, _, e, .bl b, k2, q⟩
  | int b => cases hk; exact ⟨_, _, T, _, e, .int b, k3, q⟩
  | str b => cases hk; exact ⟨_, _, T, _, e, .str b, k4, q⟩
  | ref a =>
    rcases hk with ⟨vs, h, rfl⟩ | ⟨vs, h, rfl⟩
    · exact ⟨_, _, T, _, e, .tup h, k5, q⟩
    · exact ⟨_, _, T, _, e, .lst h, k6, q⟩
  | _ => exact hk.elim
end L2
namespace L2
open PySem PySem.Spec PyProof.Rows
section
variable {X : Cx} {x : Str} {pos : Pos}
theorem pe_cI {i : Int} (h : ∃ t, X.mg x = some (.int i t)) (hg : Gl X x) (hd : (x == ("__debug__" : Str)) = false := by decide) : PE X (.Name x pos) (tC (.int i)) := by
  obtain ⟨t, h⟩ := h
  exact pe_glob hg h ⟨t, rfl⟩ hd
noncomputable def tCT (K : PySem.W.Frag) (xs : List V) : TE := fun _ H Q => ∀ a, SqT K H a xs → Q (.ref a) H
noncomputable def ConstT (K : PySem.W.Frag) (mg : Str → Option Value) (x : Str) (xs : List V) : Prop :=
  ∃ (a : Addr) (o : Obj) (its : Array Value) (n : Nat), mg x = some (.ref a) ∧ K.lookup a = some o ∧ o.cls = .type "tuple" ∧ o.data = .seq its n ∧ its.size ≤ sizeLine ∧ Vals xs its.toList
theorem pe_cT {xs : List V} (h : ConstT X.K X.mg x xs) (hg : Gl X x) (hd : (x == ("__debug__" : Str)) = false := by decide) : PE X (.Name x pos) (tCT X.K xs) := by
  obtain ⟨a, o, its, n, hm, h1, h2, h3, h4, h5⟩ := h
  intro pins s σ H Q I q
  exact pe_glob (v := .ref a) hg hm rfl hd pins s σ H Q I (q a (.inr ⟨o, its, n, h1, h2, h3, h4, h5⟩))
end
end L2
set_option Elab.async false
set_option linter.all false
namespace L2
open PySem
noncomputable def occStep (s sub : Str) (hi limit : Nat) (st : Array Nat × Nat) (i : Nat) : Array Nat × Nat :=
  if (decide (st.1.size < limit) && decide (st.2 ≤ i) && decide (i + sub.length ≤ hi) && Builtin.Str.subAt s sub i) = true then (st.1.push i, i + sub.length) else (st.1, st.2)
theorem occ_forIn (s sub : Str) (hi limit : Nat) : ∀ (L : List Nat) (st : Array Nat × Nat),
    (forIn (m := Id) L st fun i __s => if (decide (__s.fst.size < limit) && decide (__s.snd ≤ i) && decide (i + sub.length ≤ hi) && Builtin.Str.subAt s sub i) = true then pure (ForInStep.yield (__s.fst.push i, i + sub.length)) else pure (ForInStep.yield (__s.fst, __s.snd))) = pure (L.foldl (occStep s sub hi limit) st)
  | [], st => rfl
  | x :: L, st => by
    rw [List.forIn_cons, List.foldl_cons, ← occ_forIn s sub hi limit L]
    unfold occStep
    split <;> rfl
theorem occ_foldl (s sub : Str) (lo hi limit : Nat) : Builtin.Str.occurrences s sub lo hi limit = ((List.range' lo (hi + 1 - lo)).foldl (occStep s sub hi limit) (#[], lo)).1.toList := by
  unfold Builtin.Str.occurrences
  simp only [Std.Legacy.Range.forIn_eq_forIn_range', Std.Legacy.Range.size]
  rw [show (hi + 1 - lo + 1 - 1) / 1 = hi + 1 - lo by simp]
  rw [occ_forIn]
  rfl
theorem occ_found (s sub : Str) (hi : Nat) : ∀ (L : List Nat) (st : Array Nat × Nat), 0 < st.1.size → (L.foldl (occStep s sub hi 1) st) = st
  | [], st, _ => rfl
  | x :: L, st, h => by
    rw [List.foldl_cons]
    have e : occStep s sub hi 1 st x = st := by
      unfold occStep
      rw [if_neg]
      intro q
      simp only [Bool.and_eq_true, decide_eq_true_eq] at q
      omega
    rw [e]
    exact occ_found s sub hi L st h
theorem occ_empty (s sub : Str) (hi : Nat) : ∀ (L : List Nat) (f : Nat), (∀ x ∈ L, f ≤ x) → ((L.foldl (occStep s sub hi 1) (#[], f)).1.toList.isEmpty = !(L.any fun i => decide (i + sub.length ≤ hi) && Builtin.Str.subAt s sub i))
  | [], f, _ => rfl
  | x :: L, f, h => by
    rw [List.foldl_cons, List.any_cons]
    by_cases c : (decide (x + sub.length ≤ hi) && Builtin.Str.subAt s sub x) = true
    · have e : occStep s sub hi 1 (#[], f) x = (#[x], x + sub.length) := by
        unfold occStep
        rw [Bool.and_eq_true] at c
        rw [if_pos (by simp [h x List.mem_cons_self, c.1, c.2])]
        rfl
      rw [e, occ_found _ _ _ _ _ (by simp), c]
      rfl
    · have e : occStep s sub hi 1 (#[], f) x = (#[], f) := by
        unfold occStep
        rw [if_neg]
        intro q
        rw [Bool.and_eq_true, Bool.and_eq_true] at q
        exact c (by rw [q.1.2, q.2]; rfl)
      rw [e, occ_empty s sub hi L f fun y hy => h y (List.mem_cons_of_mem _ hy)]
      have c' : (decide (x + sub.length ≤ hi) && Builtin.Str.subAt s sub x) = false := by simpa using c
      rw [c', Bool.false_or]
theorem one_in (s : Str) (c : Nat) : (!(Builtin.Str.occurrences s ⟨#[c]⟩ 0 s.length 1).isEmpty) = s.cps.toList.contains c := by
  rw [occ_foldl, occ_empty _ _ _ _ _ (fun x hx => Nat.zero_le _), Bool.not_not]
  rw [Bool.eq_iff_iff, List.any_eq_true]
  simp only [List.mem_range', Bool.and_eq_true, decide_eq_true_eq, List.contains_iff_mem]
  constructor
  · rintro ⟨i, hi, h1, h2⟩
    have h1 : i + 1 ≤ s.cps.size := h1
    have h2 : (s.cps.extract i (i + 1) == #[c]) = true := h2
    have h3 := eq_of_beq h2
    have h4 : s.cps.toList[i]? = some c := by
      have := congrArg (fun a => a[0]?) h3
      simpa [Array.getElem?_extract, h1, show i < s.cps.size by omega] using this
    exact List.mem_of_getElem? h4
  · intro hm
    obtain ⟨i, hi, e⟩ := List.getElem_of_mem hm
    have hi' : i < s.cps.size := by simpa using hi
    refine ⟨i, ⟨i, by show i < s.cps.size + 1 - 0; omega, by simp⟩, by show i + 1 ≤ s.cps.size; omega, ?_⟩
    show (s.cps.extract i (i + 1) == #[c]) = true
    have : s.cps.extract i (i + 1) = #[c] := by
      apply Array.ext
      · simp; omega
      · intro j h1 h2
        simp at h2
        subst h2
        simp at e ⊢
        exact e
    rw [this]
    simp
end L2
set_option Elab.async false
set_option linter.all false
namespace L2
open PySem
noncomputable def smallB (c : Nat) : Bool := decide (97 ≤ c) && decide (c ≤ 122)
theorem letters_in (c : Nat) : (!(Builtin.Str.occurrences (Str.ofString "abcdefghijklmnopqrstuvwxyz") ⟨#[c]⟩ 0 (Str.ofString "abcdefghijklmnopqrstuvwxyz").length 1).isEmpty) = smallB c := by
  rw [one_in, show (Str.ofString "abcdefghijklmnopqrstuvwxyz").cps.toList = List.range' 97 26 by decide +kernel]
  rw [Bool.eq_iff_iff]
  simp only [List.contains_iff_mem, List.mem_range', smallB, Bool.and_eq_true, decide_eq_true_eq]
  constructor
  · rintro ⟨i, h, rfl⟩; omega
  · intro h; exact ⟨c - 97, by omega, by omega⟩
end L2
namespace L2
open PySem
theorem lt_a (c : Nat) : decide ([c] < (Str.ofString "a").cps.toList) = decide (c < 97) := by
  rw [show (Str.ofString "a").cps.toList = [97] by decide +kernel, Bool.eq_iff_iff]
  simp [List.cons_lt_cons_iff]
theorem lt_z (c : Nat) : decide ((Str.ofString "z").cps.toList < [c]) = decide (122 < c) := by
  rw [show (Str.ofString "z").cps.toList = [122] by decide +kernel, Bool.eq_iff_iff]
  simp [List.cons_lt_cons_iff]
theorem small_rd {c : Nat} {Q : Bool → Prop} (q : Q (smallB c)) : if decide (c < 97) = false then Q (!decide (122 < c)) else Q false := by
  unfold smallB at q
  by_cases h : c < 97
  · rw [decide_eq_true h, if_neg (by decide)]
    rw [decide_eq_false (show ¬ 97 ≤ c by omega), Bool.false_and] at q
    exact q
  · rw [decide_eq_false h, if_pos rfl]
    rw [decide_eq_true (show 97 ≤ c by omega), Bool.true_and] at q
    by_cases h2 : 122 < c
    · rw [decide_eq_true h2]; rw [decide_eq_false (show ¬ c ≤ 122 by omega)] at q; exact q
    · rw [decide_eq_false h2]; rw [decide_eq_true (show c ≤ 122 by omega)] at q; exact q
end L2
namespace L2
open PySem
theorem str_len_append (a b : Str) : (a ++ b).length = a.length + b.length := by
  show (a ++ b).cps.size = a.cps.size + b.cps.size
  exact Array.size_append
end L2
set_option Elab.async false
set_option linter.all false
set_option maxRecDepth 100000
namespace L2
open PySem PySem.Spec PyProof.Rows
theorem comp_map {J : It} {xs : List V} {C : Hp → Prop} (w : Wlk J xs C) {te : TE} {σ0 : St} {Q : VK} {H1 : Hp} {D : Addr} (f : V → V) (hD : H1 D = none) (hC : ∀ H', Same H1 H' → C H') (hn : xs.length ≤ 1000)
    (he : ∀ (x : V) (H2 : Hp) (Q2 : VK), x ∈ xs → Same H1 H2 → Q2 (f x) H2 → te (σ0.set 0 (some x)) H2 Q2)
    (hd : ∀ H2, Same H1 H2 → H2 D = some (.lst (xs.map f)) → Q (.ref D) H2) : CompG J σ0 (gName 0) tYes te Q H1 D := by
  refine comp_g w (fun i ys H => ys = (xs.take i).map f ∧ i ≤ xs.length ∧ Same H1 H ∧ H D = some (.lst ys)) ⟨by simp, Nat.zero_le _, Same.upd0 hD, upd_same⟩ (fun i ys H h => hC _ h.2.2.1) ?_ ?_
  · rintro i x ys H hi hx ⟨rfl, hle, sm, hd⟩
    simp only [gName, tYes, if_true]
    refine he x H _ (List.mem_of_getElem? hx) sm ⟨hd, by simp; exact small1000 (by omega), ?_, hi, ?_, upd_same⟩
    · rw [List.take_add_one, hx]; simp
    · exact fun b o e => by rw [upd_ne (ne_of_none e hD)]; exact sm b o e
  · rintro ys H ⟨rfl, _, sm, hd'⟩
    rw [List.take_length] at hd'
    exact hd H sm hd'
end L2
namespace L2
open PySem
theorem hu100 {A : Around} {k : Nat} (hr : Room k A) : A.units + 100 < cLine := by have := hr.un; omega
end L2
set_option Elab.async false
set_option linter.all false
set_option maxRecDepth 100000
namespace HT
open PySem PyProof.Rows
section
variable {prog : Program} {w : World} {A : Around} {E : Value → Shared → Prop} {s : Shared}
end
end HT
namespace L2
open PySem PySem.Spec PyProof.Rows
section
variable {X : Cx} {a b o e l : Expr} {es : List Expr} {ta tb to : TE} {t : TA} {pos : Pos} {tg : Expr}
noncomputable def CDivW (i j : Int) : Prop := 0 < j ∧ j < 18446744073709551616
theorem op_fdivW : OpR X (binaryOp .FloorDiv) (rI CDivW fun i j => .int (i / j)) := opI fun i j _ _ _ _ _ hc q => by
  have h1 : (0 : Int) < j := hc.1
  have h2 : j < 18446744073709551616 := hc.2
  refine floordiv_int (by omega) (by rw [Int.fdiv_eq_ediv_of_nonneg i (by omega)]; exact q) (.inl (PyProof.noPylong_of_log2 ?_))
  have h3 : j.natAbs < 2 ^ 64 := by omega
  exact Nat.lt_trans ((Nat.log2_lt (by omega)).mpr h3) (by decide)
noncomputable abbrev RMS := Str → List V → Hp → VK → Prop
noncomputable def MtS (X : Cx) (id : String) (r : RMS) : Prop := MtR X id fun x vs H Q => ∃ p, x = .str p ∧ r p vs H Q
noncomputable def tMS (r : RMS) (to : TE) (t : TA) : TE := fun σ H Q => to σ H fun x H1 => ∃ p, x = .str p ∧ t σ H1 fun vs H2 => r p vs H2 Q
variable {name : Str} {id : String} {r : RMS} {apos cpos : Pos}
theorem pe_mS (slot : Slot "str" name id) (hty : typeOf (.builtin id) = pure (.type "method_descriptor")) (hm : MtS X id r) (ho : PE X o to) (ha : PA X (e :: es) t)
    (hbase : attributeBase o name X.env (eval o X.env) = eval o X.env := by rfl)
    (hfew : ((backTo cpos (starEach (e :: es) X.env)).all (fun x => !x.1) && (backToKw cpos (keywordEach [] X.env)).all (fun x => x.1.isSome)
      && decide ((e :: es).length + ([] : List Keyword).length + (if ([] : List Keyword).isEmpty then 0 else 1) < 30)) = true := by rfl)
    (hline : (apos.endLine == cpos.line) = true := by rfl) (hs : starEach (e :: es) X.env = (false, eval e X.env) :: starEach es X.env := by rfl) (hplain : (backTo cpos (starEach es X.env)).any (·.1) = false := by rfl) :
    PE X (.Call (.Attribute o name apos) (e :: es) [] cpos) (tMS r to t) := by
  intro pins s σ H Q I h
  refine wpAny_Call_method_late hbase hfew hline rfl (thn (ho pins s σ H _ I h) fun v s1 zr4568 => ?_)
  obtain ⟨x, H1, I1, r1, p, ex, q1⟩ := zr4568
  subst ex
  obtain ⟨h1, h2⟩ := tyV_is I1 r1 (show tyV X.K "str" (.str p) H1 from rfl)
  refine ⟨"str", id, PySem.F.plainAttrs_str, slot, hty, h1, h2, ?_⟩
  have hA := ha cpos pins s1 σ H1 _ I1 q1
  rw [hs] at hA ⊢
  refine Calls.callWith_builtin (by show (false || (backTo cpos (starEach es X.env)).any (·.1)) = false; rw [hplain] <;> rfl) (Calls.evalArgs_plain ?_)
  refine thn hA fun us s2 zr4575 => ?_
  obtain ⟨vs, H2, I2, rr, q2⟩ := zr4575
  exact hm pins s2 σ H2 (.str p) vs v us Q I2 r1 rr ⟨p, rfl, q2⟩
theorem strsAre_of {ns : List Str} : ∀ {us : List Value}, Vals (ns.map V.str) us → StrsAre us ns := by
  induction ns with
  | nil => intro us h; cases h; exact .nil
  | cons n ns ih =>
    intro us h
    cases h with
    | cons r1 r2 =>
      obtain ⟨t, rfl⟩ := r1
      exact .cons _ _ (ih r2)
noncomputable def rmJoin : RMS := fun z vs H Q => ∃ p, vs = [.ref p] ∧ ∃ ys : List Str, H p = some (.lst (ys.map V.str)) ∧ (ys.map (·.length)).sum + ys.length * z.length ≤ 16777216 ∧ Q (.str (Txt.join z ys)) H
theorem ms_join : MtS X "str.join" rmJoin := by
  intro pins s σ H x vs v us Q I rx rv h
  obtain ⟨z, rfl, p, rfl, ys, hp, hok, q⟩ := h
  obtain ⟨t, rfl⟩ := rx
  obtain ⟨u, rfl, ru⟩ := vals1 rv
  cases ru
  obtain ⟨its, r, pl, hz⟩ := I.list (SqL.of hp)
  exact join_list pl.isList (ys := ys) (by simpa using strsAre_of r) hok fun t' k => ⟨.str _, H, I.tok k, ⟨t', rfl⟩, q⟩
noncomputable def rmIndex : RMS := fun z vs H Q => ∃ y, vs = [.str y] ∧ ∃ i rest, Builtin.Str.occurrences z y 0 z.length 1 = i :: rest ∧ Q (.int (i : Nat)) H
theorem ms_index : MtS X "str.index" rmIndex := by
  intro pins s σ H x vs v us Q I rx rv h
  obtain ⟨z, rfl, y, rfl, i, rest, ho, q⟩ := h
  obtain ⟨t, rfl⟩ := rx
  obtain ⟨u, rfl, ru⟩ := vals1 rv
  obtain ⟨t', rfl⟩ := ru
  exact SC.index ho ⟨.int i, H, I.tok _, ⟨_, rfl⟩, q⟩
end
end L2
set_option Elab.async false
set_option linter.all false
set_option maxRecDepth 100000
namespace L2
open PySem PySem.Spec PyProof.Rows
theorem str_ext {a b : Str} (h : a.cps.toList = b.cps.toList) : a = b := by
  cases a; cases b; congr 1; exact Array.ext' h
theorem append_cps (a b : Str) : (a ++ b).cps.toList = a.cps.toList ++ b.cps.toList := by
  show (a.cps ++ b.cps).toList = _
  simp
theorem filterMap_range' (l : List Nat) (s : Nat) : ∀ n, s + n ≤ l.length → ((List.range n).map fun k => s + k).filterMap (fun i => l[i]?) = (l.drop s).take n
  | 0, _ => by simp
  | n + 1, h => by
    rw [List.range_succ, List.map_append, List.filterMap_append, filterMap_range' l s n (by omega), List.take_add_one]
    have e : l[s + n]? = some (l[s + n]'(by omega)) := by simp
    simp [e, List.getElem?_drop]
theorem sl_idx (lo hi : Option Int) (n : Nat) : Builtin.Str.strSliceIndices lo hi 1 n = (List.range (HT.sIx n n hi - HT.sIx n 0 lo)).map fun k => HT.sIx n 0 lo + k := by
  have clip : ∀ (v : Int) (d : Nat), (if (1 : Int) > 0 then max 0 (min (if v < 0 then v + (n : Int) else v) (n : Int)) else max (-1) (min (if v < 0 then v + (n : Int) else v) ((n : Int) - 1))) = ((HT.sIx n d (some v) : Nat) : Int) := fun v d => by
    rw [if_pos (by decide)]
    show max 0 (min (if v < 0 then v + (n : Int) else v) (n : Int)) = (((if v < 0 then (v + (n : Int)).toNat else min v.toNat n) : Nat) : Int)
    split <;> rw [Int.max_def, Int.min_def] <;> split <;> split <;> omega
  have base : ∀ (a b : Nat), sliceRange (a : Int) (b : Int) 1 = (List.range (b - a)).map fun k => a + k := fun a b => by
    unfold sliceRange
    simp only [show (1 : Int) > 0 by decide, if_true, Int.one_mul]
    have e : (if (a : Int) < (b : Int) then ((b : Int) - (a : Int) + 1 - 1) / 1 else 0).toNat = b - a := by
      split
      · rw [Int.ediv_one]; omega
      · show (0 : Int).toNat = b - a
        rw [Int.toNat_zero]; omega
    rw [e]
    refine List.map_congr_left fun k _ => ?_
    omega
  unfold Builtin.Str.strSliceIndices
  cases lo with
  | none => cases hi with
    | none => exact base 0 n
    | some v => simp only []; rw [clip v n]; exact base 0 _
  | some u => cases hi with
    | none => simp only []; rw [clip u 0]; exact base _ n
    | some v => simp only []; rw [clip u 0, clip v n]; exact base _ _
theorem slice_cps (x : Str) (lo hi : Option Int) : (Txt.slice x lo hi).cps.toList = (x.cps.toList.drop (HT.sIx x.length 0 lo)).take (HT.sIx x.length x.length hi - HT.sIx x.length 0 lo) := by
  have h1 := HT.sIx_le x.length x.length (Nat.le_refl _) hi
  have h0 := HT.sIx_le x.length 0 (Nat.zero_le _) lo
  have hl : x.cps.toList.length = x.length := by show x.cps.toList.length = x.cps.size; simp
  unfold Txt.slice
  rw [sl_idx]
  split
  · rename_i h
    simp only [beq_self_eq_true, Bool.true_and, List.length_map, List.length_range, beq_iff_eq] at h
    have e0 : HT.sIx x.length 0 lo = 0 := by omega
    rw [h, e0, List.drop_zero, ← hl, List.take_length]
  · show ((List.map _ _).filterMap (fun i => x.cps[i]?)).toArray.toList = _
    rw [List.toList_toArray]
    rw [← filterMap_range' _ _ _ (by omega)]
    refine congrArg (fun f => List.filterMap f _) (funext fun i => ?_)
    simp
theorem join_cps (ys : List Str) : (Txt.join (Str.ofString "") ys).cps.toList = ys.flatMap fun y => y.cps.toList := by
  have key : ∀ (l : List Str) (acc : Array Nat), (l.foldl (fun acc p => acc ++ (Str.ofString "").cps ++ p.cps) acc).toList = acc.toList ++ l.flatMap fun y => y.cps.toList := by
    intro l
    induction l with
    | nil => intro acc; simp
    | cons a l ih =>
      intro acc
      rw [List.foldl_cons, ih]
      have e : (Str.ofString "").cps = #[] := by decide +kernel
      simp [e]
  show ((ys.drop 1).foldl _ (ys.headD Str.empty).cps).toList = _
  rw [key]
  cases ys with
  | nil => simp; decide +kernel
  | cons a l => simp
structure IsNm (w : Str) : Prop where
  pos : 1 ≤ w.length
  le : w.length ≤ 8
  small : ∀ c ∈ w.cps.toList, smallB c = true
theorem len_cps (x : Str) : x.cps.toList.length = x.length := by show x.cps.toList.length = x.cps.size; simp
theorem IsNm.cons {w : Str} (h : IsNm w) : ∃ c cs, w.cps.toList = c :: cs ∧ smallB c = true ∧ (∀ x ∈ cs, smallB x = true) ∧ cs.length ≤ 7 := by
  have hl := len_cps w
  cases e : w.cps.toList with
  | nil => rw [e] at hl; have := h.pos; simp at hl; omega
  | cons c cs =>
    rw [e] at hl
    have := h.le
    exact ⟨c, cs, rfl, h.small c (by rw [e]; simp), fun x hx => h.small x (by rw [e]; simp [hx]), by simp at hl; omega⟩
theorem IsNm.of {w : Str} {c : Nat} {cs : List Nat} (e : w.cps.toList = c :: cs) (hc : smallB c = true) (hcs : ∀ x ∈ cs, smallB x = true) (hl : cs.length ≤ 7) : IsNm w := by
  have h := len_cps w
  rw [e] at h
  simp at h
  refine ⟨by omega, by omega, fun x hx => ?_⟩
  rw [e] at hx
  rcases List.mem_cons.mp hx with rfl | q
  · exact hc
  · exact hcs x q
theorem letters_at {r : Int} (h0 : 0 ≤ r) (h1 : r < 26) : atI (Str.ofString "abcdefghijklmnopqrstuvwxyz").cps.toList r = some (97 + r.toNat) := by
  obtain ⟨n, rfl⟩ := Int.eq_ofNat_of_zero_le h0
  rw [show (Str.ofString "abcdefghijklmnopqrstuvwxyz").cps.toList = List.range' 97 26 by decide +kernel]
  refine atI_nat ?_
  rw [List.getElem?_range' (by omega)]
  simp
theorem letters_len : (Str.ofString "abcdefghijklmnopqrstuvwxyz").length ≤ sizeLine := by decide +kernel
theorem letters_index {c : Nat} (h : smallB c = true) : Builtin.Str.occurrences (Str.ofString "abcdefghijklmnopqrstuvwxyz") ⟨#[c]⟩ 0 (Str.ofString "abcdefghijklmnopqrstuvwxyz").length 1 = (c - 97) :: [] := by
  have key : ∀ i : Fin 26, Builtin.Str.occurrences (Str.ofString "abcdefghijklmnopqrstuvwxyz") ⟨#[97 + i.1]⟩ 0 (Str.ofString "abcdefghijklmnopqrstuvwxyz").length 1 = [i.1] := by decide +kernel
  simp only [smallB, Bool.and_eq_true, decide_eq_true_eq] at h
  have := key ⟨c - 97, by omega⟩
  simp only [show 97 + (c - 97) = c by omega] at this
  exact this
noncomputable def nxtC (c : Nat) : Nat := 97 + (c - 97 + 1) % 26
noncomputable def nxtL : List Nat → List Nat
  | [] => []
  | c :: cs => nxtC c :: cs
noncomputable def nxtW (w : Str) : Str := ⟨(nxtL w.cps.toList).toArray⟩
noncomputable def nxtN : Nat → Str → Str
  | 0, w => w
  | n + 1, w => nxtN n (nxtW w)
theorem small_nxtC (c : Nat) : smallB (nxtC c) = true := by
  have := Nat.mod_lt (c - 97 + 1) (show 0 < 26 by decide)
  unfold smallB nxtC
  rw [Bool.and_eq_true, decide_eq_true_eq, decide_eq_true_eq]
  exact ⟨by omega, by omega⟩
theorem nxtW_nm {w : Str} (h : IsNm w) : IsNm (nxtW w) := by
  obtain ⟨c, cs, e, hc, hcs, hl⟩ := h.cons
  exact .of (c := nxtC c) (cs := cs) (by simp [nxtW, e, nxtL]) (small_nxtC c) hcs hl
theorem nxtN_cps {c : Nat} {cs : List Nat} : ∀ (n : Nat) {w : Str}, w.cps.toList = c :: cs → smallB c = true → (nxtN n w).cps.toList = (97 + (c - 97 + n) % 26) :: cs := by
  intro n
  induction n generalizing c with
  | zero =>
    intro w e hc
    simp only [smallB, Bool.and_eq_true, decide_eq_true_eq] at hc
    rw [nxtN, e]
    congr 1
    omega
  | succ n ih =>
    intro w e hc
    rw [nxtN, ih (c := nxtC c) (by simp [nxtW, e, nxtL]) (small_nxtC c)]
    congr 1
    simp only [nxtC]
    omega
theorem nodup_le {α : Type} [BEq α] [LawfulBEq α] : ∀ {xs ys : List α}, xs.Nodup → (∀ x ∈ xs, x ∈ ys) → xs.length ≤ ys.length
  | [], _, _, _ => by simp
  | x :: xs, ys, hn, h => by
    have hn' := List.nodup_cons.mp hn
    have hx := h x (by simp)
    have := nodup_le (xs := xs) (ys := ys.erase x) hn'.2 fun z hz => by
      have hne : z ≠ x := fun e => hn'.1 (e ▸ hz)
      exact (List.mem_erase_of_ne hne).mpr (h z (by simp [hz]))
    rw [List.length_erase_of_mem hx] at this
    have := List.length_pos_of_mem hx
    simp
    omega
theorem free_word {w : Str} (h : IsNm w) {F : List Str} (hF : F.length < 26) : ∃ n, nxtN n w ∉ F := by
  obtain ⟨c, cs, e, hc, hcs, hl⟩ := h.cons
  have hinj : ∀ i j, i < 26 → j < 26 → nxtN i w = nxtN j w → i = j := fun i j hi hj q => by
    have q2 := congrArg (fun z : Str => z.cps.toList) q
    simp only [nxtN_cps _ e hc] at q2
    have q3 := (List.cons.inj q2).1
    omega
  refine Classical.byContradiction fun hno => ?_
  have hall : ∀ n, nxtN n w ∈ F := fun n => Classical.byContradiction fun q => hno ⟨n, q⟩
  have hnd : ((List.range 26).map fun n => nxtN n w).Nodup := by
    refine List.pairwise_map.mpr (List.Pairwise.imp_of_mem (fun {i j} hi hj q e => q (hinj i j (List.mem_range.mp hi) (List.mem_range.mp hj) e)) (List.nodup_range (n := 26)))
  have := nodup_le (ys := F) hnd fun x hx => by
    obtain ⟨n, _, rfl⟩ := List.mem_map.mp hx
    exact hall n
  simp at this
  omega
theorem eqV_str (a b : Str) : eqV (.str a) (.str b) = decide (a = b) := by
  show (a == b) = decide (a = b)
  rw [Bool.eq_iff_iff]
  simp
theorem inV_strs (x : Str) (ys : List Str) : inV (.str x) (ys.map V.str) = decide (x ∈ ys) := by
  rw [Bool.eq_iff_iff]
  simp only [inV, List.any_map, List.any_eq_true, Function.comp, eqV_str, decide_eq_true_eq]
  constructor
  · rintro ⟨y, hy, rfl⟩; exact hy
  · exact fun h => ⟨x, h, rfl⟩
theorem flat_strs (ys : List Str) : (ys.map V.str).all flatV = true := by
  rw [List.all_eq_true]
  intro x hx
  obtain ⟨y, _, rfl⟩ := List.mem_map.mp hx
  rfl
noncomputable def marks4 : List Str := ["in", "from", "to", "end"]
structure NamesOk (ws : List Str) : Prop where
  nm : ∀ w ∈ ws, IsNm w
  nd : ws.Nodup
  nomark : ∀ w ∈ ws, w ∉ marks4
theorem NamesOk.nil : NamesOk [] := ⟨by simp, by simp, by simp⟩
theorem NamesOk.snoc {ws : List Str} {w : Str} (h : NamesOk ws) (hw : IsNm w) (hn : w ∉ ws) (hm : w ∉ marks4) : NamesOk (ws ++ [w]) := by
  refine ⟨fun x hx => ?_, ?_, fun x hx => ?_⟩
  · rcases List.mem_append.mp hx with q | q
    · exact h.nm x q
    · rw [List.mem_singleton.mp q]; exact hw
  · rw [List.nodup_append]
    refine ⟨h.nd, by simp, fun a ha b hb => ?_⟩
    rw [List.mem_singleton.mp hb]
    rintro rfl
    exact hn ha
  · rcases List.mem_append.mp hx with q | q
    · exact h.nomark x q
    · rw [List.mem_singleton.mp q]; exact hm
theorem atI_zero {α : Type} (x : α) (xs : List α) : atI (x :: xs) 0 = some x := atI_nat (j := 0) rfl
theorem edit_nm {z : Str} {r : Int} {c : Nat} (hz : IsNm z) (hc : smallB c = true) (r0 : 0 ≤ r) (r1 : r < z.length) : IsNm (Txt.slice z none (some r) ++ (Str.mk #[c]) ++ Txt.slice z (some (r + 1)) none) := by
  obtain ⟨n, rfl⟩ := Int.eq_ofNat_of_zero_le r0
  have hn : n < z.length := by omega
  have hl := len_cps z
  have e : (Txt.slice z none (some (n : Int)) ++ (Str.mk #[c]) ++ Txt.slice z (some ((n : Int) + 1)) none).cps.toList = z.cps.toList.take n ++ [c] ++ z.cps.toList.drop (n + 1) := by
    rw [append_cps, append_cps, slice_cps, slice_cps, HT.sIx_none, HT.sIx_nat, HT.sIx_none, show ((n : Int) + 1) = ((n + 1 : Nat) : Int) by omega, HT.sIx_nat, Nat.min_eq_left (by omega), Nat.min_eq_left (by omega)]
    rw [List.drop_zero, Nat.sub_zero, List.take_of_length_le (i := z.length - (n + 1)) (by rw [List.length_drop, hl]; omega)]
  have h8 := hz.le
  have hlen : (Txt.slice z none (some (n : Int)) ++ (Str.mk #[c]) ++ Txt.slice z (some ((n : Int) + 1)) none).length = z.length := by
    rw [← len_cps, e]
    simp only [List.length_append, List.length_take, List.length_drop, List.length_cons, List.length_nil, hl]
    omega
  refine ⟨by omega, by omega, fun x hx => ?_⟩
  rw [e] at hx
  rcases List.mem_append.mp hx with q | q
  · rcases List.mem_append.mp q with q | q
    · exact hz.small x (List.mem_of_mem_take q)
    · rw [List.mem_singleton.mp q]; exact hc
  · exact hz.small x (List.mem_of_mem_drop q)
theorem join_signs (cs : List Nat) : (Txt.join (Str.ofString "") (cs.map fun c => Str.mk #[c])).cps.toList = cs := by
  rw [join_cps]
  induction cs with
  | nil => rfl
  | cons c cs ih => simp [ih]
theorem sum_ones (cs : List Nat) : ((cs.map fun c => Str.mk #[c]).map fun x => x.length).sum = cs.length := by
  induction cs with
  | nil => rfl
  | cons c cs ih =>
    rw [List.map_cons, List.map_cons, List.sum_cons, ih]
    show 1 + cs.length = cs.length + 1
    omega
end L2
set_option Elab.async false
set_option linter.all false
set_option maxRecDepth 100000
namespace L2
open PySem PySem.Spec PyProof.Rows
section
variable {X : Cx}
noncomputable def rSetLs : TSet := fun o i v H Q => ∃ p, o = .ref p ∧ ∃ k, i = .int k ∧ ∃ xs, H p = some (.lst xs) ∧ 0 ≤ k ∧ k < xs.length ∧ Q (upd H p (.lst (xs.set k.toNat v)))
theorem set_L : PSet X rSetLs := fun pins s σ H o i v ov iv u Q I ro ri rv zq26 => by obtain ⟨p, e1, k, e2, xs, h, k0, k1, q⟩ := zq26; exact (set_list pins s σ H o i v ov iv u Q I ro ri rv ⟨p, xs, k, k.toNat, e1, e2, h, by unfold ixN; rw [if_pos k0, if_pos (by omega)], q⟩)
end
theorem cut_map {α : Type} (f : α → V) (xs : List α) (n : Nat) : cutV (xs.map f) none (some (n : Int)) = (xs.take n).map f := by
  unfold cutV
  rw [HT.sIx_none, HT.sIx_nat, List.drop_zero, Nat.sub_zero, List.length_map, List.map_take]
  by_cases h : n ≤ xs.length
  · rw [Nat.min_eq_left h]
  · rw [Nat.min_eq_right (by omega), List.take_of_length_le (by simp), List.take_of_length_le (by simp; omega)]
theorem atI0 {α : Type} (x : α) (xs : List α) : atI (x :: xs) 0 = some x := atI_nat (j := 0) rfl
theorem atI1 {α : Type} (x y : α) (xs : List α) : atI (x :: y :: xs) 1 = some y := atI_nat (j := 1) rfl
theorem atI2 {α : Type} (x y z : α) (xs : List α) : atI (x :: y :: z :: xs) 2 = some z := atI_nat (j := 2) rfl
theorem atI3 {α : Type} (x y z a : α) (xs : List α) : atI (x :: y :: z :: a :: xs) 3 = some a := atI_nat (j := 3) rfl
theorem atI4 {α : Type} (x y z a b : α) (xs : List α) : atI (x :: y :: z :: a :: b :: xs) 4 = some b := atI_nat (j := 4) rfl
theorem ofS_inj {a b : String} : (Str.ofString a = Str.ofString b) = (a = b) := by
  refine propext ⟨fun h => ?_, fun h => by rw [h]⟩
  rw [Str.ofString_eq_toList, Str.ofString_eq_toList] at h
  have h1 := congrArg (fun s : Str => s.cps.toList) h
  simp only [List.toList_toArray] at h1
  have key : ∀ (l1 l2 : List Char), l1.map Char.toNat = l2.map Char.toNat → l1 = l2 := by
    intro l1
    induction l1 with
    | nil => intro l2 h; cases l2 with
      | nil => rfl
      | cons a b => cases h
    | cons a b ih => intro l2 h; cases l2 with
      | nil => cases h
      | cons c d =>
        rw [List.map_cons, List.map_cons, List.cons.injEq] at h
        rw [ih d h.2, Char.toNat_inj.mp h.1]
  exact String.toList_injective (key _ _ h1)
section
variable {X : Cx} {pos : Pos}
theorem PG.imp {tg : Expr} {g g' : TG} (h : PG X tg g) (i : ∀ v σ H Q, g' v σ H Q → g v σ H Q) : PG X tg g' := fun pins s σ H v u Q I r q => h pins s σ H v u Q I r (i _ _ _ _ q)
noncomputable def gTupT (n : Nat) (t : TGs) : TG := fun v σ H Q => ∃ a, v = .ref a ∧ ∃ xs, H a = some (.tup xs) ∧ xs.length = n ∧ t xs σ H Q
theorem pg_tupT {es : List Expr} {k : Nat} {t : TGs} {n : Nat} (hc : X.calm = true) (h : PGs X es t)
    (hn : (assignEach es X.env).length = n := by rfl) (hst : (assignEach es X.env).findIdx? (·.1) = none := by rfl) : PG X (.Tuple es k pos) (gTupT n t) :=
  (pg_tup hc h hn hst).imp fun _ _ _ _ zq27 => by obtain ⟨a, e, xs, h, hl, q⟩ := zq27; exact (⟨a, xs, e, .of h, hl, q⟩)
end
theorem IsNm.lay {w : Str} (h : IsNm w) : PyData.canLay0 (.str w) = true := by
  show (w.cps.all (· < 0x110000)) = true
  rw [Array.all_eq_true_iff_forall_mem]
  intro c hc
  have := h.small c (by simpa using hc)
  simp only [smallB, Bool.and_eq_true, decide_eq_true_eq] at this
  exact decide_eq_true (by omega)
end L2
set_option Elab.async false
set_option linter.all false
set_option maxRecDepth 100000
namespace L2
open PySem PySem.Spec PyProof.Rows
section
variable {X : Cx}
noncomputable def rDictD : List V → Hp → VK → Prop := fun xs H Q => ∃ p, xs = [.ref p] ∧ ∃ kvs, H p = some (.dK kvs) ∧ ∀ q, H q = none → Q (.ref q) (upd H q (.dK kvs))
theorem call_dictD : CallR X (.type "dict") rDictD := by
  intro pins s σ H xs us Q I r h
  obtain ⟨p, rfl, kvs, hp, q⟩ := h
  obtain ⟨u, rfl, ru⟩ := vals1 r
  cases ru
  obtain ⟨z, hd, vs, rel, dd⟩ := dk_of I.hok hp
  refine PySem.kt_call_dict hd dd (by rw [← rel.length]; exact z) fun h' dd' sb => ?_
  have hold : ∀ b o, s.heap.get? b = some o → h'.get? b = some o := fun b o e => sb.extBut b o (Nat.ne_of_lt (Heap.lt_size e)) (Heap.get?_push_of_some _ e)
  exact ⟨.ref s.heap.objs.size, _, I.laid (a := s.heap.objs.size) (o := .dK kvs) (t' := s.toks) hold (Nat.le_refl _) ⟨z, beq_eq_false_iff_ne.mpr (Ne.symm (Nat.ne_of_lt I.big)), vs, rel, dd'⟩, rfl, q _ (I.hok.fresh (Nat.le_refl _))⟩
noncomputable def plainV : V → Bool
  | .non => true
  | .bl _ => true
  | .int _ => true
  | .str _ => true
  | .ref _ => true
  | _ => false
theorem eqAt_same {A : Around} {s : Shared} {v : V} {a b : Value} (hv : plainV v = true) (ra : RelV v a) (rb : RelV v b) : SeqAt.EqAt A s a b true := by
  cases v with
  | non => cases ra; cases rb; exact SeqAt.EqAt.same _
  | bl b => cases ra; cases rb; exact SeqAt.EqAt.same _
  | int i =>
    obtain ⟨t, rfl⟩ := ra
    obtain ⟨t', rfl⟩ := rb
    have h := SeqAt.EqAt.int_int (A := A) (s := s) i t i t'
    simpa using h
  | str i =>
    obtain ⟨t, rfl⟩ := ra
    obtain ⟨t', rfl⟩ := rb
    have h := SeqAt.EqAt.str_str (A := A) (s := s) i t i t'
    simpa using h
  | ref a => cases ra; cases rb; exact SeqAt.EqAt.same _
  | _ => exact absurd (show false = true from hv) Bool.false_ne_true
theorem valV_mem {κ : Type} [DecidableEq κ] : ∀ {kvs : List (κ × V)} {k : κ} {v : V}, (kvs.map (·.1)).Nodup → (k, v) ∈ kvs → valV kvs k = some v
  | (a, b) :: r, k, v, hn, hm => by
    rw [List.map_cons, List.nodup_cons] at hn
    rcases List.mem_cons.mp hm with e | e
    · cases e
      exact valV_pos rfl
    · have hne : ¬ a = k := fun z => hn.1 (by subst z; exact List.mem_map.mpr ⟨(a, v), e, rfl⟩)
      rw [valV_neg hne]
      exact valV_mem hn.2 e
theorem hits_same {A : Around} {s : Shared} {kvs : List (Key × V)} {vb : List (Key × Value)} (rb : KV kvs vb) : ∀ {l : List (Key × V)} {la : List (Key × Value)}, KV l la → (∀ p ∈ l, valV kvs p.1 = some p.2 ∧ plainV p.2 = true) → PySem.W.KeqHits A s vb la true := by
  intro l la r
  unfold KV at r
  induction r with
  | nil => intro _; exact .nil
  | @cons p q ps qs h _ ih =>
    intro hall
    obtain ⟨k, v⟩ := p
    obtain ⟨k', u⟩ := q
    obtain ⟨e, ru⟩ := h
    dsimp only at e ru
    subst e
    obtain ⟨h1, h2⟩ := hall (k, v) (by simp)
    dsimp only at h1 h2
    obtain ⟨y, hy, ry⟩ := RelO.some_of (v := v) (o := valueAt vb k) (by rw [← h1]; exact rb.val k)
    exact PySem.W.KeqHits.hit (e := true) (b := true) hy (eqAt_same h2 ru ry) (ih fun p hp => hall p (by simp [hp]))
noncomputable def rEqDD : R2 := fun x y H Q => ∃ a, x = .ref a ∧ ∃ b, y = .ref b ∧ ∃ kvs, H a = some (.dK kvs) ∧ H b = some (.dK kvs) ∧ (∀ p ∈ kvs, plainV p.2 = true) ∧ Q (.bl true) H
noncomputable def rNeDD : R2 := fun x y H Q => ∃ a, x = .ref a ∧ ∃ b, y = .ref b ∧ ∃ kvs, H a = some (.dK kvs) ∧ H b = some (.dK kvs) ∧ (∀ p ∈ kvs, plainV p.2 = true) ∧ Q (.bl false) H
theorem op_eqDD (hu : X.A.units < cLine) : OpR X (compareOp .Eq) rEqDD := by
  intro pins s σ H x y v u Q I rx ry h
  obtain ⟨a, rfl, b, rfl, kvs, ha, hb, hp, q⟩ := h
  cases rx
  cases ry
  obtain ⟨z, hd, vs, rel, dd⟩ := dk_of I.hok ha
  obtain ⟨z2, hd2, vs2, rel2, dd2⟩ := dk_of I.hok hb
  have hn : (vs.map (·.1)).Nodup := let ⟨_, _, _, _, _, _, _, _, hn⟩ := dd; hn
  rw [← rel.keys] at hn
  refine PySem.W.keq_eq (r := true) hd hd2 dd dd2 hu (fun _ => hits_same rel2 rel fun p hp' => ⟨valV_mem hn hp', hp p hp'⟩) ?_
  rw [← rel.length, ← rel2.length, beq_self_eq_true]
  exact ⟨.bl true, H, I, rfl, q⟩
theorem op_neDD (hu : X.A.units < cLine) : OpR X (compareOp .NotEq) rNeDD := by
  intro pins s σ H x y v u Q I rx ry h
  obtain ⟨a, rfl, b, rfl, kvs, ha, hb, hp, q⟩ := h
  cases rx
  cases ry
  obtain ⟨z, hd, vs, rel, dd⟩ := dk_of I.hok ha
  obtain ⟨z2, hd2, vs2, rel2, dd2⟩ := dk_of I.hok hb
  have hn : (vs.map (·.1)).Nodup := let ⟨_, _, _, _, _, _, _, _, hn⟩ := dd; hn
  rw [← rel.keys] at hn
  refine PySem.W.keq_ne (r := true) hd hd2 dd dd2 hu (fun _ => hits_same rel2 rel fun p hp' => ⟨valV_mem hn hp', hp p hp'⟩) ?_
  rw [← rel.length, ← rel2.length, beq_self_eq_true]
  exact ⟨.bl false, H, I, rfl, q⟩
noncomputable def rSorted : List V → Hp → VK → Prop := fun xs H Q => ∃ p, xs = [.ref p] ∧ ∃ ns : List Int, H p = some (.lst (ns.map V.int)) ∧ ns.length < 64 ∧ ∀ (q : Addr) (ms : List Int), H q = none → ms.Perm ns → ms.Pairwise (· ≤ ·) → Q (.ref q) (upd H q (.lst (ms.map V.int)))
theorem call_sorted : CallR X (.builtin "sorted") rSorted := by
  intro pins s σ H xs us Q I r h
  obtain ⟨p, rfl, ns, hp, hl, q⟩ := h
  obtain ⟨u, rfl, ru⟩ := vals1 r
  cases ru
  obtain ⟨its, rv, pl, hz⟩ := I.list (SqL.of hp)
  have hlen := rv.length
  rw [List.length_map] at hlen
  refine sorted_ints pl.isList (intsAre_of rv) (by omega) fun out ms hms hperm hpw => ?_
  obtain ⟨e, he⟩ := sortedAll_at s.heap its out
  have hout : out = out.toList.toArray := by simp
  refine ⟨.ref (s.heap.objs.size + 1), _, I.laid (a := s.heap.objs.size + 1) (o := .lst (ms.map V.int)) (t' := s.toks) (fun b o e => sortedAll_old e) (Nat.le_succ _) ⟨?_, out.toList, e, vals_ints hms, ?_⟩, rfl, q _ ms (I.hok.fresh (Nat.le_succ _)) hperm hpw⟩
  · rw [List.length_map, hperm.length_eq]; exact Nat.le_of_lt (small1000 (by omega))
  · rw [he]
noncomputable def rmPopAt : RM := fun p vs H Q => ∃ i, vs = [.int i] ∧ ∃ xs, H p = some (.lst xs) ∧ 0 ≤ i ∧ i < xs.length ∧ xs.length ≤ 1000 ∧ ∀ y, xs[i.toNat]? = some y → Q y (upd H p (.lst (xs.eraseIdx i.toNat)))
theorem ml_popAt : MtL X "list.pop" rmPopAt := fun pins s σ H x vs v us Q I rx rv ⟨p, e, i, e2, xs, h, i0, i1, hl, q⟩ => by
  have hlt : i.toNat < xs.length := by omega
  exact mt_popAt pins s σ H x vs v us Q I rx rv ⟨p, xs, i, i.toNat, xs[i.toNat], e, e2, h, by omega, by omega, seqIndex_of i0 i1, by simp [hlt], q _ (by simp [hlt])⟩
end
end L2
namespace L2
open PySem PySem.Spec PyProof.Rows
noncomputable def clsAt (mg : Str → Option Value) (x : Str) : Addr := match mg x with | some (.ref a) => a | _ => 0
theorem clsAt_of {mg : Str → Option Value} {x : Str} {C : Addr} (h : mg x = some (.ref C)) : clsAt mg x = C := by unfold clsAt; rw [h]
section
variable {P : Program} {w : World} {K : PySem.W.Frag} {mg : Str → Option Value} {base : Heap} {R : Addr → Prop}
end
section
variable {X : Cx} {o e value : Expr} {es : List Expr} {f m x : Str} {p pos pos' apos : Pos} {ta tv : TE} {t : TA} {C : Addr} {k : Nat} {ps : List Str} {sp : Sp}
end
section
variable {X : Cx} {l tg : Expr} {tl : TE} {K : PySem.W.Frag}
theorem pi_LK (hK : X.K = K) (hl : PE X l tl) : PI X tg l (iL K tl) := by subst hK; exact pi_L hl
theorem pi_TK (hK : X.K = K) (hl : PE X l tl) : PI X tg l (iT K tl) := by subst hK; exact pi_T hl
noncomputable def rAllL : List V → Hp → VK → Prop := fun xs H Q => ∃ p, xs = [.ref p] ∧ ∃ bs : List Bool, H p = some (.lst (bs.map V.bl)) ∧ Q (.bl (bs.all id)) H
noncomputable def rAnyL : List V → Hp → VK → Prop := fun xs H Q => ∃ p, xs = [.ref p] ∧ ∃ bs : List Bool, H p = some (.lst (bs.map V.bl)) ∧ Q (.bl (bs.any id)) H
theorem call_allL (hc : X.calm = true) : CallR X (.builtin "all") rAllL := (call_all_l hc).imp fun _ _ _ zq28 => by obtain ⟨p, e, bs, h, q⟩ := zq28; exact (⟨p, bs, e, .of h, q⟩)
theorem call_anyL (hc : X.calm = true) : CallR X (.builtin "any") rAnyL := (call_any_l hc).imp fun _ _ _ zq29 => by obtain ⟨p, e, bs, h, q⟩ := zq29; exact (⟨p, bs, e, .of h, q⟩)
end
theorem comp_mapS {J : It} {xs : List V} {C : Hp → Prop} (w : Wlk J xs C) {te : TE} {σ0 : St} {Q : VK} {H1 : Hp} {D : Addr} (f : V → V) (hD : H1 D = none) (hC : ∀ H', Same H1 H' → C H') (hn : xs.length ≤ 10000)
    (he : ∀ (x : V) (H2 : Hp) (Q2 : VK), x ∈ xs → Same H1 H2 → (∀ H3, Same H2 H3 → Q2 (f x) H3) → te (σ0.set 0 (some x)) H2 Q2)
    (hd : ∀ H2, Same H1 H2 → H2 D = some (.lst (xs.map f)) → Q (.ref D) H2) : CompG J σ0 (gName 0) tYes te Q H1 D := by
  refine comp_g w (fun i ys H => ys = (xs.take i).map f ∧ i ≤ xs.length ∧ Same H1 H ∧ H D = some (.lst ys)) ⟨by simp, Nat.zero_le _, Same.upd0 hD, upd_same⟩ (fun i ys H h => hC _ h.2.2.1) ?_ ?_
  · rintro i x ys H hi hx ⟨rfl, hle, sm, hd⟩
    simp only [gName, tYes, if_true]
    refine he x H _ (List.mem_of_getElem? hx) sm fun H4 s4 => ⟨s4 _ _ hd, by simp; exact Nat.lt_of_le_of_lt (Nat.le_trans (Nat.min_le_right _ _) hn) (by decide), ?_, hi, ?_, upd_same⟩
    · rw [List.take_add_one, hx]; simp
    · exact fun b o e => by rw [upd_ne (ne_of_none e hD)]; exact s4 _ _ (sm b o e)
  · rintro ys H ⟨rfl, _, sm, hd'⟩
    rw [List.take_length] at hd'
    exact hd H sm hd'
theorem eqV_int (a b : Int) : eqV (.int a) (.int b) = decide (a = b) := by
  show (a == b) = decide (a = b)
  rw [Bool.eq_iff_iff]
  simp
theorem inV_ints (x : Int) (ys : List Int) : inV (.int x) (ys.map V.int) = decide (x ∈ ys) := by
  rw [Bool.eq_iff_iff]
  simp only [inV, List.any_map, List.any_eq_true, Function.comp, eqV_int, decide_eq_true_eq]
  constructor
  · rintro ⟨y, hy, rfl⟩; exact hy
  · exact fun h => ⟨x, h, rfl⟩
theorem flat_ints (ys : List Int) : (ys.map V.int).all flatV = true := by
  rw [List.all_eq_true]
  intro x hx
  obtain ⟨y, _, rfl⟩ := List.mem_map.mp hx
  rfl
theorem perm_erase {α : Type} : ∀ {l : List α} {n : Nat} (h : n < l.length), (l[n] :: l.eraseIdx n).Perm l
  | a :: l, 0, h => by simp
  | a :: l, n + 1, h => by
    have h' : n < l.length := by simpa using h
    have := perm_erase h'
    simp only [List.getElem_cons_succ, List.eraseIdx_cons_succ]
    exact (List.Perm.swap _ _ _).trans (List.Perm.cons a this)
end L2
set_option Elab.async false
set_option linter.all false
set_option maxRecDepth 100000
namespace L2
open PySem PySem.Spec PyProof.Rows
section
variable {X : Cx}
variable {o i : Expr} {td ty : TE}
theorem pc_dinS (hu : X.A.units + 1 < cLine) (hi : PE X i ty) (ho : PE X o td) : PC X .In i o (tDI ty td) := by
  intro pins s σ H Q I h
  refine thn (hi pins s σ H _ I h) fun iv s1 ⟨y, H1, I1, ry, q1⟩ => thn (ho pins s1 σ H1 _ I1 q1) fun u s2 zr5067 => ?_
  obtain ⟨x, H2, I2, rx, a, ex, k, ey, kvs, hd, q2⟩ := zr5067
  subst ex
  subst ey
  obtain rfl : u = Value.ref a := rx
  have g : DGet H2 a (kV k) (valV kvs k) := .inl ⟨kvs, k, .inl hd, rfl, rfl⟩
  exact d_in hu I2 g ry fun s3 I3 => ⟨.bl (valV kvs k).isSome, H2, I3, rfl, q2⟩
end
end L2
set_option Elab.async false
set_option linter.all false
set_option maxRecDepth 100000
namespace L2
open PySem PySem.Spec PyProof.Rows
theorem Inv.retag {X : Cx} {pins : List (Addr × Obj)} {σ : St} {H : Hp} {s : Shared} {a : Addr} {u0 o' : HO} (I : Inv X pins σ H s) (ha : H a = some u0) (n1 : ∀ y, u0 ≠ .own y) (n2 : ∀ xs, u0 ≠ .tup xs) (n3 : ∀ ob u, X.H₀ a ≠ some (.frz ob u)) (n4 : ∀ ps, u0 ≠ .tbl ps)
    (ok : ObjOk X.prog X.w H s.heap a o') : Inv X pins σ (upd H a o') s := by
  have hne : ∀ b, H b = none → b ≠ a := fun b n z => by subst z; rw [ha] at n; cases n
  have ho : ∀ b y, H b = some (.own y) → upd H a o' b = some (.own y) := fun b y e => by
    rw [upd_ne (fun z => by subst z; rw [ha] at e; exact n1 y (Option.some.inj e))]; exact e
  have ht : ∀ b xs, H b = some (.tup xs) → upd H a o' b = some (.tup xs) := fun b xs e => by
    rw [upd_ne (fun z => by subst z; rw [ha] at e; exact n2 xs (Option.some.inj e))]; exact e
  refine ⟨I.ok, I.os, I.bare, ⟨I.base.keep, I.base.slot, fun b o q n hx => ?_, I.base.there, fun b xs q => ht b xs (I.base.tups b xs q), fun b ob u q => ?_, fun b ps q => ?_⟩, I.loc, I.cell, ?_, fun x c e => ?_, fun p hp => ?_, fun b u e => ?_, I.len⟩
  · have := I.base.free b o q n hx
    rw [upd_ne (hne b this)]; exact this
  · rw [upd_ne (fun z => by subst z; exact n3 ob u q)]; exact I.base.frzs b ob u q
  · obtain ⟨more, e⟩ := I.base.tbls b ps q
    exact ⟨more, by rw [upd_ne (fun z => by subst z; rw [ha] at e; exact n4 _ (Option.some.inj e))]; exact e⟩
  · rw [upd_ne (hne _ I.free)]; exact I.free
  · have := I.freeC x c e
    rw [upd_ne (hne c this)]; exact this
  · obtain ⟨p1, p2, p3⟩ := I.pin p hp
    exact ⟨p1, by rw [upd_ne (hne _ p2)]; exact p2, p3⟩
  · by_cases hb : b = a
    · subst hb
      rw [upd_same] at e
      cases e
      exact ok.stay (fun _ _ _ q => q) (fun c q => ho c _ q) ht
    · rw [upd_ne hb] at e
      exact (I.hok b u e).stay (fun _ _ _ q => q) (fun c q => ho c _ q) ht
noncomputable def Itd (a : Addr) (o : Obj) (kvs : List (Key × V)) : It :=
  ⟨fun i H => H a = some (.frz o (.dK kvs)) ∧ i < kvs.length, fun i H x H' => H' = H ∧ ∃ k v, kvs[i]? = some (k, v) ∧ x = kV k, fun i H => H a = some (.frz o (.dK kvs)) ∧ kvs.length ≤ i⟩
theorem KV.get {kvs : List (Key × V)} {vs : List (Key × Value)} (r : KV kvs vs) : ∀ {i : Nat} {k : Key} {v : V}, kvs[i]? = some (k, v) → ∃ u, vs[i]? = some (k, u) ∧ RelV v u := by
  unfold KV at r
  induction r with
  | nil => intro i k v h; simp at h
  | @cons p q ps qs h _ ih =>
    intro i k v e
    cases i with
    | zero =>
      simp at e
      subst e
      obtain ⟨k', u⟩ := q
      obtain ⟨h1, h2⟩ := h
      dsimp only at h1 h2
      subst h1
      exact ⟨u, by simp, h2⟩
    | succ i =>
      simp at e
      obtain ⟨u, h1, h2⟩ := ih e
      exact ⟨u, by simpa using h1, h2⟩
theorem rel_key {P : Program} {w : World} {k : Key} {key : Value} (h : (mixKind P w).is k key = true) : RelV (kV k) key := by
  rcases keyIs_shape (k := k) (v := key) h with ⟨i, t, rfl, rfl⟩ | ⟨x, t, rfl, rfl⟩
  · exact ⟨t, rfl⟩
  · exact ⟨t, rfl⟩
theorem turn_dk {P : Program} {w : World} {K : PySem.W.Frag} {tg : Expr} (a it : Addr) (o : Obj) (kvs : List (Key × V)) (ep : Nat) (hep : ∃ es, o.data = .dict es ep) : Turn P w K tg (Itd a o kvs) [it] it (fun i h => h.IsKeyIter it a i kvs.length ep) where
  mem := by simp
  obj := fun i h st b hb => by
    have e : b = it := by simpa using hb
    subst e
    obtain ⟨ob, e, c, d⟩ := st
    exact ⟨ob, e, fun v z => by rw [d] at z; cases z⟩
  keep := fun i h h' st k => st.at fun ob e => k it (by simp) ob e
  item := by
    intro X hP hw hK hc i pins s σ H E I hf st hg
    subst hP hw hK
    obtain ⟨ha, hi⟩ := hg
    obtain ⟨ho, hz, hd, vs, rel, od, es, ep', hod, hr⟩ := (show s.heap.get? a = some o ∧ ObjOk X.prog X.w H s.heap a (.dK kvs) from I.hok a _ ha)
    rw [ho] at hod
    cases hod
    obtain ⟨es0, he0⟩ := hep
    have eep : ep' = ep := by
      have := hr.2.1
      rw [he0] at this
      cases this
      rfl
    subst eep
    have hlen := rel.length
    obtain ⟨k, v, hkv⟩ : ∃ k v, kvs[i]? = some (k, v) := ⟨kvs[i].1, kvs[i].2, by simp [hi]⟩
    obtain ⟨u, hu, ru⟩ := rel.get hkv
    obtain ⟨f0, f1, f2, f3, f4, f5⟩ := hf it (by simp)
    have st' : s.heap.IsKeyIter it a i vs.length ep' := by rw [← hlen]; exact st
    refine wpAny_pyNext_dict_item (knd := mixKind X.prog X.w) (v := u) st' ⟨o, es, ho, hr⟩ hu fun key h' hk st2 sb => ?_
    have I1 : Inv X pins σ H { s with heap := h' } := I.turned (t' := s.toks) (fun b ob hb e => (sb.2 b hb).trans e) f0 f1 f3 f4 f5
    rw [← hlen] at st2
    obtain ⟨ob, e, c, d⟩ := id st2
    exact ⟨key, rfl, go_of (s := { s with heap := h' }) e c d (by decide) ⟨kV k, H, I1, rel_key hk, ⟨rfl, k, v, hkv, rfl⟩, st2, fun b hb => (hf b hb).1⟩⟩
  done := by
    intro X hP hw hK hc i pins s σ H E I hf st hg
    subst hP hw hK
    obtain ⟨ha, hi⟩ := hg
    obtain ⟨ho, hz, hd, vs, rel, od, es, ep', hod, hr⟩ := (show s.heap.get? a = some o ∧ ObjOk X.prog X.w H s.heap a (.dK kvs) from I.hok a _ ha)
    rw [ho] at hod
    cases hod
    obtain ⟨es0, he0⟩ := hep
    have eep : ep' = ep := by
      have := hr.2.1
      rw [he0] at this
      cases this
      rfl
    subst eep
    have hlen := rel.length
    obtain ⟨f0, f1, f2, f3, f4, f5⟩ := hf it (by simp)
    have st' : s.heap.IsKeyIter it a i vs.length ep' := by rw [← hlen]; exact st
    exact wpAny_pyNext_dict_end (knd := mixKind X.prog X.w) (I.ok.hd hc) st' ⟨o, es, ho, hr⟩ (List.getElem?_eq_none_iff.mpr (by omega)) fun h' eb => ⟨rfl, I.turned (t' := s.toks) (fun b ob hb e => eb b ob hb e) f0 f1 f3 f4 f5⟩
  self := fun _ _ _ _ _ st h => wpAny_pyIter_keyiter st h
theorem wlk_dk {a : Addr} {o : Obj} {kvs : List (Key × V)} : Wlk (Itd a o kvs) (kvs.map fun x => kV x.1) (fun H => H a = some (.frz o (.dK kvs))) :=
  ⟨fun i H h hi => ⟨h, by simpa using hi⟩, fun i H x H' h _ y => by
    obtain ⟨e, k, v, hk, rfl⟩ := y
    exact ⟨by rw [List.getElem?_map, hk]; rfl, e⟩, fun i H h hi => ⟨h, by simpa using hi⟩⟩
noncomputable def iD (tl : TE) : TI := fun σ H R => tl σ H fun x H1 => ∃ a, x = .ref a ∧ ∃ kvs, H1 a = some (.dK kvs) ∧ ∀ o, R (Itd a o kvs) (upd H1 a (.frz o (.dK kvs)))
theorem pi_D {X : Cx} {l tg : Expr} {tl : TE} (hl : PE X l tl) : PI X tg l (iD tl) := by
  intro pins s σ H R I h
  refine thn (hl pins s σ H _ I h) fun v s1 zr5188 => ?_
  obtain ⟨x, H1, I1, r1, a, e, kvs, hq, q⟩ := zr5188
  subst e
  cases r1
  obtain ⟨hz, hd, vs, rel, od, es, ep, hod, hr⟩ := dk_of I1.hok hq
  refine wpAny_pyIter_dict (knd := mixKind X.prog X.w) hd ⟨od, es, hod, hr⟩ ?_
  have hn : ∀ ob u, X.H₀ a ≠ some (.frz ob u) := fun ob u e => by have := I1.base.frzs a ob u e; rw [hq] at this; cases this
  have I2 : Inv X pins σ H1 { s1 with heap := s1.heap.push { cls := .type "dict_keyiterator", data := .fields #[.ref a, .int 0 0, .int vs.length 0, .int ep 0] } } := I1.kept (t' := s1.toks) fun b o e => Heap.get?_push_of_some _ e
  have ok2 := I2.hok a _ hq
  have I3 := I2.retag (o' := .frz od (.dK kvs)) hq (by intro y z; cases z) (by intro y z; cases z) hn (by intro y z; cases z) ⟨Heap.get?_push_of_some _ hod, ok2⟩
  have hlen := rel.length
  refine ⟨s1.heap.objs.size, [s1.heap.objs.size], _, _, _, rfl, I3, turn_dk a _ od kvs ep ⟨es, hr.2.1⟩, ⟨_, Heap.get?_push_size _ rfl, rfl, by rw [hlen]; rfl⟩, fun b hb => ?_, q od⟩
  have e : b = s1.heap.objs.size := by simpa using hb
  subst e
  have hfr : H1 s1.heap.objs.size = none := I1.hok.fresh (Nat.le_refl _)
  obtain ⟨f0, f1, f2, f3, f4, f5⟩ := I1.fpOk (Nat.le_refl _) hfr
  exact ⟨by rw [upd_ne (fun z => by rw [z, hq] at hfr; cases hfr)]; exact hfr, f1, f2, f3, f4, f5⟩
noncomputable def thawE (a : Addr) (kvs : List (Key × V)) (D : Ends) : Ends where
  nx := fun σ H => (∃ o, H a = some (.frz o (.dK kvs))) ∧ D.nx σ (upd H a (.dK kvs))
  rt := fun v H => (∃ o, H a = some (.frz o (.dK kvs))) ∧ D.rt v (upd H a (.dK kvs))
  bk := fun σ H => (∃ o, H a = some (.frz o (.dK kvs))) ∧ D.bk σ (upd H a (.dK kvs))
  ct := fun σ H => (∃ o, H a = some (.frz o (.dK kvs))) ∧ D.ct σ (upd H a (.dK kvs))
noncomputable def tThaw (t : TS) : TS := fun D σ H => ∃ a kvs, H a = some (.dK kvs) ∧ t (thawE a kvs D) σ H
theorem ps_thaw {X : Cx} {st : Stmt} {t : TS} (h : PS X st t) : PS X st (tThaw t) := by
  intro pins s σ H D I ⟨a, kvs, ha, ht⟩
  have hn : ∀ ob u, X.H₀ a ≠ some (.frz ob u) := fun ob u e => by have := I.base.frzs a ob u e; rw [ha] at this; cases this
  have thaw : ∀ {σ' H' s'}, Inv X pins σ' H' s' → (∃ o, H' a = some (.frz o (.dK kvs))) → Inv X pins σ' (upd H' a (.dK kvs)) s' := fun {σ' H' s'} I' ⟨o, e⟩ =>
    I'.retag e (by intro y z; cases z) (by intro y z; cases z) hn (by intro y z; cases z) (show s'.heap.get? a = some o ∧ ObjOk X.prog X.w H' s'.heap a (.dK kvs) from I'.hok a _ e).2
  refine thn (h pins s σ H _ I ht) fun f s' hq => ?_
  cases f with
  | next => obtain ⟨σ', H', I', e, q⟩ := hq; exact ⟨σ', _, thaw I' e, q⟩
  | brk => obtain ⟨σ', H', I', e, q⟩ := hq; exact ⟨σ', _, thaw I' e, q⟩
  | cont => obtain ⟨σ', H', I', e, q⟩ := hq; exact ⟨σ', _, thaw I' e, q⟩
  | ret u => obtain ⟨v, σ', H', I', r, e, q⟩ := hq; exact ⟨v, σ', _, thaw I' e, r, q⟩
end L2
set_option Elab.async false
set_option linter.all false
set_option maxRecDepth 100000
set_option maxHeartbeats 4000000
namespace PySem
open PyProof.Rows
section
variable {prog : Program} {w : World} {A : Around} {E : Value → Shared → Prop} {s : Shared}
end
end PySem
namespace L2
open PySem PySem.Spec PyProof.Rows
section
variable {X : Cx}
variable {o e : Expr} {es : List Expr} {m : Str} {pos apos : Pos} {ta : TE} {t : TA} {k : Nat} {ps : List Str} {Cs : List (Addr × Sp)}
end
end L2
set_option Elab.async false
set_option linter.all false
set_option maxRecDepth 100000
namespace PySem
open Sem (wp)
section
variable {prog : Program} {w : World} {A : Around} {E : Value → Shared → Prop} {s : Shared}
theorem nx_tup {J T : Addr} {i : Nat} {vs : Array Value} {v : Value} {Q : Value → Shared → Prop} (a : s.heap.IsTupleIter J T i) (b : s.heap.IsTuple T vs) (c : vs[i]? = some v)
    (k : ∀ g, g.IsTupleIter J T (i + 1) → Heap.SameBut J s.heap g → Q v { s with heap := g }) : wpAny (model prog w) A (Builtin.SmallTypes.nextOf (.ref J)) Q E s := by
  obtain ⟨oJ, a1, a2, a3⟩ := id a
  obtain ⟨oT, b1, _, bn, b2⟩ := b
  unfold Builtin.SmallTypes.nextOf
  refine wpAny_bind (wpAny_callSpecial?_slot (name := Str.ofString "__next__") a.typeIs F.slot_tuple_iterator_next (wpAny_call_entry F.slot_tuple_iterator_next a.typeIs F.entry_tuple_iterator_next ?_ (F.args_tuple_iterator_next_1 _)))
  change wpAny _ _ (field (.ref J) 0 >>= _) _ _ s
  refine wpAny_bind (wpAny_field a1 a3 (x := .ref T) rfl ?_)
  change wpAny _ _ (if (Value.ref T == Value.none) = true then _ else _) _ _ s
  rw [if_neg (show ¬ ((Value.ref T == Value.none) = true) from Bool.false_ne_true)]
  change wpAny _ _ (field (.ref J) 1 >>= _) _ _ s
  refine wpAny_bind (wpAny_field a1 a3 (x := .int i 0) rfl ?_)
  change wpAny _ _ (seqItems? (.ref T) >>= _) _ _ s
  refine wpAny_bind (wpAny_seqItems b1 b2 ?_)
  simp only [Int.toNat_natCast, c]
  refine wpAny_bind (wpAny_setField a1 a3 (by simp) (wpAny_pure ⟨v, rfl, wpAny_pure (k _ ⟨_, Heap.get?_update_self _ a1 (Obj.isFreed_of_fields (Obj.data_mapFields a3 _)), (Obj.cls_mapFields ..).trans a2, ?_⟩ (Heap.SameBut.update ..))⟩))
  rw [Obj.data_mapFields a3]; simp [rawInt]
theorem nx_tup_end {J T : Addr} {i : Nat} {vs : Array Value} {Q : Value → Shared → Prop} (hd : A.handled = none) (a : s.heap.IsTupleIter J T i) (b : s.heap.IsTuple T vs) (c : vs[i]? = none)
    (k : ∀ g e, Heap.ExtBut J s.heap g → (∃ o, g.get? e = some o ∧ o.cls = .type "StopIteration") → E (.ref e) { s with heap := g }) : wpAny (model prog w) A (Builtin.SmallTypes.nextOf (.ref J)) Q E s := by
  obtain ⟨oJ, a1, a2, a3⟩ := id a
  obtain ⟨oT, b1, _, bn, b2⟩ := b
  unfold Builtin.SmallTypes.nextOf
  refine wpAny_bind (wpAny_callSpecial?_slot (name := Str.ofString "__next__") a.typeIs F.slot_tuple_iterator_next (wpAny_call_entry F.slot_tuple_iterator_next a.typeIs F.entry_tuple_iterator_next ?_ (F.args_tuple_iterator_next_1 _)))
  change wpAny _ _ (field (.ref J) 0 >>= _) _ _ s
  refine wpAny_bind (wpAny_field a1 a3 (x := .ref T) rfl ?_)
  change wpAny _ _ (if (Value.ref T == Value.none) = true then _ else _) _ _ s
  rw [if_neg (show ¬ ((Value.ref T == Value.none) = true) from Bool.false_ne_true)]
  change wpAny _ _ (field (.ref J) 1 >>= _) _ _ s
  refine wpAny_bind (wpAny_field a1 a3 (x := .int i 0) rfl ?_)
  change wpAny _ _ (seqItems? (.ref T) >>= _) _ _ s
  refine wpAny_bind (wpAny_seqItems b1 b2 ?_)
  simp only [Int.toNat_natCast, c]
  refine wpAny_bind (wpAny_rule (wpAny_bind (wpAny_setField a1 a3 (by simp) ?_)))
  change wpAny _ _ (newExc (.type "StopIteration") [] >>= _) _ _ _
  refine wpAny_bind (by
    simp only [newExc, newTuple]
    refine wpAny_bind (wpAny_newObj_type ?_ (by size_fits))
    refine wpAny_bind (m := firstArgMember _ _) (wpAny_of_eq (a := Value.none) (by first | rfl | (simp only [firstArgMember]; rfl)) ?_)
    refine wpAny_newObj_type ?_ (by size_fits)
    (simp only [raiseNew]; refine wpAny_bind (wpAny_handled ?_))
    first | rw [show A.in1.handled = none from hd] | rw [hd]
    refine wpAny_bind (wpAny_pure (wpAny_throw (k _ _ (((Heap.SameBut.update ..).extBut.push _).push _) ⟨_, Heap.get?_push_size _ rfl, rfl⟩))))
structure ZTup (g : Heap) (z P O I J S T : Addr) (i : Nat) (f0 f1 : Value) : Prop where
  zz : g.get? z = some { cls := .type "zip", dict := none, data := .fields #[f0, f1, .bool false, .ref P, .ref O], slots := #[] }
  pp : IsPair g P (.ref I) (.ref J)
  oo : ∃ a b, IsPair g O a b
  ii : g.IsTupleIter I S i
  jj : g.IsTupleIter J T i
theorem ZTup.keep {g g' : Heap} {z P O I J S T : Addr} {i : Nat} {f0 f1 : Value} (h : ZTup g z P O I J S T i f0 f1) (k : ∀ b ∈ [z, P, O, I, J], ∀ o, g.get? b = some o → g'.get? b = some o) : ZTup g' z P O I J S T i f0 f1 := by
  obtain ⟨a, b, oo⟩ := h.oo
  exact ⟨k z (by simp) _ h.zz, k P (by simp) _ h.pp, ⟨a, b, k O (by simp) _ oo⟩, h.ii.at fun o e => k I (by simp) o e, h.jj.at fun o e => k J (by simp) o e⟩
noncomputable def ZOut (g : Heap) (n0 : Nat) (xs ys : Array Value) (ts : List Addr) : Prop := ts.Nodup ∧ ∀ (j : Nat) (t : Addr), ts[j]? = some t → ∃ x y, xs[j]? = some x ∧ ys[j]? = some y ∧ IsPair g t x y ∧ n0 ≤ t
theorem ZOut.keep {g g' : Heap} {n0 : Nat} {xs ys : Array Value} {ts : List Addr} (h : ZOut g n0 xs ys ts) (k : ∀ b o, n0 ≤ b → g.get? b = some o → g'.get? b = some o) : ZOut g' n0 xs ys ts := ⟨h.1, fun j t e => by
  obtain ⟨x, y, h1, h2, h3, h4⟩ := h.2 j t e
  exact ⟨x, y, h1, h2, k _ _ h4 h3, h4⟩⟩
end
end PySem
set_option Elab.async false
set_option linter.all false
set_option maxRecDepth 100000
namespace L2
open PySem PySem.Spec PyProof.Rows
section
variable {X : Cx} {pins : List (Addr × Obj)} {σ : St} {H : Hp} {s : Shared}
theorem Inv.turnedNew {t' : Nat} {g : Heap} {fp : List Addr} {a : Addr} {u0 : HO} (I : Inv X pins σ H s) (k : ∀ b o, b ∉ fp → s.heap.get? b = some o → g.get? b = some o) (hf : ∀ b ∈ fp, FpOk X pins H b) (ha : s.heap.objs.size ≤ a)
    (ok : ObjOk X.prog X.w (upd H a u0) g a u0) : Inv X pins σ (upd H a u0) { s with heap := g, toks := t' } := by
  have nit : ∀ b u, H b = some u → b ∉ fp := fun b u e z => by rw [(hf b z).1] at e; cases e
  have na : ∀ b o, s.heap.get? b = some o → b ≠ a := fun b o e z => by rw [z] at e; exact absurd (Nat.lt_of_lt_of_le (Heap.lt_size e) ha) (Nat.lt_irrefl _)
  have hn : H a = none := I.hok.fresh ha
  have nH : ∀ b u, H b = some u → b ≠ a := fun b u e z => by rw [z, hn] at e; cases e
  refine I.step (g' := s.gens) (d' := s.drawn) (ch := fp) (fun b hb => ⟨(hf b hb).2.2.2.1, (hf b hb).2.1, (hf b hb).2.2.2.2.1, (hf b hb).2.2.2.2.2⟩) (fun b o _ _ hc e _ => k b o hc e) (fun b o _ _ hc e _ => ⟨o.slots, k b o hc e⟩) (fun b o _ e n => by rw [upd_ne (na b o e)]; exact n)
    (fun b o hc e => ⟨o, k b o hc e⟩) (fun b xs e => by rw [upd_ne (nH b _ e)]; exact e) (fun b o u e => by rw [upd_ne (nH b _ e)]; exact e) (fun b ps e => ⟨#[], by rw [upd_ne (nH b _ e), e]; simp⟩) (fun m hm => ?_) (fun b u e => ?_) I.bare
  · obtain ⟨o, es, ep, ho, r⟩ := hm
    exact ⟨o, es, ep, k _ o (fun z => (hf _ z).2.1 rfl) ho, r⟩
  · by_cases hb : b = a
    · subst hb
      rw [upd_same] at e
      cases e
      exact ok
    · rw [upd_ne hb] at e
      refine (I.hok b u e).stay (fun c v hc q => k c v ?_ q) (fun c q => by rw [upd_ne (nH c _ q)]; exact q) fun c xs q => by rw [upd_ne (nH c _ q)]; exact q
      rcases hc with z | z
      · rw [z]; exact nit b u e
      · exact nit c _ z
end
section
variable {X : Cx} {K : PySem.W.Frag} {e1 e2 : Expr} {ta : TA} {p p2 pos pos2 pos' : Pos} {es : List Expr} {x1 : Nat}
theorem tgOk_tupT2 {i j nt n : Nat} (hi : i < nt) (hj : j < nt) (hij : i ≠ j) : TgOk (gTupT n (gCons (gName i) (gCons (gName j) gNil))) nt := by
  intro x σ0 H Q h q
  obtain ⟨a, e, xs, sq, l, v, r, e2, v', r', e3, e4, q⟩ := q
  refine ⟨a, e, xs, sq, l, v, r, e2, v', r', e3, e4, (Wk.set (h i hi)).trans (Wk.set ?_), q⟩
  rw [List.getElem?_set_ne hij]
  exact h j hj
end
end L2
set_option Elab.async false
set_option linter.all false
set_option maxRecDepth 100000
namespace PyProof.Rows
open PySem PySem.Spec
section
variable {prog : Program} {w : World} {A : Around} {E : Value → Shared → Prop} {s : Shared}
theorem collect_tup {t : Addr} {us : List Value} {Q : List Value → Shared → Prop} (ht : s.heap.IsTuple t us.toArray) (hn : us.length ≤ 1000)
    (k : Q us { s with heap := (s.heap.push (seqObj "list" #[] 0)).update s.heap.objs.size (Obj.mapSeq (· ++ us.toArray)) }) : wpAny (model prog w) A (collect (.ref t)) Q E s := by
  obtain ⟨ot, h1, h2, n, h3⟩ := id ht
  unfold collect
  refine wpAny_bind (wpAny_runValue (codeAny_builtin entry_proto_collect' ?_))
  change wpAny _ _ (do again (.builtin "list.__iadd__" ⟨[← newList [], .ref t], []⟩)) _ _ s
  refine wpAny_bind (wpAny_newList (wpAny_pure ⟨Code.quiet_builtin _ (by decide +kernel), codeAny_builtin entry_list_iadd' ?_⟩))
  change wpAny _ _ (Builtin.List.listExtendWith (.ref s.heap.objs.size) (.ref t) (.ref s.heap.objs.size)) _ _ { s with heap := s.heap.push (seqObj "list" #[] 0) }
  unfold Builtin.List.listExtendWith
  have h1' : (s.heap.push (seqObj "list" #[] 0)).get? t = some ot := Heap.get?_push_of_some _ h1
  refine wpAny_bind (wpAny_typeOf (T := "tuple") ⟨ot, h1', h2⟩ ?_)
  have q1 : (Value.type "tuple" == Value.type "tuple") = true := by rfl
  rw [if_pos (by rw [q1]; simp)]
  refine wpAny_bind (listItems_at h1' h3 (wpAny_bind (listItems_at (xs := #[]) (n := 0) (Heap.get?_push_size _ rfl) rfl ?_)))
  rw [if_neg (by simp)]
  have hz : us.length ≤ sizeLine := Nat.le_trans hn (by decide)
  refine wpAny_bind (listUpdate_at (xs := #[]) (n := 0) (Heap.get?_push_size _ rfl) rfl (wpAny_pure ?_) (Nat.zero_le _) (by show (#[] ++ us.toArray).size ≤ sizeLine + 1; simp only [Array.size_append, List.size_toArray, List.length_nil]; omega))
  refine wpAny_bind (m := load s.heap.objs.size) (wpAny_load (get?_update_seq (Heap.get?_push_size _ rfl) _) ?_)
  change wpAny _ _ (pure ((#[] : Array Value) ++ us.toArray).toList) Q E _
  rw [show ((#[] : Array Value) ++ us.toArray).toList = us by simp]
  exact wpAny_pure k
theorem sorted_intsT {t : Addr} {us : List Value} {ns : List Int} {Q : Value → Shared → Prop} (ht : s.heap.IsTuple t us.toArray) (hi : IntsAre us ns) (hl : us.length < 64)
    (k : ∀ (out : Array Value) (ms : List Int), IntsAre out.toList ms → ms.Perm ns → ms.Pairwise (· ≤ ·) → Q (.ref (s.heap.objs.size + 1)) { s with heap := sortedAll s.heap us out }) :
    wpAny (model prog w) A (call (.builtin "sorted") [.ref t]) Q E s := by
  refine Calls.call_function_entry kind_sorted plain_sorted entry_sorted (args_sorted1 _) ?_
  unfold Builtin.«sorted»
  refine wpAny_bind (m := checkCount "sorted" 1 1 _) (wpAny_pure (wpAny_bind (collect_tup ht (by omega) (wpAny_bind (wpAny_newList ?_)))))
  have n1 : ((s.heap.push (seqObj "list" #[] 0)).update s.heap.objs.size (Obj.mapSeq (· ++ us.toArray))).objs.size = s.heap.objs.size + 1 := by rw [Heap.size_update, size_push']
  have g1 : (((s.heap.push (seqObj "list" #[] 0)).update s.heap.objs.size (Obj.mapSeq (· ++ us.toArray))).push (seqObj "list" us.toArray 0)).get? (s.heap.objs.size + 1) = some (seqObj "list" us.toArray 0) := by rw [← n1]; exact Heap.get?_push_size _ rfl
  change wpAny _ _ _ _ _ { s with heap := ((s.heap.push (seqObj "list" #[] 0)).update s.heap.objs.size (Obj.mapSeq (· ++ us.toArray))).push (seqObj "list" us.toArray 0) }
  rw [n1]
  refine wpAny_bind (wpAny_holding (wpAny_call_entry slot_list_sort ⟨_, g1, rfl⟩ entry_list_sort (list_sort_tree g1 hi hl fun out ms a1 a2 a3 => ⟨_, rfl, wpAny_pure ⟨_, rfl, k out ms a1 a2 a3⟩⟩) (args_list_sort _)))
end
end PyProof.Rows
namespace L2
open PySem PySem.Spec PyProof.Rows
section
variable {X : Cx}
noncomputable def rSortedT : List V → Hp → VK → Prop := fun xs H Q => ∃ p, xs = [.ref p] ∧ ∃ ns : List Int, H p = some (.tup (ns.map V.int)) ∧ ns.length < 64 ∧ ∀ (q : Addr) (ms : List Int), H q = none → ms.Perm ns → ms.Pairwise (· ≤ ·) → Q (.ref q) (upd H q (.lst (ms.map V.int)))
theorem call_sortedT : CallR X (.builtin "sorted") rSortedT := by
  intro pins s σ H xs us Q I r h
  obtain ⟨p, rfl, ns, hp, hl, q⟩ := h
  obtain ⟨u, rfl, ru⟩ := vals1 r
  cases ru
  obtain ⟨its, rv, pl, hz⟩ := I.tuple (SqT.of hp)
  have hlen := rv.length
  rw [List.length_map] at hlen
  refine sorted_intsT (show s.heap.IsTuple p its.toArray from pl) (intsAre_of rv) (by omega) fun out ms hms hperm hpw => ?_
  obtain ⟨e, he⟩ := sortedAll_at s.heap its out
  have hout : out = out.toList.toArray := by simp
  refine ⟨.ref (s.heap.objs.size + 1), _, I.laid (a := s.heap.objs.size + 1) (o := .lst (ms.map V.int)) (t' := s.toks) (fun b o e => sortedAll_old e) (Nat.le_succ _) ⟨?_, out.toList, e, vals_ints hms, by rw [he]⟩, rfl, q _ ms (I.hok.fresh (Nat.le_succ _)) hperm hpw⟩
  rw [List.length_map, hperm.length_eq]; exact Nat.le_of_lt (small1000 (by omega))
noncomputable def sqOf (H : Hp) (p : Addr) (ys : List V) : Prop := H p = some (.lst ys) ∨ H p = some (.tup ys)
noncomputable def rListS : List V → Hp → VK → Prop := fun xs H Q => ∃ p, xs = [.ref p] ∧ ∃ ys, sqOf H p ys ∧ ∀ l, H l = none → Q (.ref l) (upd H l (.lst ys))
theorem call_listS : CallR X (.type "list") rListS := call_list_of.imp fun _ _ _ zq30 => by obtain ⟨p, e, ys, h, q⟩ := zq30; exact (⟨p, ys, e, h.imp .of .of, q⟩)
noncomputable def iS (K : PySem.W.Frag) (tl : TE) : TI := fun σ H R => tl σ H fun x H1 => ∃ a, x = .ref a ∧ ∃ xs, (H1 a = some (.lst xs) ∧ R (Itl K a) H1) ∨ (H1 a = some (.tup xs) ∧ R (Itt K a) H1)
theorem pi_S {K : PySem.W.Frag} {l tg : Expr} {tl : TE} (hK : X.K = K) (hl : PE X l tl) : PI X tg l (iS K tl) := by
  subst hK
  intro pins s σ H R I h
  refine thn (hl pins s σ H _ I h) fun v s1 zr5407 => ?_
  obtain ⟨x, H1, I1, r1, a, e, xs, hq⟩ := zr5407
  subst e
  cases r1
  rcases hq with ⟨hq, q⟩ | ⟨hq, q⟩
  · obtain ⟨its, rv, p, hz⟩ := I1.list (SqL.of hq)
    refine wpAny_pyIter_list p.isList ⟨s1.heap.objs.size, [s1.heap.objs.size], _, _, H1, rfl, I1.kept (t' := s1.toks) fun b o e => Heap.get?_push_of_some _ e, turn_list a _, ⟨_, Heap.get?_push_size _ rfl, rfl, rfl⟩, fun b hb => ?_, q⟩
    rw [List.mem_singleton.mp hb]
    exact I1.fpOk (Nat.le_refl _) (I1.hok.fresh (Nat.le_refl _))
  · obtain ⟨its, rv, p, hz⟩ := I1.tuple (SqT.of hq)
    refine wpAny_pyIter_tuple (show s1.heap.IsTuple a its.toArray from p) ⟨s1.heap.objs.size, [s1.heap.objs.size], _, _, H1, rfl, I1.kept (t' := s1.toks) fun b o e => Heap.get?_push_of_some _ e, turn_tuple a _, ⟨_, Heap.get?_push_size _ rfl, rfl, rfl⟩, fun b hb => ?_, q⟩
    rw [List.mem_singleton.mp hb]
    exact I1.fpOk (Nat.le_refl _) (I1.hok.fresh (Nat.le_refl _))
end
end L2
set_option Elab.async false
set_option linter.all false
set_option maxRecDepth 100000
namespace L2
open PySem PySem.Spec PyProof.Rows
section
variable {X : Cx}
theorem hu102 {A : Around} {k : Nat} (hr : Room k A) : A.units + 102 < cLine := by have := hr.un; omega
theorem lay_ints : ∀ ns : List Int, PyData.canLayAll0 (ns.map PyData.int) = true
  | [] => rfl
  | n :: ns => by
    rw [List.map_cons]
    unfold PyData.canLayAll0
    rw [lay_ints ns]
    rfl
theorem depth_ints : ∀ ns : List Int, PyData.depthAll (ns.map PyData.int) = 0
  | [] => rfl
  | n :: ns => by
    rw [List.map_cons]
    unfold PyData.depthAll
    rw [depth_ints ns]
    rfl
noncomputable def RowsV (H : Hp) (vs : List V) (rows : List (List Int)) : Prop := ∃ as : List (Addr × List Int), vs = as.map (fun x => V.ref x.1) ∧ rows = as.map (·.2) ∧ ∀ x ∈ as, H x.1 = some (.tup (x.2.map V.int))
theorem RowsV.nil {H : Hp} : RowsV H [] [] := ⟨[], rfl, rfl, fun x hx => by simp at hx⟩
theorem RowsV.keep {H H' : Hp} {vs : List V} {rows : List (List Int)} (h : RowsV H vs rows) (k : ∀ a xs, H a = some (.tup xs) → H' a = some (.tup xs)) : RowsV H' vs rows := by
  obtain ⟨as, h1, h2, h3⟩ := h
  exact ⟨as, h1, h2, fun x hx => k _ _ (h3 x hx)⟩
end
end L2
set_option Elab.async false
set_option linter.all false
set_option maxRecDepth 100000
namespace PySem
open Sem (wp)
open AutoSeq1 (wpAny_loadPart')
theorem Draws.tup {prog : Program} {w : World} {A : Around} (hd : A.handled = none) (J T : Addr) (hne : T ≠ J) (vs : Array Value) :
    Draws prog w A J [J, T] vs.size (fun i v => vs[i]? = some v) (fun i h => h.IsTupleIter J T i ∧ h.IsTuple T vs) where
  live := fun _ _ st => let ⟨o, ho, _⟩ := st.1; ⟨o, ho⟩
  frame := fun _ _ _ st hk => ⟨st.1.at fun o e => hk J (by simp) o e, st.2.at fun o e => hk T (by simp) o e⟩
  item := fun i s Q E hi st hQ => nx_tup st.1 st.2 (Array.getElem?_eq_getElem hi) fun g a b => hQ _ g s.toks (Array.getElem?_eq_getElem hi) ⟨a, st.2.at fun o e => (b.2 T hne).trans e⟩ b
  done := fun s Q E st hQ => nx_tup_end hd st.1 st.2 (Array.getElem?_eq_none (Nat.le_refl _)) hQ
section
variable {prog : Program} {w : World} {A : Around} {E : Value → Shared → Prop} {s : Shared}
end
end PySem
namespace L2
open PySem PySem.Spec PyProof.Rows
section
variable {X : Cx} {K : PySem.W.Frag}
end
end L2
set_option Elab.async false
set_option linter.all false
set_option maxRecDepth 100000
namespace PySem
open Sem (wp)
section
variable {M : Model} {A : Around} {E : Value → Shared → Prop} {s : Shared}
end
end PySem
namespace L2
open PySem PySem.Spec PyProof.Rows
section
variable {X : Cx}
end
end L2
set_option Elab.async false
set_option linter.all false
set_option maxRecDepth 100000
namespace PySem.W
open PySem PySem.Calls PyProof.Rows
noncomputable def PermR (n : Nat) (p : Array Nat) : Prop := p.toList.Perm (List.range n)
theorem PermR.lt {n : Nat} {p : Array Nat} (h : PermR n p) (hn : 0 < n) (i : Nat) : p.getD i 0 < n := by
  by_cases hi : i < p.size
  · have e : p.getD i 0 = p[i] := by simp [Array.getD, hi]
    rw [e]
    have : p[i] ∈ p.toList := by simp
    exact List.mem_range.mp (h.mem_iff.mp this)
  · have e : p.getD i 0 = 0 := by simp [Array.getD, hi]
    rw [e]; exact hn
theorem PermR.rev {n : Nat} {p : Array Nat} (h : PermR n p) (i j : Nat) : PermR n (kas_rev p i j) := (Array.perm_iff_toList_perm.mp (mirror_perm p i j _)).trans h
theorem PermR.bub {n : Nat} {p : Array Nat} (h : PermR n p) (i j : Nat) : PermR n (bubble p i j) := (Array.perm_iff_toList_perm.mp (bubble_perm p i j)).trans h
section
variable {n : Nat} (hn : 0 < n)
include hn
end
section
variable {prog : Program} {w : World} {A : Around} {E : Value → Shared → Prop} {s : Shared}
end
end PySem.W
namespace L2
open PySem PySem.Spec PyProof.Rows
noncomputable def Row3 (h : Heap) (a : Addr) : Prop := ∃ o x y z t1 t2 t3 n, h.get? a = some o ∧ o.cls = .type "tuple" ∧ o.data = .seq #[.str x t1, .str y t2, .int z t3] n
theorem Row3.keep {h h' : Heap} {a : Addr} (r : Row3 h a) (k : ∀ b o, h.get? b = some o → h'.get? b = some o) : Row3 h' a := by
  obtain ⟨o, x, y, z, t1, t2, t3, n, e, c, d⟩ := r
  exact ⟨o, x, y, z, t1, t2, t3, n, k _ _ e, c, d⟩
section
variable {X : Cx}
end
end L2
set_option Elab.async false
set_option linter.all false
set_option maxRecDepth 100000
namespace L2
open PySem PySem.Spec PyProof.Rows
section
variable {X : Cx}
noncomputable def AlikeD (K : PySem.W.Frag) (H : Hp) (l kvs : List (Key × V)) : Prop := ∀ p ∈ l, ∃ v, valV kvs p.1 = some v ∧ ∃ d, Rep K H p.2 d ∧ Rep K H v d ∧ d.canLay0 = true ∧ d.depth ≤ 50 ∧ PyData.eqv d d = true
theorem hits_alike {pins : List (Addr × Obj)} {σ : St} {H : Hp} {s : Shared} {A : Around} {kvs : List (Key × V)} {vb : List (Key × Value)} (I : Inv X pins σ H s) (hu : A.units + 50 < cLine) (rb : KV kvs vb) : ∀ {l : List (Key × V)} {la : List (Key × Value)}, KV l la → AlikeD X.K H l kvs → PySem.W.KeqHits A s vb la true := by
  intro l la r
  unfold KV at r
  induction r with
  | nil => intro _; exact .nil
  | @cons p q ps qs h _ ih =>
    intro hall
    obtain ⟨k, v⟩ := p
    obtain ⟨k', u⟩ := q
    obtain ⟨e, ru⟩ := h
    dsimp only at e ru
    subst e
    obtain ⟨v', h1, d, r1, r2, hl, hd, he⟩ := hall (k, v) (by simp)
    dsimp only at h1 r1
    obtain ⟨y, hy, ry⟩ := RelO.some_of (v := v') (o := valueAt vb k) (by rw [← h1]; exact rb.val k)
    obtain ⟨as, g1⟩ := I.reads r1 ru
    obtain ⟨bs, g2⟩ := I.reads r2 ry
    have ea : SeqAt.EqAt A s u y true := by
      have := SeqAt.eqAt_reads d d A s u y as bs g1 g2 hl hl (by rw [Nat.min_self]; omega)
      rwa [he] at this
    exact PySem.W.KeqHits.hit (e := true) (b := true) hy ea (ih fun p hp => hall p (by simp [hp]))
noncomputable def rEqDA (K : PySem.W.Frag) (b : Bool) : R2 := fun x y H Q => ∃ a, x = .ref a ∧ ∃ c, y = .ref c ∧ ∃ l kvs, H a = some (.dK l) ∧ H c = some (.dK kvs) ∧ l.length = kvs.length ∧ AlikeD K H l kvs ∧ Q (.bl b) H
theorem op_neDA (hu : X.A.units + 102 < cLine) : OpR X (compareOp .NotEq) (rEqDA X.K false) := by
  intro pins s σ H x y v u Q I rx ry h
  obtain ⟨a, rfl, b, rfl, l, kvs, ha, hb, hlen, hal, q⟩ := h
  cases rx
  cases ry
  obtain ⟨z, hd, vs, rel, dd⟩ := dk_of I.hok ha
  obtain ⟨z2, hd2, vs2, rel2, dd2⟩ := dk_of I.hok hb
  refine PySem.W.keq_ne (r := true) hd hd2 dd dd2 (by omega) (fun _ => hits_alike I (by show X.A.units + 1 + 50 < cLine; omega) rel2 rel hal) ?_
  rw [← rel.length, ← rel2.length, hlen, beq_self_eq_true]
  exact ⟨.bl false, H, I, rfl, q⟩
noncomputable abbrev L3 := Str × Str × Int
noncomputable def l3V (x : L3) : List V := [.str x.1, .str x.2.1, .int x.2.2]
noncomputable def Rows3 (H : Hp) (vs : List V) (ls : List L3) : Prop := ∃ as : List (Addr × L3), vs = as.map (fun x => V.ref x.1) ∧ ls = as.map (·.2) ∧ ∀ x ∈ as, H x.1 = some (.tup (l3V x.2))
theorem Rows3.nil {H : Hp} : Rows3 H [] [] := ⟨[], rfl, rfl, fun x hx => by simp at hx⟩
theorem Rows3.keep {H H' : Hp} {vs : List V} {ls : List L3} (h : Rows3 H vs ls) (k : ∀ a xs, H a = some (.tup xs) → H' a = some (.tup xs)) : Rows3 H' vs ls := by
  obtain ⟨as, h1, h2, h3⟩ := h
  exact ⟨as, h1, h2, fun x hx => k _ _ (h3 x hx)⟩
noncomputable def tDGF (td ty : TE) : TE := fun σ H Q => td σ H fun x H1 => ty σ H1 fun y H2 => ∃ a, x = .ref a ∧ ∃ k, y = kV k ∧ ∃ o kvs v, H2 a = some (.frz o (.dK kvs)) ∧ valV kvs k = some v ∧ Q v H2
theorem pe_dgF {o i : Expr} {td ty : TE} {pos : Pos} (hu : X.A.units + 1 < cLine) (ho : PE X o td) (hi : PE X i ty) (hs : NoSl i) : PE X (.Subscript o i pos) (tDGF td ty) := by
  intro pins s σ H Q I h
  refine subD_of PySem.F.slot_dict_getitem.lookup hs (thn (ho pins s σ H _ I h) fun u s1 ⟨x, H1, I1, rx, q1⟩ => thn (hi pins s1 σ H1 _ I1 q1) fun iv s2 zr5571 => ?_)
  obtain ⟨y, H2, I2, ry, a, ex, k, ey, ob, kvs, v, hd, hv, q2⟩ := zr5571
  subst ex
  obtain rfl : u = Value.ref a := rx
  have g : DGet H2 a y (some v) := .inl ⟨kvs, k, .inr ⟨ob, hd⟩, ey, hv.symm⟩
  exact ⟨dict_typeIs I2 g, d_getItem hu I2 g ry fun w' s3 I3 rw' => ⟨v, H2, I3, rw', q2⟩⟩
end
end L2
set_option Elab.async false
set_option linter.all false
set_option maxRecDepth 100000
namespace L2
open PySem PySem.Spec PyProof.Rows
noncomputable def RisingT (t : SetTable) : Prop := t.place.toList.Pairwise (· < ·)
noncomputable def kOf (e : Int × Value) : Int := match e.2 with | .int i _ => i | _ => 0
noncomputable def SetW (w : World) (a : Addr) (L : List Int) (h : Heap) : Prop := ∃ o es ep t, h.get? a = some o ∧ o.ExactSet ∧ o.data = .set es ep t ∧ (∀ e ∈ es.toList, ∃ i tk, e = (hashInt i, Value.int i tk)) ∧ (es.toList.map kOf).Perm L ∧
  es.size < scanBound ∧ t.fits es.size = true ∧ RisingT t ∧ t.led = !w.params.followText "set-order"
section
variable {prog : Program} {w : World} {A : Around} {E : Value → Shared → Prop} {s : Shared}
end
theorem SetW.keep {w : World} {a : Addr} {L : List Int} {h h' : Heap} (x : SetW w a L h) (k : ∀ o, h.get? a = some o → h'.get? a = some o) : SetW w a L h' := by
  obtain ⟨o, es, ep, t, ho, r⟩ := x
  exact ⟨o, es, ep, t, k o ho, r⟩
section
variable {prog : Program} {w : World} {A : Around} {R : Result → Shared → Prop} {I : Addr} {fp wr : List Addr} {G : Array GenState → Array GenState → Prop} {n : Nat} {P : Nat → Value → Prop} {St : Nat → Shared → Prop}
end
end L2
namespace PySem
open L2 PyProof.Rows
section
variable {prog : Program} {w : World} {A : Around} {E : Value → Shared → Prop} {s : Shared}
end
end PySem
set_option Elab.async false
set_option linter.all false
set_option maxRecDepth 100000
namespace PySem
open L2 PyProof.Rows PySem.Calls
section
variable {prog : Program} {w : World} {A : Around} {E : Value → Shared → Prop} {s : Shared} {a : Addr} {o : Obj} {es : Array (Int × Value)} {ep : Nat} {t : SetTable}
noncomputable def SetIt (h : Heap) (I : Addr) (f : Value) (i : Nat) (a : Addr) (n ep : Nat) : Prop := ∃ o, h.get? I = some o ∧ o.cls = .type "set_iterator" ∧ o.data = .fields #[f, .int i 0, .ref a, .int n 0, .int ep 0]
end
end PySem
set_option Elab.async false
set_option linter.all false
set_option maxRecDepth 100000
namespace PySem
open L2 PyProof.Rows PySem.Calls
section
variable {prog : Program} {w : World} {A : Around} {E : Value → Shared → Prop} {s : Shared} {a : Addr} {o : Obj} {es : Array (Int × Value)} {ep : Nat} {t : SetTable}
theorem SetIt.keep {h h' : Heap} {I : Addr} {f : Value} {i n : Nat} (x : SetIt h I f i a n ep) (k : ∀ o, h.get? I = some o → h'.get? I = some o) : SetIt h' I f i a n ep := let ⟨o, ho, r⟩ := x; ⟨o, k o ho, r⟩
end
end PySem
set_option Elab.async false
set_option linter.all false
set_option maxRecDepth 100000
namespace PySem
open L2 PyProof.Rows PySem.Calls
section
variable {prog : Program} {w : World} {A : Around} {E : Value → Shared → Prop} {s : Shared} {a : Addr} {o : Obj} {es : Array (Int × Value)} {ep : Nat} {t : SetTable} {L : List Int}
end
end PySem
namespace L2
open PySem PySem.Spec PyProof.Rows
section
variable {X : Cx}
variable {e : Expr} {te : TE} {tk : TO} {stp : Expr} {p2 pos : Pos}
end
end L2
set_option Elab.async false
set_option linter.all false
set_option maxRecDepth 100000
namespace PySem
open L2 PyProof.Rows PySem.Calls
section
variable {prog : Program} {w : World} {A : Around} {E : Value → Shared → Prop} {s : Shared}
noncomputable def hashNone : Int := 0xFCA86420
theorem pyHash_none {Q : Int → Shared → Prop} (h : Q hashNone { s with toks := s.toks + 1 }) : wpAny (model prog w) A (pyHash .none) Q E s := by
  have hT : s.TypeIs Value.none "NoneType" := rfl
  show wpAny _ _ (pyHashByItsType .none) Q E s
  unfold pyHashByItsType
  refine wpAny_bind ?_
  rw [cRoomFor, if_neg (by rw [show [Value.none].any Value.onHeap = false from rfl]; exact Bool.false_ne_true)]
  refine wpAny_pure (wpAny_bind (wpAny_specialOf hT PySem.F.slot_NoneType_hash.lookup ?_))
  refine wpAny_ite_split (fun z => by cases z) fun _ => ?_
  refine wpAny_bind (wpAny_specialOf hT PySem.F.slot_NoneType_hash.lookup ?_)
  refine wpAny_ite_split (fun z => by cases z) fun _ => ?_
  refine wpAny_bind (wpAny_callSpecialIfBoundUnlessNone?_slot hT PySem.F.slot_NoneType_hash (wpAny_call_entry PySem.F.slot_NoneType_hash hT PySem.F.entry_NoneType_hash (show wpAny _ _ (do ret (← mkInt hashNone)) _ _ s from wpAny_ret_mkInt ?_) (PySem.F.args_NoneType_hash_1 _)))
  show wpAny _ _ (if (decide (-(2 : Int) ^ 63 ≤ hashNone) && decide (hashNone < 2 ^ 63)) = true then _ else _) Q E _
  rw [if_pos (by decide)]
  exact wpAny_pure h
theorem eqBool_none {Q : Bool → Shared → Prop} (h : Q true s) : wpAny (model prog w) A (eqBool .none .none) Q E s := by
  unfold eqBool
  refine wpAny_holding ?_
  rw [if_pos (by decide)]
  exact wpAny_bind (wpAny_rule (wpAny_pure h))
end
end PySem
set_option Elab.async false
set_option linter.all false
set_option maxRecDepth 100000
namespace L2
open PySem PySem.Spec PyProof.Rows
section
variable {P : Program} {w : World} {H : Hp} {h : Heap} {a : Addr} {o : Obj} {ks : List (Option Int)}
end
section
variable {X : Cx} {oe ie : Expr} {value : Expr} {pos pos' : Pos} {td ty tv : TE}
end
end L2
set_option Elab.async false
set_option linter.all false
set_option maxRecDepth 100000
namespace L2
open PySem PySem.Spec PyProof.Rows
section
variable {X : Cx} {pins : List (Addr × Obj)} {σ : St} {H : Hp} {s : Shared} {a b : Addr} {A : Around} {E : Value → Shared → Prop}
end
end L2
namespace L2
open PySem PySem.Spec PyProof.Rows
section
variable {X : Cx} {P : Program} {w : World} {oe ie value e l tg : Expr} {pos pos' : Pos} {td ty tv te tl : TE}
end
end L2
namespace L2
open PySem PySem.Spec PyProof.Rows
end L2
set_option Elab.async false
set_option linter.all false
set_option maxRecDepth 100000
namespace L2
open PySem PySem.Spec PyProof.Rows
section
variable {X : Cx} {K : PySem.W.Frag}
end
end L2
set_option Elab.async false
set_option linter.all false
set_option maxRecDepth 100000
namespace PySem
section
variable {prog : Program} {w : World} {K : Type} [DecidableEq K] {knd : HeapKind prog w K} {A : Around} {E : Value → Shared → Prop} {s : Shared} {d a : Addr} {k : K} {xs : List (K × Addr × Value)}
end
section
variable {prog : Program} {w : World} {K : Type} [DecidableEq K] (knd : HeapKind prog w K) (d a : Addr)
end
end PySem
namespace L2
open PySem PySem.Spec PyProof.Rows
section
variable {X : Cx} {pins : List (Addr × Obj)} {σ : St} {H : Hp} {s : Shared} {a b : Addr} {kvs : List (List Key × V)} {k : List Key} {z : V} {r : Value} {A : Around} {E : Value → Shared → Prop}
end
section
variable {X : Cx} {o e f : Expr} {apos cpos : Pos} {td ty tx : TE}
end
end L2
set_option Elab.async false
set_option linter.all false
set_option maxRecDepth 100000
namespace L2
open PySem PySem.Spec PyProof.Rows
noncomputable def tThawV (t : TE) : TE := fun σ H Q => ∃ a kvs, H a = some (.dK kvs) ∧ t σ H fun v H' => (∃ o, H' a = some (.frz o (.dK kvs))) ∧ Q v (upd H' a (.dK kvs))
theorem pe_thaw {X : Cx} {e : Expr} {t : TE} (h : PE X e t) : PE X e (tThawV t) := by
  intro pins s σ H Q I ⟨a, kvs, ha, ht⟩
  have hn : ∀ ob u, X.H₀ a ≠ some (.frz ob u) := fun ob u e => by have := I.base.frzs a ob u e; rw [ha] at this; cases this
  refine thn (h pins s σ H _ I ht) fun u s' ⟨v, H', I', rv, ⟨o, eo⟩, q⟩ => ?_
  exact ⟨v, _, I'.retag eo (by intro y z; cases z) (by intro y z; cases z) hn (by intro y z; cases z) (show s'.heap.get? a = some o ∧ ObjOk X.prog X.w H' s'.heap a (.dK kvs) from I'.hok a _ eo).2, rv, q⟩
end L2
namespace PySem.SeqAt
open AutoSeq1 (wpAny_loadPart')
open MeetsSeq MeetsSeq2 MeetsSeq3 SeqRoads2
noncomputable def AlikeIn (prog : Program) (w : World) (A : Around) (s : Shared) (y x : Value) : Prop := ∀ (E : Value → Shared → Prop) (Q : Bool → Shared → Prop), Q true s → wpAny (model prog w) A (eqBool y x) Q E s
end PySem.SeqAt
namespace L2
open PySem PySem.Spec PyProof.Rows
end L2
namespace L2
open PySem PySem.Spec PyProof.Rows
theorem op_neDK {X : Cx} {K : PySem.W.Frag} (hK : X.K = K) (hu : X.A.units + 100 < cLine) : OpR X (compareOp .NotEq) (rNeD K) := by
  subst hK
  exact op_neD hu
end L2
set_option Elab.async false
set_option linter.all false
set_option maxRecDepth 100000
namespace PySem
open L2 PyProof.Rows PySem.Calls
section
variable {prog : Program} {w : World} {A : Around} {E : Value → Shared → Prop} {s : Shared} {K : Type} [DecidableEq K] {knd : KeyKind prog w K} {d : Addr} {kvs : List (K × Value)} {ep : Nat}
end
end PySem
namespace L2
open PySem PySem.Spec PyProof.Rows
section
variable {X : Cx}
end
end L2
set_option Elab.async false
set_option linter.all false
set_option maxRecDepth 100000
namespace L2
open PySem PySem.Spec PyProof.Rows
section
variable {X : Cx}
end
end L2
set_option Elab.async false
set_option linter.all false
set_option maxRecDepth 100000
namespace PySem.W
open PySem PySem.Spec PyProof.Rows
section
variable {prog : Program} {w : World} {A : Around} {E : Value → Shared → Prop} {s : Shared}
end
end PySem.W
namespace L2
open PySem PySem.Spec PyProof.Rows
section
variable {X : Cx}
noncomputable def tDClear (td : TE) : TE := fun σ H Q => td σ H fun x H1 => ∃ a, x = .ref a ∧ ∃ kvs, H1 a = some (.dK kvs) ∧ Q .non (upd H1 a (.dK []))
theorem pe_dclear {o : Expr} {td : TE} {apos cpos : Pos} (ho : PE X o td) (hbase : attributeBase o "clear" X.env (eval o X.env) = eval o X.env := by rfl) (hline : (apos.endLine == cpos.line) = true := by rfl) : PE X (.Call (.Attribute o "clear" apos) [] [] cpos) (tDClear td) := by
  intro pins s σ H Q I h
  refine wpAny_Call_method0_late hbase hline (thn (ho pins s σ H _ I h) fun v s1 zr5793 => ?_)
  obtain ⟨x, H1, I1, r1, a, ex, kvs, e, q⟩ := zr5793
  subst ex
  cases r1
  obtain ⟨t1, t2, _⟩ := isD_at I1 (.inl ⟨_, .inl e⟩)
  exact ⟨"dict", "dict.clear", PySem.F.plainAttrs_dict, PySem.F.slot_dict_clear, PySem.F.type_dict_clear, t1, t2, Calls.callWith_builtin rfl (PySem.evalArgs_none (d_clear I1 e fun s' I' => ⟨.non, _, I', rfl, q⟩))⟩
end
end L2
set_option Elab.async false
set_option linter.all false
set_option maxRecDepth 100000
namespace PyProof.Rows
open PySem PySem.Spec
section
variable {prog : Program} {w : World} {A : Around} {E : Value → Shared → Prop} {s : Shared}
end
end PyProof.Rows
namespace L2
open PySem PySem.Spec PyProof.Rows
section
variable {X : Cx} {pos : Pos}
end
end L2
set_option Elab.async false
set_option linter.all false
set_option maxRecDepth 100000
namespace L2
open PySem PySem.Spec PyProof.Rows
noncomputable def tVarM (i : Nat) : TE := fun σ H Q => match σ[i]? with | some (some v) => Q v H | _ => False
theorem tVarM_of {i : Nat} {σ : St} {H : Hp} {Q : VK} (h : tVarM i σ H Q) : tVar i σ H Q := by
  unfold tVarM at h
  split at h
  · exact ⟨_, by assumption, h⟩
  · exact h.elim
theorem pvM {X : Cx} (i : Nat) {x : Str} {pos : Pos} (hN : X.N[i]? = some x := by rfl) (hv : Vis X.env.scope x := by first | exact Or.inl rfl | exact Or.inr (Or.inl rfl) | exact Or.inr (Or.inr rfl)) (hd : (x == ("__debug__" : Str)) = false := by decide)
    (hcd : (x == ("__classdict__" : Str)) = false := by decide) : PE X (.Name x pos) (tVarM i) := fun pins s σ H Q I h => pe_var hN hv hd hcd pins s σ H Q I (tVarM_of h)
end L2
set_option Elab.async false
set_option linter.all false
set_option maxRecDepth 100000
set_option maxHeartbeats 4000000
namespace PySem
open Sem (wp)
section
variable {prog : Program} {w : World} {A : Around} {E : Value → Shared → Prop} {s : Shared} {a : Addr} {o : Obj} {xs : Array Value} {k : Nat} {name : Str} {Q : Option Value → Shared → Prop}
theorem attrQ_miss_tuple (hx : s.heap.get? a = some o) (hc : o.cls = .type "tuple") (hdat : o.data = .seq xs k) (hd : o.dict = none) (hmiss : typeLookup (.type "tuple") name = pure none) (hname : (["__module__", "__name__", "__qualname__", "__doc__", "__annotations__"] : List Str).contains name = false) (hA : A.handled = none)
    (h : ∀ h' tk, (∀ b u, s.heap.get? b = some u → h'.get? b = some u) → Q none { s with heap := h', toks := tk }) (hsz : name.length + 100 ≤ sizeLine := by size_fits) :
    wpAny (model prog w) A (getAttr? (.ref a) name) Q E s := by
  obtain ⟨c, dct, dat, sl⟩ := o
  simp only at hc hdat hd
  subst hc hdat hd
  obtain ⟨hp, g, d, tk, os⟩ := s
  have hT : ∀ tk', (⟨hp, g, d, tk', os⟩ : Shared).TypeIs (.ref a) "tuple" := fun _ => ⟨_, hx, rfl⟩
  have f1 := sub_AttributeError
  have f3 := F.slot_tuple_getattribute.lookup
  have f4 := F.slot_tuple_getattribute.bind (.ref a)
  have f5 := am_tuple_getattr_none
  unfold getAttr? getAttrBy? getAttrBy
  repeat (any_goals (first | assumption | exact hT _ | ((with_reducible show wpAny _ _ (call (Value.builtin "tuple.__getattribute__") _ _) _ _ _); refine call_meets F.slot_tuple_getattribute (hT _) am_entry_tuple_getattribute (F.args_tuple_getattribute_2 _ _) (meets_getattribute_miss_tuple a xs k sl name _ hmiss hname hsz) ⟨hx, hA, fun h' tk' e hx' => ?_⟩) | wp_step))
  obtain ⟨t', u', he⟩ := hx'.there
  show wpAny _ _ (getattributeRaised _ _ _ _ _ _ _) _ _ _
  unfold getattributeRaised
  repeat (any_goals (first | assumption | wp_step))
  exact h _ _ hx'.keeps
theorem attrQ_miss_list (hx : s.heap.get? a = some o) (hc : o.cls = .type "list") (hdat : o.data = .seq xs k) (hd : o.dict = none) (hmiss : typeLookup (.type "list") name = pure none) (hname : (["__module__", "__name__", "__qualname__", "__doc__", "__annotations__"] : List Str).contains name = false) (hA : A.handled = none)
    (h : ∀ h' tk, (∀ b u, s.heap.get? b = some u → h'.get? b = some u) → Q none { s with heap := h', toks := tk }) (hsz : name.length + 100 ≤ sizeLine := by size_fits) :
    wpAny (model prog w) A (getAttr? (.ref a) name) Q E s := by
  obtain ⟨c, dct, dat, sl⟩ := o
  simp only at hc hdat hd
  subst hc hdat hd
  obtain ⟨hp, g, d, tk, os⟩ := s
  have hT : ∀ tk', (⟨hp, g, d, tk', os⟩ : Shared).TypeIs (.ref a) "list" := fun _ => ⟨_, hx, rfl⟩
  have f1 := sub_AttributeError
  have f3 := F.slot_list_getattribute.lookup
  have f4 := F.slot_list_getattribute.bind (.ref a)
  have f5 := am_list_getattr_none
  unfold getAttr? getAttrBy? getAttrBy
  repeat (any_goals (first | assumption | exact hT _ | ((with_reducible show wpAny _ _ (call (Value.builtin "list.__getattribute__") _ _) _ _ _); refine call_meets F.slot_list_getattribute (hT _) am_entry_list_getattribute (F.args_list_getattribute_2 _ _) (meets_getattribute_miss_list a xs k sl name _ hmiss hname hsz) ⟨hx, hA, fun h' tk' e hx' => ?_⟩) | wp_step))
  obtain ⟨t', u', he⟩ := hx'.there
  show wpAny _ _ (getattributeRaised _ _ _ _ _ _ _) _ _ _
  unfold getattributeRaised
  repeat (any_goals (first | assumption | wp_step))
  exact h _ _ hx'.keeps
end
namespace F
theorem entry_dict_update_loop : entryFor table "dict.update.loop" = some Builtin.«dict.update.loop» := entryFor_of_tree (by kernel_rfl)
theorem plain_dict_update_loop : plainId "dict.update.loop" = true := by decide +kernel
theorem lk_tuple_keys : typeLookup (.type "tuple") "keys" = pure none := by rw [typeLookup_type, builtinLookup_eq_fast]; kernel_rfl
theorem lk_list_keys : typeLookup (.type "list") "keys" = pure none := by rw [typeLookup_type, builtinLookup_eq_fast]; kernel_rfl
end F
section
variable {prog : Program} {w : World} {K : Type} [DecidableEq K] {knd : KeyKind prog w K} {A : Around} {R : Result → Shared → Prop} {I : Addr} {fp wr : List Addr} {G : Array GenState → Array GenState → Prop} {n : Nat} {P : Nat → Value → Prop} {St : Nat → Shared → Prop}
theorem codeAny_dict_update_loopS (W : WalksS prog w A.in1 I fp wr G n P St) (D : Addr) (hDf : D ∉ fp) (h0 : Heap) (key : Nat → K) (val : Nat → Value) (kv : Nat → List (K × Value))
    (hpair : ∀ i v, i < n → P i v → ∃ q o k0 m, v = .ref q ∧ q ∉ D :: wr ∧ h0.get? q = some o ∧ o.cls = .type "tuple" ∧ o.data = .seq #[k0, val i] m ∧ knd.is (key i) k0 = true)
    (hkv : ∀ i, i < n → kv (i + 1) = stored (kv i) (key i) (val i)) (hsz : ∀ i, i ≤ n → (kv i).length ≤ sizeLine) :
    ∀ (k i : Nat) (s : Shared) (tok : Tok), n - i = k → i ≤ n → St i s → s.heap.DictOf knd D (kv i) → (∀ b o, b ∉ D :: wr → h0.get? b = some o → s.heap.get? b = some o) →
      (∀ s', Moved (D :: wr) G s s' → s'.heap.DictOf knd D (kv n) → R (.ok (.ret .none)) s') →
      codeAny (model prog w) A (.builtin "dict.update.loop" ⟨[.ref D, .ref I, .int i tok, .none], []⟩) R s := by
  have hDw : D ∉ wr := fun h => hDf (W.sub _ h)
  have hsub : ∀ b ∈ wr, b ∈ D :: wr := fun b hb => List.mem_cons_of_mem _ hb
  intro k
  induction k with
  | zero =>
    intro i s tok hk hi hst hD hkp hR
    have hin : i = n := by omega
    subst hin
    refine codeAny_builtin F.entry_dict_update_loop ?_
    rw [Around.under_plainId F.plain_dict_update_loop _]
    show wpAny _ A.in1 (pyNext (.ref I) >>= _) _ _ s
    refine wpAny_bind (W.done s _ _ hst fun s' hm => ?_)
    show wpAny _ A.in1 (do Builtin.Dict.addKeywords D []; ret Value.none) _ _ s'
    refine wpAny_bind (wpAny_pure (wpAny_pure (hR s' (hm.mono hsub) ?_)))
    obtain ⟨o, es, ep, ho, rest⟩ := hD
    exact ⟨o, es, ep, hm.heap D _ hDw ho, rest⟩
  | succ k ih =>
    intro i s tok hk hi hst hD hkp hR
    have hlt : i < n := by omega
    refine codeAny_builtin F.entry_dict_update_loop ?_
    rw [Around.under_plainId F.plain_dict_update_loop _]
    show wpAny _ A.in1 (pyNext (.ref I) >>= _) _ _ s
    refine wpAny_bind (W.item i s _ _ hlt hst fun v s' hP hst' hm => ?_)
    obtain ⟨q, o, k0, m, rfl, hq, hg, hc, hd, hk0⟩ := hpair i v hlt hP
    have hD' : s'.heap.DictOf knd D (kv i) := by
      obtain ⟨o, es, ep, ho, rest⟩ := hD
      exact ⟨o, es, ep, hm.heap D _ hDw ho, rest⟩
    have hq' : s'.heap.get? q = some o := hm.heap q o (fun z => hq (hsub _ z)) (hkp q o hq hg)
    obtain ⟨c, dct, dat, sl⟩ := o
    simp only at hc hd
    subst hc hd
    have hT : s'.TypeIs (.ref q) "tuple" := ⟨_, hq', rfl⟩
    dsimp only
    refine wpAny_bind (wpAny_holding (wpAny_bind ?_))
    refine wpAny_tryCatch ?_
    unfold Builtin.Dict.pairItems
    refine wpAny_bind (wpAny_typeOf hT ?_)
    rw [if_pos (by decide)]
    refine wpAny_bind (wpAny_seqItems hq' rfl ?_)
    refine wpAny_pure ?_
    show wpAny _ _ (holding [k0, val i] (dictSet D k0 (val i))) _ _ s'
    refine wpAny_holding (wpAny_dictSet_pairs hk0 hD' (fun h' hd2 hsb => ?_) (hsz i hi))
    refine wpAny_pure ⟨plainId_quiet F.plain_dict_update_loop _, ih (i + 1) _ _ (by omega) hlt (W.frame _ s' _ _ hst' (Nat.le_succ _) fun b hb o e => ?_) (by rw [hkv i hlt]; exact hd2) (fun b o hb e => ?_) fun s'' hm'' hS'' => ?_⟩
    · rw [hsb.2 b (fun h : b = D => hDf (by rw [← h]; exact hb))]; exact e
    · rw [hsb.2 b (fun h : b = D => hb (by rw [h]; exact List.mem_cons_self))]
      exact hm.heap b o (fun z => hb (hsub _ z)) (hkp b o hb e)
    · refine hR s'' (Moved.trans W.gtrans ((hm.mono hsub).then_heap (Nat.le_succ _) fun b o hb e => ?_) hm'') hS''
      rw [hsb.2 b (fun h : b = D => hb (by rw [h]; exact List.mem_cons_self))]; exact e
theorem call_dict_pairs {E : Value → Shared → Prop} {s : Shared} {l : Addr} {o : Obj} {T : String} {items : Array Value} {m : Nat} {key : Nat → K} {val : Nat → Value} {kv : Nat → List (K × Value)} {Q : Value → Shared → Prop}
    (hT2 : T = "tuple" ∨ T = "list") (hh : A.handled = none) (hl : s.heap.get? l = some o) (hc : o.cls = .type T) (hdat : o.data = .seq items m) (hd : o.dict = none)
    (hpair : ∀ i v, items[i]? = some v → ∃ q o k0 m, v = .ref q ∧ s.heap.get? q = some o ∧ o.cls = .type "tuple" ∧ o.data = .seq #[k0, val i] m ∧ knd.is (key i) k0 = true)
    (h0 : kv 0 = []) (hkv : ∀ i, i < items.size → kv (i + 1) = stored (kv i) (key i) (val i)) (hsz : ∀ i, i ≤ items.size → (kv i).length ≤ sizeLine)
    (h : ∀ h' tk, h'.DictOf knd s.heap.objs.size (kv items.size) → (∀ b o, s.heap.get? b = some o → h'.get? b = some o) → Q (.ref s.heap.objs.size) { s with heap := h', toks := tk }) :
    wpAny (model prog w) A (call (.type "dict") [.ref l]) Q E s := by
  refine callType_codes (Q₁ := fun obj s₁ => obj = .ref s.heap.objs.size ∧ s₁ = { s with heap := s.heap.push { cls := .type "dict", data := .dict #[] } }) F.kt_called_dict (F.kt_typeCall_dict_1 _) F.entry_dict_init (kt_code_dict_new _ ⟨rfl, rfl⟩) ?_
  rintro obj s₁ ⟨rfl, rfl⟩
  have hnew : (s.heap.push { cls := .type "dict", data := .dict #[] }).DictOf knd s.heap.objs.size [] := Heap.DictOf.new s.heap
  refine ⟨hnew.typeIs, F.args_dict_init_2 _ _, ?_⟩
  unfold Builtin.«dict.__init__»
  refine wpAny_bind ?_
  unfold Builtin.Dict.selfAndRest
  refine wpAny_bind (wpAny_notOrdered_dict hnew.typeIs ?_)
  show wpAny _ _ (pure (s.heap.objs.size, [Value.ref l])) _ _ _
  refine wpAny_pure ?_
  show wpAny _ _ (Builtin.Dict.updateFrom "dict.__init__" s.heap.objs.size (.ref l) [] .none) _ _ _
  unfold Builtin.Dict.updateFrom
  have hl' : (s.heap.push { cls := .type "dict", data := .dict #[] }).get? l = some o := Heap.get?_push_of_some _ hl
  have hTT : Shared.TypeIs { s with heap := s.heap.push { cls := .type "dict", data := .dict #[] } } (.ref l) T := ⟨_, hl', hc⟩
  refine wpAny_bind (wpAny_typeOf hTT ?_)
  have tail : ∀ (h1 : Heap) (tk1 : Nat), (∀ b u, (s.heap.push { cls := .type "dict", data := .dict #[] }).get? b = some u → h1.get? b = some u) →
      ∀ (TI : Obj) (St : Nat → Heap → Prop), Walks prog w A.in1.in1 h1.objs.size [h1.objs.size, l] [h1.objs.size] items.size (fun i v => items[i]? = some v) St → St 0 (h1.push TI) →
      codeAny (model prog w) A.in1 (.builtin "dict.update.loop" ⟨[.ref s.heap.objs.size, .ref h1.objs.size, rawInt 0, .none], []⟩) (wants (fun r s₂ => r = Value.none ∧ Q (Value.ref s.heap.objs.size) s₂) E) { s with heap := h1.push TI, toks := tk1 } := by
    intro h1 tk1 k1 TI St W hst
    obtain ⟨od, _, _, hod, _⟩ := hnew
    have hlt1 : s.heap.objs.size < h1.objs.size := Heap.lt_size (k1 _ _ hod)
    have hll : l < s.heap.objs.size := Heap.lt_size hl
    have hDf : s.heap.objs.size ∉ [h1.objs.size, l] := by
      simp only [List.mem_cons, List.mem_singleton, List.not_mem_nil, or_false, not_or]
      exact ⟨Nat.ne_of_lt hlt1, Nat.ne_of_gt hll⟩
    have hold : ∀ b o, s.heap.get? b = some o → (h1.push TI).get? b = some o := fun b o e => Heap.get?_push_of_some _ (k1 b o (Heap.get?_push_of_some _ e))
    refine codeAny_dict_update_loopS (knd := knd) W.toS s.heap.objs.size hDf s.heap key val kv (fun i v hi hv => ?_) hkv hsz (items.size - 0) 0 _ 0 rfl (Nat.zero_le _) hst ?_ (fun b o _ e => hold b o e) fun s' hm hD => ?_
    · obtain ⟨q, o, k0, m, rfl, hg, r⟩ := hpair i v hv
      have hq := Heap.lt_size hg
      exact ⟨q, o, k0, m, rfl, by simp only [List.mem_cons, List.mem_singleton, List.not_mem_nil, or_false, not_or]; exact ⟨Nat.ne_of_lt hq, Nat.ne_of_lt (Nat.lt_trans hq hlt1)⟩, hg, r⟩
    · rw [h0]
      obtain ⟨o, es, ep, ho, rest⟩ := (Heap.DictOf.new (knd := knd) s.heap)
      exact ⟨o, es, ep, Heap.get?_push_of_some _ (k1 _ _ ho), rest⟩
    · obtain ⟨h', g', d', tk', os'⟩ := s'
      have eg : g' = s.gens := hm.gens
      have ed : d' = s.drawn := hm.drawn
      have eo : os' = s.os := hm.os
      subst eg; subst ed; subst eo
      refine ⟨rfl, h h' tk' hD fun b o e => hm.heap b o ?_ (hold b o e)⟩
      have hq := Heap.lt_size e
      simp only [List.mem_cons, List.mem_singleton, List.not_mem_nil, or_false, not_or]
      exact ⟨Nat.ne_of_lt hq, Nat.ne_of_lt (Nat.lt_trans hq hlt1)⟩
  have hh2 : A.in1.in1.handled = none := by simp [hh]
  rcases hT2 with rfl | rfl
  · rw [if_pos (by decide)]
    refine wpAny_bind (attrQ_miss_tuple hl' hc hdat hd F.lk_tuple_keys (by decide +kernel) hh2 (fun h1 tk1 k1 => ?_))
    rw [if_pos (show (Option.isNone (none : Option Value)) = true from rfl)]
    refine wpAny_bind (wpAny_rule ?_)
    have ht : h1.IsTuple l items := ⟨o, k1 _ _ hl', hc, m, hdat⟩
    refine wpAny_bind (wpAny_pyIter_tuple ht ?_)
    have hne : l ≠ h1.objs.size := Nat.ne_of_lt (Heap.lt_size (k1 _ _ hl'))
    refine wpAny_pure ⟨plainId_quiet F.plain_dict_update_loop _, tail h1 tk1 k1 _ _ (Walks.tuple hh2 _ l hne items) ⟨⟨_, Heap.get?_push_size _ rfl, rfl, rfl⟩, ?_⟩⟩
    exact ⟨o, Heap.get?_push_of_some _ (k1 _ _ hl'), hc, m, hdat⟩
  · rw [if_pos (by decide)]
    refine wpAny_bind (attrQ_miss_list hl' hc hdat hd F.lk_list_keys (by decide +kernel) hh2 (fun h1 tk1 k1 => ?_))
    rw [if_pos (show (Option.isNone (none : Option Value)) = true from rfl)]
    refine wpAny_bind (wpAny_rule ?_)
    have ht : h1.IsList l items := ⟨o, k1 _ _ hl', hc, m, hdat⟩
    refine wpAny_bind (wpAny_pyIter_list ht ?_)
    have hne : l ≠ h1.objs.size := Nat.ne_of_lt (Heap.lt_size (k1 _ _ hl'))
    refine wpAny_pure ⟨plainId_quiet F.plain_dict_update_loop _, tail h1 tk1 k1 _ _ (Walks.list hh2 _ l hne items) ⟨⟨_, Heap.get?_push_size _ rfl, rfl, rfl⟩, ?_⟩⟩
    exact ⟨o, Heap.get?_push_of_some _ (k1 _ _ hl'), hc, m, hdat⟩
end
end PySem
namespace L2
open PySem PySem.Spec PyProof.Rows
section
variable {X : Cx} {k : Nat} {ps : List Str} {x : Str} {p p1 pos : Pos} {e b : Expr} {es : List Expr} {tb : TE} {t : TA} {a : Addr}
end
section
variable {X : Cx}
noncomputable def ZTup (H : Hp) (p : Addr) (ys : List V) : Prop := ∃ o : Obj, o.dict = none ∧ H p = some (.frz o (.tup ys))
theorem ZTup.keep {H H' : Hp} {p : Addr} {ys : List V} (h : ZTup H p ys) (k : ∀ o u, H p = some (.frz o u) → H' p = some (.frz o u)) : ZTup H' p ys := by
  obtain ⟨o, d, h⟩ := h
  exact ⟨o, d, k _ _ h⟩
noncomputable def PrsAt (H : Hp) (ys : List V) (prs : List (Key × V)) : Prop := ∃ as : List (Addr × Key × V), ys = as.map (fun x => V.ref x.1) ∧ as.map (·.2) = prs ∧ ∀ x ∈ as, H x.1 = some (.tup [kV x.2.1, x.2.2])
theorem PrsAt.keep {H H' : Hp} {ys : List V} {prs : List (Key × V)} (h : PrsAt H ys prs) (k : ∀ a xs, H a = some (.tup xs) → H' a = some (.tup xs)) : PrsAt H' ys prs := by
  obtain ⟨as, h1, h2, h3⟩ := h
  exact ⟨as, h1, h2, fun x hx => k _ _ (h3 x hx)⟩
noncomputable def rDictP : List V → Hp → VK → Prop := fun xs H Q => ∃ p, xs = [.ref p] ∧ ∃ ys prs, (ZTup H p ys ∨ H p = some (.lst ys)) ∧ PrsAt H ys prs ∧ prs.length ≤ sizeLine ∧ ∀ d, H d = none → Q (.ref d) (upd H d (.dK (mergeK [] prs)))
theorem pairs_vals {pins : List (Addr × Obj)} {σ : St} {H : Hp} {s : Shared} (I : Inv X pins σ H s) : ∀ as : List (Addr × Key × V), (∀ x ∈ as, H x.1 = some (.tup [kV x.2.1, x.2.2])) →
    ∃ rs : List (Key × Value), KV (as.map (·.2)) rs ∧ ∀ (i : Nat) (x : Addr × Key × V), as[i]? = some x → ∃ (o : Obj) (k0 : Value) (m : Nat) (r : Value), rs[i]? = some (x.2.1, r) ∧ s.heap.get? x.1 = some o ∧ o.cls = .type "tuple" ∧ o.data = .seq #[k0, r] m ∧ (mixKind X.prog X.w).is x.2.1 k0 = true
  | [], _ => ⟨[], .nil, fun i x h => by simp at h⟩
  | y :: as, h => by
    obtain ⟨rs, h1, h2⟩ := pairs_vals I as fun x hx => h x (List.mem_cons_of_mem _ hx)
    obtain ⟨its, r, ⟨o, ho, hc, m, hd⟩, _⟩ := I.tuple (.of (h y List.mem_cons_self))
    obtain ⟨u, v, rfl, r1, r2⟩ := vals2 r
    refine ⟨(y.2.1, v) :: rs, .cons ⟨rfl, r2⟩ h1, fun i x e => ?_⟩
    cases i with
    | zero =>
      simp at e
      subst e
      exact ⟨o, u, m, v, rfl, ho, hc, hd, kV_is r1⟩
    | succ i => exact h2 i x (by simpa using e)
theorem merged_take (rs : List (Key × Value)) (i : Nat) (x : Key × Value) (h : rs[i]? = some x) : merged [] (rs.take (i + 1)) = stored (merged [] (rs.take i)) x.1 x.2 := by
  rw [List.take_add_one, h]
  unfold merged
  rw [List.foldl_append]
  rfl
theorem call_dictP (hc : X.calm = true) : CallR X (.type "dict") rDictP := by
  intro pins s σ H xs us Q I r h
  obtain ⟨p, rfl, ys, prs, hz, ⟨as, rfl, rfl, hp⟩, hl, q⟩ := h
  obtain ⟨u, rfl, rx⟩ := vals1 r
  cases rx
  obtain ⟨rs, kv, hrs⟩ := pairs_vals I as hp
  have hlr : as.length = rs.length := by have := Paired.length kv; simpa using this
  obtain ⟨its, o, T, m, rv, ho, hT, hcl, hdat, hdn⟩ : ∃ (its : List Value) (o : Obj) (T : String) (m : Nat), Vals (as.map fun x => V.ref x.1) its ∧ s.heap.get? p = some o ∧ (T = "tuple" ∨ T = "list") ∧ o.cls = .type T ∧ o.data = .seq its.toArray m ∧ o.dict = none := by
    rcases hz with ⟨o, hd, e⟩ | e
    · obtain ⟨h1, _, its, r, o', h2, h3, m, h4⟩ := (show ObjOk X.prog X.w H s.heap p (.frz o (.tup _)) from I.hok p _ e)
      rw [h1] at h2
      cases h2
      exact ⟨its, o, "tuple", m, r, h1, .inl rfl, h3, h4, hd⟩
    · obtain ⟨_, its, m, r, h1⟩ := (show ObjOk X.prog X.w H s.heap p (.lst _) from I.hok p _ e)
      exact ⟨its, _, "list", m, r, h1, .inr rfl, rfl, rfl, rfl⟩
  have hil : its.toArray.size = rs.length := by have := rv.length; simp at this ⊢; omega
  refine PySem.call_dict_pairs (knd := mixKind X.prog X.w) (key := fun i => ((rs[i]?).map (·.1)).getD (Sum.inl 0)) (val := fun i => ((rs[i]?).map (·.2)).getD .none) (kv := fun i => merged [] (rs.take i)) hT (I.ok.hd hc) ho hcl hdat hdn (fun i v hv => ?_) rfl (fun i hi => ?_) (fun i hi => ?_) fun h' tk dd kp => ?_
  · have hi : i < its.length := by
      have := (Array.getElem?_eq_some_iff.mp hv).1
      simpa using this
    have hia : i < as.length := by have := rv.length; simp at this; omega
    obtain ⟨w', hw, rw'⟩ := rv.get (i := i) (x := V.ref (as[i].1)) (by simp [hia])
    have ev : v = w' := by
      rw [List.getElem?_toArray, hw] at hv
      exact (Option.some.inj hv).symm
    subst ev
    cases rw'
    obtain ⟨o', k0, m', rr, e1, e2, e3, e4, e5⟩ := hrs i as[i] (by simp [hia])
    refine ⟨_, o', k0, m', rfl, e2, e3, ?_, ?_⟩
    · simp only [e1, Option.map_some, Option.getD_some]; exact e4
    · simp only [e1, Option.map_some, Option.getD_some]; exact e5
  · have hi' : i < rs.length := by omega
    have e : rs[i]? = some rs[i] := by simp [hi']
    rw [merged_take rs i _ e]
    simp only [e, Option.map_some, Option.getD_some]
  · have h1 : (merged [] (rs.take i)).length ≤ (rs.take i).length := by
      have hg : ∀ (ms ks : List (Key × Value)), (merged ks ms).length ≤ ks.length + ms.length := by
        intro ms
        induction ms with
        | nil => intro ks; simp [merged]
        | cons y ms ih =>
          intro ks
          have h1 := ih (stored ks y.1 y.2)
          have h2 : (stored ks y.1 y.2).length ≤ ks.length + 1 := by unfold stored; split <;> simp
          show (merged (stored ks y.1 y.2) ms).length ≤ _
          simp only [List.length_cons]
          omega
      simpa using hg (rs.take i) []
    have h2 : (rs.take i).length ≤ rs.length := by simp; omega
    simp at hl
    omega
  · rw [hil, List.take_length] at dd
    have hml := length_mergeK (as.map (·.2)) []
    simp at hl hml
    refine ⟨.ref s.heap.objs.size, _, I.laid (a := s.heap.objs.size) (o := .dK (mergeK [] (as.map (·.2)))) (t' := tk) kp (Nat.le_refl _) ⟨by omega, beq_eq_false_iff_ne.mpr (Ne.symm (Nat.ne_of_lt I.big)), _, KV.merge kv .nil, dd⟩, rfl, q _ (I.hok.fresh (Nat.le_refl _))⟩
end
end L2
set_option Elab.async false
set_option linter.all false
set_option maxRecDepth 100000
namespace L2
open PySem PySem.Spec PyProof.Rows
section
variable {X : Cx}
end
end L2
set_option Elab.async false
set_option linter.all false
set_option maxRecDepth 100000
set_option maxHeartbeats 4000000
namespace PySem
theorem entry_itemiter_iter : entryFor table "dict_itemiterator.__iter__" = some Builtin.«dict_keyiterator.__iter__» :=
  entryFor_alias (id' := "dict_keyiterator.__iter__") (by kernel_rfl) rfl (by decide +kernel) (by kernel_rfl)
theorem wpAny_pyIter_itemiter {prog : Program} {w : World} {A : Around} {E : Value → Shared → Prop} {s : Shared} {it d : Addr} {i n ep : Nat} {ok ov : Value} {Q : Value → Shared → Prop} (hit : IsItemIter s.heap it d i n ep ok ov) (h : Q (.ref it) s) : wpAny (model prog w) A (pyIter (.ref it)) Q E s := by
  have hT : s.TypeIs (.ref it) "dict_itemiterator" := ⟨_, hit, rfl⟩
  refine wpAny_pyIter_slot hT F.slot_dict_itemiterator_iter (wpAny_call_entry F.slot_dict_itemiterator_iter hT entry_itemiter_iter ?_ (F.args_dict_itemiterator_iter_1 _))
  show wpAny _ _ (ret (.ref it)) _ _ s
  exact wpAny_pure ⟨_, rfl, "dict_itemiterator", _, hT, F.slot_dict_itemiterator_next.lookup, h⟩
end PySem
namespace L2
open PySem PySem.Spec PyProof.Rows
section
variable {X : Cx}
noncomputable def Iti (a : Addr) (o : Obj) (kvs : List (Key × V)) : It :=
  ⟨fun i H => H a = some (.frz o (.dK kvs)) ∧ i < kvs.length,
   fun i H v H' => ∃ t k x, H t = none ∧ v = .ref t ∧ H' = upd H t (.tup [kV k, x]) ∧ kvs[i]? = some (k, x),
   fun i H => H a = some (.frz o (.dK kvs)) ∧ kvs.length ≤ i⟩
theorem turn_items {P : Program} {w : World} {K : PySem.W.Frag} {es : List Expr} {x1} {pos : Pos} (a it : Addr) (o : Obj) (kvs : List (Key × V)) (ep : Nat) (hep : ∃ es, o.data = .dict es ep) :
    Turn P w K (.Tuple es x1 pos) (Iti a o kvs) [it] it (fun i h => ∃ ok ov, IsItemIter h it a i kvs.length ep ok ov) where
  mem := by simp
  obj := fun i h st b hb => by
    have e : b = it := by simpa using hb
    subst e
    obtain ⟨ok, ov, h⟩ := st
    exact ⟨_, h, fun v z => by cases z⟩
  keep := fun i h h' st k => by
    obtain ⟨ok, ov, h⟩ := st
    exact ⟨ok, ov, k it (by simp) _ h⟩
  item := by
    intro X hP hw hK hc i pins s σ H E In hf st hg
    subst hP hw hK
    obtain ⟨ha, hi⟩ := hg
    obtain ⟨ho, hz, hd, vs, rel, od, es, ep', hod, hr⟩ := (show s.heap.get? a = some o ∧ ObjOk X.prog X.w H s.heap a (.dK kvs) from In.hok a _ ha)
    rw [ho] at hod
    cases hod
    obtain ⟨es0, he0⟩ := hep
    have eep : ep' = ep := by
      have := hr.2.1
      rw [he0] at this
      cases this
      rfl
    subst eep
    have hlen := rel.length
    obtain ⟨k, v, hkv⟩ : ∃ k v, kvs[i]? = some (k, v) := ⟨kvs[i].1, kvs[i].2, by simp [hi]⟩
    obtain ⟨u, hu, ru⟩ := rel.get hkv
    obtain ⟨ok, ov, st⟩ := st
    have st' : IsItemIter s.heap it a i vs.length ep' ok ov := by rw [← hlen]; exact st
    refine wpAny_pyNext_items_item (knd := mixKind X.prog X.w) (v := u) st' ⟨o, es, ho, hr⟩ hu fun key h' hk heo ht hz2 hk2 => ?_
    refine ⟨_, rfl, wpAny_letOwnedTupleGo_items (s := { s with heap := h' }) heo fun h2 he2 s2 => ?_⟩
    have hil : it < s.heap.objs.size := Heap.lt_size st
    have hnew : H s.heap.objs.size = none := In.hok.fresh (Nat.le_refl _)
    have I2 : Inv X pins σ (upd H s.heap.objs.size (.tup [kV k, v])) { s with heap := h2 } := In.turnedNew (t' := s.toks) (fp := [it]) (fun c oc hc q => by
        simp only [List.mem_cons, List.not_mem_nil, or_false] at hc
        exact (s2.2 c hc).trans (hk2 c oc hc q)) hf (Nat.le_refl _)
      ⟨by show 2 ≤ sizeLine; decide, [key, u], .cons (rel_key hk) (.cons ru .nil), ⟨_, (s2.2 _ (Nat.ne_of_gt hil)).trans ht, rfl, _, rfl⟩⟩
    refine ⟨.ref s.heap.objs.size, _, I2, rfl, ⟨_, k, v, hnew, rfl, rfl, hkv⟩, ⟨key, u, by rw [hlen]; exact he2⟩, fun c hc => ?_⟩
    have e : c = it := by simpa using hc
    subst e
    rw [upd_ne (Nat.ne_of_lt hil)]
    exact (hf _ (by simp)).1
  done := by
    intro X hP hw hK hc i pins s σ H E In hf st hg
    subst hP hw hK
    obtain ⟨ha, hi⟩ := hg
    obtain ⟨ho, hz, hd, vs, rel, od, es, ep', hod, hr⟩ := (show s.heap.get? a = some o ∧ ObjOk X.prog X.w H s.heap a (.dK kvs) from In.hok a _ ha)
    rw [ho] at hod
    cases hod
    obtain ⟨es0, he0⟩ := hep
    have eep : ep' = ep := by
      have := hr.2.1
      rw [he0] at this
      cases this
      rfl
    subst eep
    have hlen := rel.length
    obtain ⟨f0, f1, f2, f3, f4, f5⟩ := hf it (by simp)
    obtain ⟨ok, ov, st⟩ := st
    have st' : IsItemIter s.heap it a i vs.length ep' ok ov := by rw [← hlen]; exact st
    exact wpAny_pyNext_items_end (knd := mixKind X.prog X.w) (In.ok.hd hc) st' ⟨o, es, ho, hr⟩ (List.getElem?_eq_none_iff.mpr (by omega)) fun h' eb => ⟨rfl, In.turned (t' := s.toks) (fun b ob hb e => eb b ob hb e) f0 f1 f3 f4 f5⟩
  self := fun _ _ _ _ _ st h => by
    obtain ⟨ok, ov, st⟩ := st
    exact wpAny_pyIter_itemiter st h
noncomputable def iI (td : TE) : TI := fun σ H R => td σ H fun x H1 => ∃ a, x = .ref a ∧ ∃ kvs, H1 a = some (.dK kvs) ∧ ∀ o, R (Iti a o kvs) (upd H1 a (.frz o (.dK kvs)))
theorem pi_items {oe : Expr} {td : TE} {apos cpos pos' : Pos} {es : List Expr} {x1} (ho : PE X oe td) (hbase : attributeBase oe "items" X.env (eval oe X.env) = eval oe X.env := by rfl) (hline : (apos.endLine == cpos.line) = true := by rfl) :
    PI X (.Tuple es x1 pos') (.Call (.Attribute oe "items" apos) [] [] cpos) (iI td) := by
  intro pins s σ H R I h
  refine wpAny_Call_method0_late hbase hline (thn (ho pins s σ H _ I h) fun v s1 zr6199 => ?_)
  obtain ⟨x, H1, I1, r1, a, ex, kvs, hq, q⟩ := zr6199
  subst ex
  cases r1
  obtain ⟨hz, hd, vs, rel, od, es', ep, hod, hr⟩ := dk_of I1.hok hq
  obtain ⟨t1, t2, _⟩ := isD_at I1 (.inl ⟨_, .inl hq⟩)
  refine ⟨"dict", "dict.items", PySem.F.plainAttrs_dict, PySem.F.slot_dict_items, PySem.F.type_dict_items, t1, t2, ?_⟩
  refine method_meetsIn PySem.F.slot_dict_items PySem.F.entry_dict_items rfl (PySem.evalArgs_none ⟨rfl, t1, PySem.F.args_dict_items_1 _, _, meets_dict_items (mixKind X.prog X.w) a hd, ⟨vs, od, es', ep, hod, hr⟩, ?_⟩)
  have hm : (s1.heap.push { cls := .type "dict_items", data := .fields #[.ref a] }).DictAt (mixKind X.prog X.w) a vs ep := ⟨od, es', Heap.get?_push_of_some _ hod, hr⟩
  refine wpAny_pyIter_items (knd := mixKind X.prog X.w) (s := { s1 with heap := s1.heap.push { cls := .type "dict_items", data := .fields #[.ref a] } }) (d := a) (kvs := vs) (ep := ep) ⟨_, Heap.get?_push_size _ rfl, rfl, rfl⟩ hm ?_
  have hn : ∀ ob u, X.H₀ a ≠ some (.frz ob u) := fun ob u e => by have := I1.base.frzs a ob u e; rw [hq] at this; cases this
  have I2 : Inv X pins σ H1 { s1 with heap := (s1.heap.push { cls := .type "dict_items", data := .fields #[.ref a] }).push { cls := .type "dict_itemiterator", data := .fields #[.none, .bool false, .ref a, .int 0 0, .int vs.length 0, .int ep 0, .none, .none] } } := I1.kept (t' := s1.toks) fun b o e => Heap.get?_push_of_some _ (Heap.get?_push_of_some _ e)
  have ok2 := I2.hok a _ hq
  have I3 := I2.retag (o' := .frz od (.dK kvs)) hq (by intro y z; cases z) (by intro y z; cases z) hn (by intro y z; cases z) ⟨Heap.get?_push_of_some _ (Heap.get?_push_of_some _ hod), ok2⟩
  have hlen := rel.length
  have hsz : (s1.heap.push { cls := .type "dict_items", data := .fields #[.ref a] }).objs.size = s1.heap.objs.size + 1 := Heap.size_push ..
  refine ⟨_, [(s1.heap.push { cls := .type "dict_items", data := .fields #[.ref a] }).objs.size], _, _, _, rfl, I3, turn_items a _ od kvs ep ⟨es', hr.2.1⟩, ⟨.none, .none, by rw [hlen]; exact Heap.get?_push_size _ rfl⟩, fun b hb => ?_, q od⟩
  have e : b = (s1.heap.push { cls := .type "dict_items", data := .fields #[.ref a] }).objs.size := by simpa using hb
  subst e
  have hle : s1.heap.objs.size ≤ (s1.heap.push { cls := .type "dict_items", data := .fields #[.ref a] }).objs.size := by rw [hsz]; exact Nat.le_succ _
  have hfr : H1 (s1.heap.push { cls := .type "dict_items", data := .fields #[.ref a] }).objs.size = none := I1.hok.fresh hle
  obtain ⟨f0, f1, f2, f3, f4, f5⟩ := I1.fpOk hle hfr
  exact ⟨by rw [upd_ne (fun z => by rw [z, hq] at hfr; cases hfr)]; exact hfr, f1, f2, f3, f4, f5⟩
theorem comp_ig {a : Addr} {o : Obj} {kvs : List (Key × V)} {g : TG} {tc : TT} {te : TE} {σ0 : St} {Q : VK} {H1 : Hp} {D : Addr} (Pv : Nat → List V → Hp → Prop) (h0 : Pv 0 [] (upd H1 D (.lst []))) (hl : ∀ i ys H, Pv i ys H → H a = some (.frz o (.dK kvs)))
    (hs : ∀ (i : Nat) (k : Key) (x : V) (ys : List V) (H : Hp) (t : Addr), kvs[i]? = some (k, x) → Pv i ys H → H t = none → g (.ref t) σ0 (upd H t (.tup [kV k, x])) fun σ2 H3 => tc σ2 H3 fun c H4 => if c = true then te σ2 H4 fun v H5 => H5 D = some (.lst ys) ∧ ys.length < sizeLine ∧ Pv (i + 1) (ys ++ [v]) (upd H5 D (.lst (ys ++ [v]))) else Pv (i + 1) ys H4)
    (hd : ∀ ys H, Pv kvs.length ys H → Q (.ref D) H) : CompG (Iti a o kvs) σ0 g tc te Q H1 D := by
  refine ⟨fun i m ys H => Pv i ys H ∧ i ≤ kvs.length ∧ m = kvs.length - i, ⟨_, h0, Nat.zero_le _, rfl⟩, ?_⟩
  rintro i m ys H ⟨hp, hi, rfl⟩
  have sa := hl i ys H hp
  by_cases hin : i = kvs.length
  · left
    subst hin
    exact ⟨⟨sa, Nat.le_refl _⟩, hd ys H hp⟩
  · right
    have h1 : i < kvs.length := by omega
    refine ⟨⟨sa, h1⟩, fun ys' H' => Pv (i + 1) ys' H', fun ys' H' h => ⟨_, by omega, h, by omega, rfl⟩, ?_⟩
    rintro v H' ⟨t, k, x, ht, rfl, rfl, e1⟩
    exact hs i k x ys H t e1 hp ht
end
end L2
set_option Elab.async false
set_option linter.all false
set_option maxRecDepth 100000
namespace PySem
open Sem (wp)
open AutoSeq1 (wpAny_loadPart')
section
variable {prog : Program} {w : World} {A : Around} {E : Value → Shared → Prop} {s : Shared}
end
section
variable {prog : Program} {w : World} {A : Around} {E : Value → Shared → Prop} {s : Shared}
end
end PySem
namespace L2
open PySem PySem.Spec PyProof.Rows
section
variable {X : Cx} {e1 : Expr} {ta : TA} {p p2 pos pos2 : Pos}
end
end L2
set_option Elab.async false
set_option linter.all false
set_option maxRecDepth 100000
namespace PySem
open AutoSeq1
end PySem
namespace L2
open PySem PySem.Spec PyProof.Rows
section
variable {X : Cx}
noncomputable def rIsBl (neg : Bool) : R2 := fun x y H Q => ∃ i, x = .bl i ∧ ∃ j, y = .bl j ∧ Q (.bl (xor neg (decide (i = j)))) H
theorem op_isBl : OpR X (compareOp .Is) (rIsBl false) := by
  intro pins s σ H x y v u Q I rx ry h
  obtain ⟨i, rfl, j, rfl, q⟩ := h
  cases rx
  cases ry
  cases i <;> cases j <;> exact wpAny_pure (fin_bl I q rfl)
theorem op_notBl : OpR X (compareOp .IsNot) (rIsBl true) := by
  intro pins s σ H x y v u Q I rx ry h
  obtain ⟨i, rfl, j, rfl, q⟩ := h
  cases rx
  cases ry
  cases i <;> cases j <;> exact wpAny_pure (fin_bl I q rfl)
end
end L2
set_option Elab.async false
set_option linter.all false
set_option maxRecDepth 100000
namespace PySem
open AutoSeq1 (wpAny_loadPart')
end PySem
namespace L2
open PySem PySem.Spec PyProof.Rows
section
variable {X : Cx}
end
end L2
namespace HT
open PySem PySem.Spec PyProof.Rows L2
section
variable {prog : Program} {w : World} {A : Around} {E : Value → Shared → Prop} {s : Shared}
end
end HT
namespace L2
open PySem PySem.Spec PyProof.Rows
section
variable {X : Cx} {e : Expr} {te : TE} {tk : TO} {stp : Expr} {p2 pos : Pos}
end
end L2
set_option Elab.async false
set_option linter.all false
set_option maxRecDepth 100000
namespace PySem.SeqAt
open AutoSeq1 (wpAny_loadPart')
open MeetsSeq MeetsSeq2 MeetsSeq3 SeqRoads2
theorem pair_ne {prog : Program} {w : World} (la lb : Addr) (x1 x2 y1 y2 : Value) (nx ny : Nat) (dx dy : Option Addr) (sx sy : Array (Option Value)) :
    MeetsIn prog w (Builtin.«tuple.__ne__» ⟨[.ref la, .ref lb], []⟩)
      (fun A R s => s.heap.get? la = some ⟨.type "tuple", dx, .seq #[x1, x2] nx, sx⟩ ∧ s.heap.get? lb = some ⟨.type "tuple", dy, .seq #[y1, y2] ny, sy⟩ ∧
        AlikeIn prog w A.in1 s x1 y1 ∧ AlikeIn prog w A.in1 s x2 y2 ∧ R (.ok (.ret (.bool false))) s) := by
  intro A R s hh
  obtain ⟨h0, g0, d0, t0, o0⟩ := s
  obtain ⟨ha, hb, h1, h2, hR⟩ := hh
  have a1 : ∀ {E : Value → Shared → Prop} {Q : Bool → Shared → Prop}, Q true ⟨h0, g0, d0, t0, o0⟩ → wpAny (model prog w) A.in1 (eqBool x1 y1) Q E ⟨h0, g0, d0, t0, o0⟩ := fun h => h1 _ _ h
  have a2 : ∀ {E : Value → Shared → Prop} {Q : Bool → Shared → Prop}, Q true ⟨h0, g0, d0, t0, o0⟩ → wpAny (model prog w) A.in1 (eqBool x2 y2) Q E ⟨h0, g0, d0, t0, o0⟩ := fun h => h2 _ _ h
  have fs := AutoSeq1.sub_tuple_tuple
  wp_walk using wpAny_loadPart' ha, wpAny_loadPart' hb, a1, a2
  exact hR
theorem ne_pairIn {prog : Program} {w : World} {A : Around} {E : Value → Shared → Prop} {s : Shared} {la lb : Addr} {x1 x2 y1 y2 : Value} {Q : Value → Shared → Prop} (ha : PyProof.Rows.IsTup s.heap la #[x1, x2]) (hb : PyProof.Rows.IsTup s.heap lb #[y1, y2]) (hu : A.units < cLine)
    (h1 : AlikeIn prog w A.in1 s x1 y1) (h2 : AlikeIn prog w A.in1 s x2 y2) (h : Q (.bool false) s) : wpAny (model prog w) A (compareOp .NotEq (.ref la) (.ref lb)) Q E s := by
  obtain ⟨⟨c1, d1, e1, s1⟩, o1, k1, n1, m1⟩ := ha
  obtain ⟨⟨c2, d2, e2, s2⟩, o2, k2, n2, m2⟩ := hb
  simp only at k1 m1 k2 m2
  subst k1 m1 k2 m2
  refine wpAny_richCompare_same_room (op := .NotEq) ⟨_, o1, rfl⟩ ⟨_, o2, rfl⟩ F.slot_tuple_ne ?_ hu
  exact call_meetsIn F.slot_tuple_ne ⟨_, o1, rfl⟩ F.entry_tuple_ne (F.args_tuple_ne_2 _ _) (pair_ne la lb x1 x2 y1 y2 n1 n2 d1 d2 s1 s2) ⟨o1, o2, h1, h2, (fun x => nomatch x), h⟩
end PySem.SeqAt
namespace L2
open PySem PySem.Spec PyProof.Rows
section
variable {X : Cx}
theorem alike_dk {pins : List (Addr × Obj)} {σ : St} {H : Hp} {s : Shared} (I : Inv X pins σ H s) (hu : X.A.units + 10 < cLine) {d1 d2 : Addr} {kvs : List (Key × V)} (h1 : H d1 = some (.dK kvs)) (h2 : H d2 = some (.dK kvs)) (hp : ∀ p ∈ kvs, plainV p.2 = true) : SeqAt.AlikeIn X.prog X.w X.A.in1 s (.ref d1) (.ref d2) := by
  intro E Q' hq
  unfold eqBool
  refine wpAny_holding ?_
  refine wpAny_ite_split (fun _ => wpAny_bind (wpAny_rule (wpAny_pure hq))) (fun _ => wpAny_bind ?_)
  obtain ⟨z, hd1, vs, rel, dd⟩ := dk_of I.hok h1
  obtain ⟨z2, hd2, vs2, rel2, dd2⟩ := dk_of I.hok h2
  have hn : (vs.map (·.1)).Nodup := let ⟨_, _, _, _, _, _, _, _, hn⟩ := dd; hn
  rw [← rel.keys] at hn
  refine PySem.W.keq_eq (r := true) hd1 hd2 dd dd2 (by show X.A.units + 1 < cLine; omega) (fun _ => hits_same rel2 rel fun p hp' => ⟨valV_mem hn hp', hp p hp'⟩) ?_
  rw [← rel.length, ← rel2.length, beq_self_eq_true]
  exact wpAny_truthy_bool hq
end
end L2
set_option Elab.async false
set_option linter.all false
set_option maxRecDepth 100000
namespace PySem.W
open PySem PySem.Calls PyProof.Rows
noncomputable def KasT.Tru {α : Type} (n : Nat) (lt : Nat → Nat → Bool) (P : α → Prop) : KasT α → Prop
  | .ret a => P a
  | .ask i j k => i < n ∧ j < n ∧ (k (lt i j)).Tru n lt P
theorem KasT.Tru.bind {α β : Type} {n : Nat} {lt : Nat → Nat → Bool} {P : α → Prop} {R : β → Prop} {f : α → KasT β} : ∀ {t : KasT α}, t.Tru n lt P → (∀ a, P a → (f a).Tru n lt R) → (t.bind f).Tru n lt R
  | .ret a, h, hf => hf a h
  | .ask i j k, h, hf => ⟨h.1, h.2.1, KasT.Tru.bind h.2.2 hf⟩
theorem KasT.Tru.wp {α : Type} {n : Nat} {lt : Nat → Nat → Bool} {P : α → Prop} {Q : α → Shared → Prop} {s : Shared} {cmp : Nat → Nat → (Bool → Shared → Prop) → Shared → Prop}
    (hc : ∀ i j C, i < n → j < n → C (lt i j) s → cmp i j C s) (hq : ∀ a, P a → Q a s) : ∀ {t : KasT α}, t.Tru n lt P → t.kasWp cmp Q s
  | .ret a, h => hq a h
  | .ask i j k, h => hc i j _ h.1 h.2.1 (KasT.Tru.wp hc hq h.2.2)
structure Ord (lt : Nat → Nat → Bool) : Prop where
  asym : ∀ {a b}, lt a b = true → lt b a = false
  neg : ∀ {a b c}, lt b a = false → lt c b = false → lt c a = false
theorem Ord.irr {lt : Nat → Nat → Bool} (O : Ord lt) (a : Nat) : lt a a = false := by
  cases h : lt a a with
  | false => rfl
  | true => exact absurd (h.symm.trans (O.asym h)) (by decide)
noncomputable def Srt (lt : Nat → Nat → Bool) (p : Array Nat) (m : Nat) : Prop := ∀ i j, i < j → j < m → lt (p.getD j 0) (p.getD i 0) = false
noncomputable def Dsc (lt : Nat → Nat → Bool) (p : Array Nat) (m : Nat) : Prop := ∀ i j, i < j → j < m → lt (p.getD i 0) (p.getD j 0) = false
noncomputable def Evn (lt : Nat → Nat → Bool) (p : Array Nat) (l m : Nat) : Prop := ∀ i j, l ≤ i → i < m → l ≤ j → j < m → lt (p.getD i 0) (p.getD j 0) = false
theorem rev_at {p : Array Nat} {i j : Nat} (hj : j ≤ p.size) (k : Nat) : (kas_rev p i j).getD k 0 = if i ≤ k ∧ k < j then p.getD (i + j - 1 - k) 0 else p.getD k 0 := by
  have e := getElem?_mirror_all (xs := p) (i := i) hj k
  unfold kas_rev
  rw [Array.getD_eq_getD_getElem?, e, Array.getD_eq_getD_getElem?, Array.getD_eq_getD_getElem?]
  split <;> rfl
theorem bub_at {p : Array Nat} {src d : Nat} (hs : src < p.size) (hd : d ≤ src) (k : Nat) : (bubble p src d).getD k 0 = if k = src - d then p.getD src 0 else if src - d < k ∧ k ≤ src then p.getD (k - 1) 0 else p.getD k 0 := by
  have e := getElem?_bubble hs d hd k
  rw [Array.getD_eq_getD_getElem?, e, Array.getD_eq_getD_getElem?, Array.getD_eq_getD_getElem?, Array.getD_eq_getD_getElem?]
  split
  · rfl
  · split <;> rfl
theorem PermR.size {n : Nat} {p : Array Nat} (h : PermR n p) : p.size = n := by
  have := h.length_eq
  simpa using this
section
variable {n : Nat} {lt : Nat → Nat → Bool} (hn : 0 < n) (O : Ord lt)
include hn O
theorem kas_asc_tru {p : Array Nat} (h : PermR n p) : ∀ (f m : Nat), 1 ≤ m → Srt lt p m → (kas_asc p f m).Tru n lt fun r => Srt lt p r ∧ m ≤ r ∧ r ≤ m + f ∧ (r = m + f ∨ lt (p.getD r 0) (p.getD (r - 1) 0) = true)
  | 0, m, h1, hs => ⟨hs, Nat.le_refl _, Nat.le_refl _, .inl rfl⟩
  | f + 1, m, h1, hs => by
    refine ⟨h.lt hn _, h.lt hn _, ?_⟩
    cases c : lt (p.getD m 0) (p.getD (m - 1) 0) with
    | true =>
      simp only [if_true]
      exact ⟨hs, Nat.le_refl _, by omega, .inr c⟩
    | false =>
      simp only [Bool.false_eq_true, if_false]
      have hs' : Srt lt p (m + 1) := fun i j hij hj => by
        by_cases hjm : j < m
        · exact hs i j hij hjm
        · have ej : j = m := by omega
          subst ej
          by_cases hi : i = j - 1
          · rw [hi]; exact c
          · exact O.neg (hs i (j - 1) (by omega) (by omega)) c
      have ih := kas_asc_tru h f (m + 1) (by omega) hs'
      have mono : ∀ {t : KasT Nat} {P R : Nat → Prop}, t.Tru n lt P → (∀ a, P a → R a) → t.Tru n lt R := by
        intro t
        induction t with
        | ret a => intro P R x y; exact y a x
        | ask i j k ih => intro P R x y; exact ⟨x.1, x.2.1, ih _ x.2.2 y⟩
      exact mono ih fun r zq31 => by obtain ⟨a, b, c, d⟩ := zq31; exact (⟨a, by omega, by omega, by rcases d with d | d; exact .inl (by omega); exact .inr d⟩)
theorem dsc_rev {p : Array Nat} {l m : Nat} (h : PermR n p) (hm : m ≤ n) (hd : Dsc lt p m) (he : Evn lt p l m) : Dsc lt (kas_rev p l m) m ∧ ∀ k, m ≤ k → (kas_rev p l m).getD k 0 = p.getD k 0 := by
  have hz := h.size
  refine ⟨fun i j hij hj => ?_, fun k hk => by rw [rev_at (by omega), if_neg (by omega)]⟩
  rw [rev_at (by omega), rev_at (by omega)]
  by_cases a : l ≤ i ∧ i < m
  · rw [if_pos a]
    have b : l ≤ j ∧ j < m := ⟨by omega, hj⟩
    rw [if_pos b]
    exact he _ _ (by omega) (by omega) (by omega) (by omega)
  · rw [if_neg a]
    by_cases b : l ≤ j ∧ j < m
    · rw [if_pos b]
      exact hd _ _ (by omega) (by omega)
    · rw [if_neg b]
      exact hd _ _ hij hj
theorem dsc_step {p : Array Nat} {m : Nat} (hd : Dsc lt p m) (hl : ∀ i, i < m → lt (p.getD i 0) (p.getD m 0) = false) : Dsc lt p (m + 1) := fun i j hij hj => by
  by_cases hjm : j < m
  · exact hd i j hij hjm
  · have : j = m := by omega
    subst this
    exact hl i hij
theorem dsc_last {p : Array Nat} {m : Nat} (h1 : 1 ≤ m) (hd : Dsc lt p m) (c : lt (p.getD (m - 1) 0) (p.getD m 0) = false) : Dsc lt p (m + 1) := dsc_step hn O hd fun i hi => by
  by_cases e : i = m - 1
  · rw [e]; exact c
  · exact O.neg c (hd i (m - 1) (by omega) (by omega))
theorem kas_desc_tru : ∀ (f : Nat) (p : Array Nat) (m q : Nat), PermR n p → q + 1 ≤ m → m + f ≤ n → Dsc lt p m → Evn lt p (m - (q + 1)) m →
    (kas_desc f p m q).Tru n lt fun r => PermR n r.1 ∧ r.2.2 + 1 ≤ r.2.1 ∧ r.2.1 ≤ n ∧ Dsc lt r.1 r.2.1 ∧ Evn lt r.1 (r.2.1 - (r.2.2 + 1)) r.2.1
  | 0, p, m, q, h, h1, h2, hd, he => ⟨h, h1, by simpa using h2, hd, he⟩
  | f + 1, p, m, q, h, h1, h2, hd, he => by
    refine ⟨h.lt hn _, h.lt hn _, ?_⟩
    have one : ∀ p' : Array Nat, Evn lt p' (m + 1 - (0 + 1)) (m + 1) := fun p' i j a b c d => by
      have e1 : i = m := by omega
      have e2 : j = m := by omega
      rw [e1, e2]; exact O.irr _
    cases c : lt (p.getD m 0) (p.getD (m - 1) 0) with
    | true =>
      simp only [if_true]
      split
      · obtain ⟨d1, k1⟩ := dsc_rev hn O h (by omega) hd he
        refine kas_desc_tru f _ _ _ (h.rev _ _) (by omega) (by omega) (dsc_last hn O (by omega) d1 ?_) (one _)
        rw [k1 m (Nat.le_refl _)]
        rw [rev_at (by rw [h.size]; omega), if_pos (by omega)]
        have e1 := he (m - 1) (m - (q + 1) + m - 1 - (m - 1)) (by omega) (by omega) (by omega) (by omega)
        exact O.neg (O.asym c) (he _ (m - 1) (by omega) (by omega) (by omega) (by omega))
      · exact kas_desc_tru f _ _ _ h (by omega) (by omega) (dsc_last hn O (by omega) hd (O.asym c)) (one _)
    | false =>
      simp only [Bool.false_eq_true, if_false]
      refine ⟨h.lt hn _, h.lt hn _, ?_⟩
      cases d : lt (p.getD (m - 1) 0) (p.getD m 0) with
      | true => simp only [if_true]; exact ⟨h, h1, by show m ≤ n; omega, hd, he⟩
      | false =>
        simp only [Bool.false_eq_true, if_false]
        refine kas_desc_tru f _ _ _ h (by omega) (by omega) (dsc_last hn O (by omega) hd d) fun i j a b a' b' => ?_
        by_cases hi : i < m
        · by_cases hj : j < m
          · exact he i j (by omega) hi (by omega) hj
          · have ej : j = m := by omega
            subst ej
            exact O.neg d (he i (j - 1) (by omega) hi (by omega) (by omega))
        · have ei : i = m := by omega
          subst ei
          by_cases hj : j < i
          · exact O.neg (he (i - 1) j (by omega) (by omega) (by omega) hj) c
          · have ej : j = i := by omega
            rw [ej]; exact O.irr _
theorem kas_tail3_tru {p : Array Nat} {m : Nat} (h : PermR n p) (h1 : 1 ≤ m) (h2 : m ≤ n) (hd : Dsc lt p m) : (kas_tail3 m n p).Tru n lt fun r => PermR n r.2 ∧ Srt lt r.2 r.1 ∧ r.1 ≤ n ∧ 1 ≤ r.1 := by
  refine (kas_asc_tru hn O (h.rev 0 m) _ _ h1 fun i j hij hj => ?_).bind fun r zq32 => by obtain ⟨a, b, c, _⟩ := zq32; exact (⟨h.rev 0 m, a, by omega, by show 1 ≤ r; omega⟩)
  rw [rev_at (by rw [h.size]; omega), rev_at (by rw [h.size]; omega), if_pos (by omega), if_pos (by omega)]
  exact hd _ _ (by omega) (by omega)
theorem kas_descPart_tru {p : Array Nat} {m : Nat} (h : PermR n p) (h1 : 1 ≤ m) (h2 : m < n) (hd : Dsc lt p (m + 1)) : (kas_descPart m n p).Tru n lt fun r => PermR n r.2 ∧ Srt lt r.2 r.1 ∧ r.1 ≤ n ∧ 1 ≤ r.1 := by
  refine (kas_desc_tru hn O _ p _ _ h (by omega) (by omega) hd fun i j a b c d => ?_).bind fun r ⟨a, b, c, d, e⟩ => ?_
  · have e1 : i = m := by omega
    have e2 : j = m := by omega
    rw [e1, e2]; exact O.irr _
  · split
    · exact kas_tail3_tru hn O (PermR.rev a _ _) (by omega) c (dsc_rev hn O a c d e).1
    · exact kas_tail3_tru hn O a (by omega) c d
theorem kas_count_tru {p : Array Nat} (h : PermR n p) : (kas_count n p).Tru n lt fun r => PermR n r.2 ∧ Srt lt r.2 r.1 ∧ r.1 ≤ n ∧ 1 ≤ r.1 := by
  refine (kas_asc_tru hn O h _ _ (Nat.le_refl _) fun i j a b => by omega).bind fun m zr6496 => ?_
  obtain ⟨a, b, c, d⟩ := zr6496
  split
  · exact ⟨h, a, by show m ≤ n; omega, b⟩
  · rename_i hne
    have hne : m ≠ n := fun e => hne (by simp [e])
    have hlt : lt (p.getD m 0) (p.getD (m - 1) 0) = true := by
      rcases d with d | d
      · omega
      · exact d
    split
    · refine ⟨h.lt hn _, h.lt hn _, ?_⟩
      cases e : lt (p.getD 0 0) (p.getD (m - 1) 0) with
      | true => simp only [if_true]; exact ⟨h, a, by show m ≤ n; omega, b⟩
      | false =>
        simp only [Bool.false_eq_true, if_false]
        have ev : ∀ i j, i < m → j < m → lt (p.getD i 0) (p.getD j 0) = false := fun i j hi hj => by
          -- j <= m-1 <= 0 <= i
          have u1 : lt (p.getD (m - 1) 0) (p.getD j 0) = false := by
            by_cases q : j = m - 1
            · rw [q]; exact O.irr _
            · exact a j (m - 1) (by omega) (by omega)
          have u2 : lt (p.getD i 0) (p.getD 0 0) = false := by
            by_cases q : i = 0
            · rw [q]; exact O.irr _
            · exact a 0 i (by omega) hi
          exact O.neg (O.neg u1 e) u2
        refine kas_descPart_tru hn O (h.rev _ _) b (by omega) (dsc_step hn O (fun i j hij hj => ?_) fun i hi => ?_)
        · rw [rev_at (by rw [h.size]; omega), rev_at (by rw [h.size]; omega), if_pos (by omega), if_pos (by omega)]
          exact ev _ _ (by omega) (by omega)
        · rw [rev_at (by rw [h.size]; omega), rev_at (by rw [h.size]; omega), if_pos (by omega), if_neg (by omega)]
          exact O.neg (O.asym hlt) (ev _ (m - 1) (by omega) (by omega))
    · have e1 : m = 1 := by omega
      subst e1
      refine kas_descPart_tru hn O h b (by omega) (dsc_step hn O (fun i j a b => by omega) fun i hi => ?_)
      have : i = 1 - 1 := by omega
      rw [this]
      exact O.asym hlt
theorem kas_place_tru {p : Array Nat} {k : Nat} (h : PermR n p) (hs : Srt lt p k) : ∀ (f l r : Nat), r - l ≤ f → l ≤ r → r ≤ k → (∀ i, i < l → lt (p.getD k 0) (p.getD i 0) = false) → (∀ i, r ≤ i → i < k → lt (p.getD k 0) (p.getD i 0) = true) →
    (kas_place p k f l r).Tru n lt fun a => a ≤ k ∧ (∀ i, i < a → lt (p.getD k 0) (p.getD i 0) = false) ∧ ∀ i, a ≤ i → i < k → lt (p.getD k 0) (p.getD i 0) = true
  | 0, l, r, hf, hlr, hrk, h1, h2 => ⟨by show l ≤ k; omega, h1, fun i hi hk => h2 i (by omega) hk⟩
  | f + 1, l, r, hf, hlr, hrk, h1, h2 => by
    unfold kas_place
    split
    · exact ⟨by show l ≤ k; omega, h1, fun i hi hk => h2 i (by omega) hk⟩
    · refine ⟨h.lt hn _, h.lt hn _, ?_⟩
      cases c : lt (p.getD k 0) (p.getD ((l + r) / 2) 0) with
      | true =>
        simp only [if_true]
        refine kas_place_tru h hs f _ _ (by omega) (by omega) (by omega) h1 fun i hi hk => ?_
        by_cases e : i = (l + r) / 2
        · rw [e]; exact c
        · cases z : lt (p.getD k 0) (p.getD i 0) with
          | true => rfl
          | false => exact absurd ((O.neg (hs _ i (show (l + r) / 2 < i by omega) hk) z).symm.trans c) (by decide)
      | false =>
        simp only [Bool.false_eq_true, if_false]
        refine kas_place_tru h hs f _ _ (by omega) (by omega) (by omega) (fun i hi => ?_) h2
        by_cases e : i = (l + r) / 2
        · rw [e]; exact c
        · exact O.neg (hs i _ (show i < (l + r) / 2 by omega) (by omega)) c
theorem kas_bin_tru : ∀ (f : Nat) (p : Array Nat) (k : Nat), PermR n p → k + f = n → Srt lt p k → (kas_bin f p k).Tru n lt fun r => PermR n r ∧ Srt lt r n
  | 0, p, k, h, e, hs => ⟨h, (show k = n by omega) ▸ hs⟩
  | f + 1, p, k, h, e, hs => (kas_place_tru hn O h hs k 0 k (by omega) (by omega) (Nat.le_refl _) (fun i hi => by omega) (fun i a b => by omega)).bind fun l ⟨a, b, c⟩ => by
    refine kas_bin_tru f _ _ (h.bub _ _) (by omega) fun i j hij hj => ?_
    have hz := h.size
    rw [bub_at (by omega) (by omega), bub_at (by omega) (by omega)]
    have ekl : k - (k - l) = l := by omega
    rw [ekl]
    by_cases hjl : j = l
    · rw [if_pos hjl, if_neg (by omega), if_neg (by omega)]
      exact b i (by omega)
    · rw [if_neg hjl]
      by_cases hj2 : l < j ∧ j ≤ k
      · rw [if_pos hj2]
        by_cases hil : i = l
        · rw [if_pos hil]
          exact O.asym (c (j - 1) (by omega) (by omega))
        · rw [if_neg hil]
          by_cases hi2 : l < i ∧ i ≤ k
          · rw [if_pos hi2]
            exact hs _ _ (by omega) (by omega)
          · rw [if_neg hi2]
            by_cases q : i = j - 1
            · omega
            · exact hs _ _ (by omega) (by omega)
      · rw [if_neg hj2, if_neg (by omega), if_neg (by omega)]
        exact hs _ _ hij (by omega)
theorem kas_sort_tru : (kas_sort n).Tru n lt fun r => PermR n r ∧ Srt lt r n := by
  refine (kas_count_tru hn O (p := List.toArray (List.range n)) (by show (List.range n).toArray.toList.Perm _; simp)).bind fun r ⟨a, b, c, d⟩ => ?_
  have e : max r.1 1 = r.1 := by omega
  rw [e]
  split
  · exact kas_bin_tru hn O _ _ _ a (by omega) b
  · have : r.1 = n := by omega
    rw [this] at b
    exact ⟨a, b⟩
end
end PySem.W
set_option Elab.async false
set_option linter.all false
set_option maxRecDepth 100000
namespace PySem.W
open PySem PySem.Calls PyProof.Rows
inductive Ky where
  | s (x : Str) | i (n : Int) | r (l : List Int)
noncomputable def Ky.tag : Ky → Nat | .s _ => 0 | .i _ => 1 | .r _ => 2
noncomputable def Ky.lt : Ky → Ky → Bool
  | .s x, .s y => decide (x.cps.toList < y.cps.toList)
  | .i a, .i b => decide (a < b)
  | .r l, .r m => decide (l < m)
  | .s _, .i _ => true
  | .s _, .r _ => true
  | .i _, .r _ => true
  | _, _ => false
noncomputable def Ky.le (a b : Ky) : Prop := b.lt a = false
theorem Ky.asym : ∀ {a b : Ky}, a.lt b = true → b.lt a = false
  | .s x, .s y, h => by simp only [Ky.lt, decide_eq_true_eq, decide_eq_false_iff_not] at h ⊢; exact fun z => List.lt_irrefl _ (List.lt_trans h z)
  | .i x, .i y, h => by simp only [Ky.lt, decide_eq_true_eq, decide_eq_false_iff_not] at h ⊢; omega
  | .r x, .r y, h => by simp only [Ky.lt, decide_eq_true_eq, decide_eq_false_iff_not] at h ⊢; exact fun z => List.lt_irrefl _ (List.lt_trans h z)
  | .s _, .i _, _ => rfl
  | .s _, .r _, _ => rfl
  | .i _, .r _, _ => rfl
  | .i _, .s _, h => by cases h
  | .r _, .s _, h => by cases h
  | .r _, .i _, h => by cases h
theorem Ky.le_trans : ∀ {a b c : Ky}, a.le b → b.le c → a.le c
  | .s x, .s y, .s z, h, g => by simp only [Ky.le, Ky.lt, decide_eq_false_iff_not] at h g ⊢; exact List.le_trans (show x.cps.toList ≤ y.cps.toList from h) (show y.cps.toList ≤ z.cps.toList from g)
  | .i x, .i y, .i z, h, g => by simp only [Ky.le, Ky.lt, decide_eq_false_iff_not] at h g ⊢; omega
  | .r x, .r y, .r z, h, g => by simp only [Ky.le, Ky.lt, decide_eq_false_iff_not] at h g ⊢; exact List.le_trans (show x ≤ y from h) (show y ≤ z from g)
  | .s _, _, .i _, _, _ => rfl
  | .s _, _, .r _, _, _ => rfl
  | .i _, _, .r _, _, _ => rfl
  | .i _, .s _, _, h, _ => by cases h
  | .r _, .s _, _, h, _ => by cases h
  | .r _, .i _, _, h, _ => by cases h
  | _, .i _, .s _, _, g => by cases g
  | _, .r _, .s _, _, g => by cases g
  | _, .r _, .i _, _, g => by cases g
theorem Ky.le_antisymm : ∀ {a b : Ky}, a.le b → b.le a → a = b
  | .s x, .s y, h, g => by
    simp only [Ky.le, Ky.lt, decide_eq_false_iff_not] at h g
    have := List.le_antisymm (show x.cps.toList ≤ y.cps.toList from h) (show y.cps.toList ≤ x.cps.toList from g)
    cases x
    cases y
    congr 1
    congr 1
    exact Array.toList_inj.mp this
  | .i x, .i y, h, g => by simp only [Ky.le, Ky.lt, decide_eq_false_iff_not] at h g; congr 1; omega
  | .r x, .r y, h, g => by simp only [Ky.le, Ky.lt, decide_eq_false_iff_not] at h g; congr 1; exact List.le_antisymm (show x ≤ y from h) (show y ≤ x from g)
  | .s _, .i _, _, g => by cases g
  | .s _, .r _, _, g => by cases g
  | .i _, .r _, _, g => by cases g
  | .i _, .s _, h, _ => by cases h
  | .r _, .s _, h, _ => by cases h
  | .r _, .i _, h, _ => by cases h
noncomputable def ltK (ks : List Ky) (i j : Nat) : Bool := (ks.getD i (.i 0)).lt (ks.getD j (.i 0))
theorem ltK_ord (ks : List Ky) : Ord (ltK ks) := ⟨fun h => Ky.asym h, fun h g => Ky.le_trans h g⟩
noncomputable def VKy (h : Heap) (v : Value) : Ky → Prop
  | .s x => ∃ t, v = .str x t
  | .i n => ∃ t, v = .int n t
  | .r l => ∃ a its, v = .ref a ∧ IsTup h a its.toArray ∧ IntsAre its l
theorem VKy.keep {h h' : Heap} {v : Value} : ∀ {k : Ky}, VKy h v k → (∀ b o, h.get? b = some o → h'.get? b = some o) → VKy h' v k
  | .s _, x, _ => x
  | .i _, x, _ => x
  | .r _, ⟨a, its, e, ⟨o, q, c⟩, z⟩, k => ⟨a, its, e, ⟨o, k _ _ q, c⟩, z⟩
noncomputable def lexB : List Int → List Int → Bool → Bool
  | a :: l, b :: m, f => if a == b then lexB l m f else decide (a < b)
  | _, _, f => f
theorem lexB_lt : ∀ (l m : List Int), lexB l m (decide (l.length < m.length)) = decide (l < m)
  | [], [] => by simp [lexB]
  | [], b :: m => by simp [lexB]
  | a :: l, [] => by simp [lexB]
  | a :: l, b :: m => by
    have ih := lexB_lt l m
    unfold lexB
    have e : decide ((a :: l).length < (b :: m).length) = decide (l.length < m.length) := by simp
    rw [e]
    by_cases h : a = b
    · subst h
      rw [if_pos (by simp), ih]
      exact decide_eq_decide.mpr (by rw [List.cons_lt_cons_iff]; simp)
    · rw [if_neg (by simpa using h)]
      exact decide_eq_decide.mpr (by rw [List.cons_lt_cons_iff]; simp [h])
section
variable {prog : Program} {w : World} {A : Around} {E : Value → Shared → Prop} {s : Shared}
theorem kat_ints {fin : Bool} {Q : Bool → Shared → Prop} : ∀ {us vs : List Value} {l m : List Int} (i : Nat), IntsAre us l → IntsAre vs m → Q (lexB l m fin) s → KatLex prog w A true fin Q (us.zip vs) i s
  | _, _, _, _, i, .nil, _, h => kat_nil (by simpa [lexB] using h)
  | _, _, _, _, i, .cons _ _ _, .nil, h => kat_nil (by simpa [lexB] using h)
  | _, _, _, _, i, .cons a t (vs := us) (ns := l) hu, .cons b t' (vs := vs) (ns := m) hv, h => by
    unfold lexB at h
    refine kat_cons (wpAny_eqBool_int ?_)
    cases e : a == b with
    | true =>
      rw [e] at h
      exact kat_yes (kat_ints (i + 1) hu hv (by simpa using h))
    | false =>
      rw [e] at h
      have h' : Q (decide (a < b)) s := by simpa using h
      refine kat_no ?_
      cases i with
      | zero => exact oneLt_int h'
      | succ i => exact kat_one _ _ (lt_int h')
noncomputable def kindFor (t : Nat) : SortKind := if t = 2 then tuples' true else oneType'
theorem ky_lt {x y : Value} {a b : Ky} {Q : Bool → Shared → Prop} (hx : VKy s.heap x a) (hy : VKy s.heap y b) (ht : a.tag = b.tag) (h : Q (a.lt b) s) : wpAny (model prog w) A (keyLt' (kindFor a.tag) x y) Q E s := by
  cases a with
  | s p =>
    cases b <;> first | cases ht | skip
    obtain ⟨t, rfl⟩ := hx
    obtain ⟨t', rfl⟩ := hy
    show wpAny _ _ (keyLt' oneType' _ _) _ _ _
    rw [keyLt'_oneType]
    exact oneLt_str h
  | i p =>
    cases b <;> first | cases ht | skip
    obtain ⟨t, rfl⟩ := hx
    obtain ⟨t', rfl⟩ := hy
    show wpAny _ _ (keyLt' oneType' _ _) _ _ _
    rw [keyLt'_oneType]
    exact oneLt_int h
  | r p =>
    cases b <;> first | cases ht | skip
    obtain ⟨c, us, rfl, ⟨o, e, ec, n, ed⟩, hu⟩ := hx
    obtain ⟨c', us', rfl, ⟨o', e', ec', n', ed'⟩, hu'⟩ := hy
    show wpAny _ _ (keyLt' (tuples' true) _ _) _ _ _
    refine kat_lt e ed e' ed' (kat_ints 0 hu hu' ?_)
    have e1 : us.toArray.size = p.length := by rw [List.size_toArray, hu.length]
    have e2 : us'.toArray.size = _ := (by rw [List.size_toArray, hu'.length])
    rw [e1, e2, lexB_lt]
    exact h
theorem ky_strs {h : Heap} : ∀ {vs : List Value} {ks : List Ky}, PySem.Paired (VKy h) vs ks → (∀ k ∈ ks, k.tag = 0 ∧ k ≠ .r []) → ∃ ss, StrsAre vs ss
  | _, _, .nil, _ => ⟨[], .nil⟩
  | _, _, .cons (a := v) (b := k) r t, hk => by
    obtain ⟨ss, e⟩ := ky_strs t fun k h => hk k (List.mem_cons_of_mem _ h)
    have := (hk k List.mem_cons_self).1
    cases k with
    | s x => obtain ⟨t, rfl⟩ := r; exact ⟨x :: ss, .cons x t e⟩
    | i x => cases this
    | r x => cases this
theorem ky_ints {h : Heap} : ∀ {vs : List Value} {ks : List Ky}, PySem.Paired (VKy h) vs ks → (∀ k ∈ ks, k.tag = 1 ∧ k ≠ .r []) → ∃ ss, IntsAre vs ss
  | _, _, .nil, _ => ⟨[], .nil⟩
  | _, _, .cons (a := v) (b := k) r t, hk => by
    obtain ⟨ss, e⟩ := ky_ints t fun k h => hk k (List.mem_cons_of_mem _ h)
    have := (hk k List.mem_cons_self).1
    cases k with
    | i x => obtain ⟨t, rfl⟩ := r; exact ⟨x :: ss, .cons x t e⟩
    | s x => cases this
    | r x => cases this
theorem ky_tups {h : Heap} : ∀ {vs : List Value} {ks : List Ky}, PySem.Paired (VKy h) vs ks → (∀ k ∈ ks, k.tag = 2 ∧ k ≠ .r []) → ∃ fs, fs.length = vs.length ∧ KatTups h vs fs ∧ ∀ f ∈ fs, ∃ n t, f = Value.int n t
  | _, _, .nil, _ => ⟨[], rfl, .nil, fun _ h => by simp at h⟩
  | _, _, .cons (a := v) (b := k) r t, hk => by
    obtain ⟨fs, e0, e, hf⟩ := ky_tups t fun k h => hk k (List.mem_cons_of_mem _ h)
    have := hk k List.mem_cons_self
    cases k with
    | i x => cases this.1
    | s x => cases this.1
    | r x =>
      obtain ⟨a, its, rfl, ⟨o, e1, ec, n, ed⟩, hu⟩ := r
      cases hu with
      | nil => exact absurd rfl this.2
      | cons m t hu =>
        refine ⟨.int m t :: fs, by simp [e0], .cons e1 ec ed (by simp) e, fun f h => ?_⟩
        rcases List.mem_cons.mp h with q | q
        · exact ⟨m, t, q⟩
        · exact hf f q
theorem ky_kind {vs : List Value} {ks : List Ky} {t : Nat} {Q : SortKind → Shared → Prop} (hp : PySem.Paired (VKy s.heap) vs ks) (ht : ∀ k ∈ ks, k.tag = t ∧ k ≠ .r []) (h2 : 2 ≤ vs.length) (h : Q (kindFor t) s) : wpAny (model prog w) A (keyKind' vs.toArray) Q E s := by
  have hl : vs.length = ks.length := PySem.Paired.length hp
  obtain ⟨v1, v2, rest, rfl⟩ : ∃ v1 v2 rest, vs = v1 :: v2 :: rest := by
    match vs, h2 with
    | v1 :: v2 :: rest, _ => exact ⟨v1, v2, rest, rfl⟩
  match t with
  | 0 =>
    obtain ⟨ss, e⟩ := ky_strs hp ht
    rw [keyKind_strs e]
    exact wpAny_pure h
  | 1 =>
    obtain ⟨ss, e⟩ := ky_ints hp ht
    rw [keyKind_ints e]
    exact wpAny_pure h
  | 2 =>
    obtain ⟨fs, e0, e, hf⟩ := ky_tups hp ht
    refine kat_kind (T := .type "int") e (by rw [e0]; simp) (fun v hv => ?_) (by decide) h
    obtain ⟨x, t, rfl⟩ := hf v hv
    exact Looks.of_pure rfl
  | t + 3 =>
    cases hp with
    | cons r _ =>
      rename_i k _ _
      have := (ht k List.mem_cons_self).1
      cases k <;> simp [Ky.tag] at this
theorem paired_at {α β : Type} {R : α → β → Prop} {d : α} {e : β} : ∀ {l : List α} {m : List β} (i : Nat), PySem.Paired R l m → i < l.length → R (l.getD i d) (m.getD i e)
  | _, _, i, .nil, h => by simp at h
  | _, _, 0, .cons r _, _ => by simpa using r
  | _, _, i + 1, .cons _ t, h => by simpa using paired_at (d := d) (e := e) i t (by simpa using h)
theorem sort_run {kvs vs : List Value} {ks : List Ky} {t : Nat} {Q : SortSt → Shared → Prop} (hp : PySem.Paired (VKy s.heap) kvs ks) (hl : kvs.length = vs.length) (ht : ∀ k ∈ ks, k.tag = t ∧ k ≠ .r []) (h2 : 2 ≤ vs.length) (h64 : vs.length < 64)
    (h : ∀ (p : Array Nat) (st : SortSt), p.size = vs.length → arrOf st = p.map (kas_item (kvs.toArray.zip vs.toArray)) → failedOf st = none → PermR vs.length p → Srt (ltK ks) p vs.length → Q st s) :
    wpAny (model prog w) A ((sortRuns').run (SortSt.mk' (kindFor t) (kvs.toArray.zip vs.toArray) #[] 7 none)) (fun r s' => Q r.2 s') E s := by
  refine kat_run (G := fun p s' => PermR vs.length p ∧ Srt (ltK ks) p vs.length ∧ s' = s) hl h2 h64 (fun p st s' a b c zq33 => by obtain ⟨d, e, f⟩ := zq33; exact (by rw [f]; exact h p st a b c d e)) ?_
  refine KasT.Tru.wp (n := vs.length) (P := fun p => PermR vs.length p ∧ Srt (ltK ks) p vs.length) (fun i j C hi hj hC => ?_) (fun p hp => ⟨hp.1, hp.2, rfl⟩) (kas_sort_tru (by omega) (ltK_ord ks))
  unfold kas_ask
  have hkl : kvs.length = ks.length := PySem.Paired.length hp
  have ti : (ks.getD i (.i 0)).tag = t := (ht _ (by rw [List.getD_eq_getElem?_getD, List.getElem?_eq_getElem (by omega)]; simp)).1
  have tj : (ks.getD j (.i 0)).tag = t := (ht _ (by rw [List.getD_eq_getElem?_getD, List.getElem?_eq_getElem (by omega)]; simp)).1
  have := ky_lt (prog := prog) (w := w) (A := A) (E := fun _ _ => False) (Q := C) (s := s) (paired_at (d := Value.none) (e := Ky.i 0) i hp (by omega)) (paired_at (d := Value.none) (e := Ky.i 0) j hp (by omega)) (ti.trans tj.symm) hC
  rw [ti] at this
  exact this
end
end PySem.W
set_option Elab.async false
set_option linter.all false
set_option maxRecDepth 100000
namespace PySem.W
open PySem PySem.Calls PyProof.Rows
theorem _root_.PySem.Paired.mapP' {α β : Type} {F G : α → β → Prop} : ∀ {l₁ : List α} {l₂ : List β}, Paired F l₁ l₂ → (∀ a b, F a b → G a b) → Paired G l₁ l₂
  | _, _, .nil, _ => .nil
  | _, _, .cons r t, f => .cons (f _ _ r) (PySem.Paired.mapP' t f)
section
variable {prog : Program} {w : World} {A : Around} {E : Value → Shared → Prop} {s : Shared}
theorem list_sort_ky {a : Addr} {vs : List Value} {ks : List Ky} {t n : Nat} {P : PySem.Fin → Shared → Prop} (ho : s.heap.get? a = some (seqObj "list" vs.toArray n)) (h64 : vs.length < 64)
    (hp : ∀ h' : Heap, (∀ b o, b ≠ a → s.heap.get? b = some o → h'.get? b = some o) → Paired (VKy h') vs ks) (ht : ∀ k ∈ ks, k.tag = t ∧ k ≠ .r [])
    (h : ∀ p : Array Nat, PermR vs.length p → Srt (ltK ks) p vs.length → P (.done (.ret .none)) { s with heap := sortedHeap s.heap a vs (List.toArray (p.toList.map fun i => vs.getD i Value.none)) }) :
    wpAny (model prog w) A (Builtin.«list.sort» ⟨[.ref a], []⟩) P E s := by
  rw [list_sort_plain]
  have ha : a < s.heap.objs.size := Heap.lt_size ho
  refine wpAny_bind (listItems_at ho rfl ?_)
  refine wpAny_bind (listUpdate_at ho rfl ?_ (by rw [List.size_toArray, sizeLine_eq]; omega) (Nat.zero_le _))
  obtain ⟨e1, ho1⟩ : ∃ e1, (s.heap.update a (Obj.mapSeq fun _ => (#[] : Array Value))).get? a = some (seqObj "list" #[] e1) := ⟨_, get?_update_seq ho (fun _ => #[])⟩
  refine wpAny_bind (seqEpoch_at ho1 rfl ?_)
  refine wpAny_bind (wpAny_newTuple ?_ (by show vs.length ≤ _; rw [sizeLine_eq]; omega))
  refine wpAny_bind (wpAny_newList ?_ (Nat.zero_le _))
  refine wpAny_holding ?_
  have ho6 : (((s.heap.update a (Obj.mapSeq fun _ => (#[] : Array Value))).push (seqObj "tuple" vs.toArray 0)).push (seqObj "list" #[] 0)).get? a = some (seqObj "list" #[] e1) := by
    rw [Heap.get?_push_ne _ _ _ (by rw [size_push', Heap.size_update]; exact Nat.ne_of_lt (Nat.lt_succ_of_lt ha)), Heap.get?_push_ne _ _ _ (by rw [Heap.size_update]; exact Nat.ne_of_lt ha)]
    exact ho1
  have hold : ∀ b o, b ≠ a → s.heap.get? b = some o → (((s.heap.update a (Obj.mapSeq fun _ => (#[] : Array Value))).push (seqObj "tuple" vs.toArray 0)).push (seqObj "list" #[] 0)).get? b = some o := fun b o hb e =>
    Heap.get?_push_of_some _ (Heap.get?_push_of_some _ (by rw [Heap.get?_update_ne _ _ _ _ hb]; exact e))
  show wpAny (model prog w) A _ P E { s with heap := ((s.heap.update a (Obj.mapSeq fun _ => (#[] : Array Value))).push (seqObj "tuple" vs.toArray 0)).push (seqObj "list" #[] 0) }
  dsimp only
  by_cases h2 : vs.toArray.size < 2
  · rw [if_pos h2, if_pos h2]
    refine wpAny_bind (wpAny_pure ?_)
    rw [StateT.run_pure]
    refine wpAny_bind (wpAny_pure ?_)
    dsimp only
    refine wpAny_bind (seqEpoch_at ho6 rfl ?_)
    refine wpAny_bind (listUpdate_at ho6 rfl ?_ (hsz2 := by rw [Array.size_map]; show (pairsOf vs).size ≤ _; rw [pairsOf_size, sizeLine_eq]; omega))
    simp only [bne_self_eq_false, Bool.false_eq_true, if_false]
    have e : Array.map (fun (x : Value × Value) => x.2) (vs.toArray.zip vs.toArray) = List.toArray ((List.toArray (List.range vs.length)).toList.map fun i => vs.getD i Value.none) := by
      apply Array.toList_inj.mp
      rw [Array.toList_map, Array.toList_zip]
      show List.map _ (List.zip vs vs) = _
      rw [List.map_snd_zip (Nat.le_refl _)]
      apply List.ext_getElem?
      intro i
      by_cases hi : i < vs.length
      · simp [hi]
      · simp [hi]
    have := h (List.toArray (List.range vs.length)) (by show (List.range _).toArray.toList.Perm _; simp) fun i j a b => by rw [List.size_toArray] at h2; omega
    rw [← e] at this
    exact wpAny_pure this
  · rw [if_neg h2, if_neg h2]
    have h2' : 2 ≤ vs.length := by rw [List.size_toArray] at h2; omega
    have hp' := hp _ hold
    refine wpAny_bind (ky_kind (t := t) (s := { s with heap := ((s.heap.update a (Obj.mapSeq fun _ => (#[] : Array Value))).push (seqObj "tuple" vs.toArray 0)).push (seqObj "list" #[] 0) }) hp' ht h2' ?_)
    refine wpAny_bind (wpAny_mono (sort_run (kvs := vs) (vs := vs) (s := { s with heap := ((s.heap.update a (Obj.mapSeq fun _ => (#[] : Array Value))).push (seqObj "tuple" vs.toArray 0)).push (seqObj "list" #[] 0) })
      (Q := fun st s' => ∃ p : Array Nat, p.size = vs.length ∧ arrOf st = p.map (kas_item (vs.toArray.zip vs.toArray)) ∧ failedOf st = none ∧ PermR vs.length p ∧ Srt (ltK ks) p vs.length ∧ s' = { s with heap := ((s.heap.update a (Obj.mapSeq fun _ => (#[] : Array Value))).push (seqObj "tuple" vs.toArray 0)).push (seqObj "list" #[] 0) })
      hp' rfl ht h2' h64 fun p st a1 a2 a3 a4 a5 => ⟨p, a1, a2, a3, a4, a5, rfl⟩) ?_ fun _ _ e => e)
    rintro ⟨⟨⟩, st'⟩ s' ⟨p, hps, har, hf, hperm, hsrt, rfl⟩
    dsimp only
    have hout := kat_snds (ks := vs) (vs := vs) rfl har
    have hsz : (List.toArray (p.toList.map fun i => vs.getD i Value.none)).size = vs.length := by rw [List.size_toArray, List.length_map, Array.length_toList, hps]
    rw [hout]
    refine wpAny_bind (seqEpoch_at ho6 rfl ?_)
    refine wpAny_bind (listUpdate_at ho6 rfl ?_ (Nat.zero_le _) (Nat.le_trans (Nat.le_of_eq hsz) (by rw [sizeLine_eq]; omega)))
    rw [hf]
    simp only [bne_self_eq_false, Bool.false_eq_true, if_false]
    exact wpAny_pure (h p hperm hsrt)
theorem sorted_ky {u : Value} {vs : List Value} {ks : List Ky} {t : Nat} {Q : Value → Shared → Prop}
    (hcol : ∀ Q' : List Value → Shared → Prop, (∀ (h' : Heap) (tk : Nat), (∀ b o, s.heap.get? b = some o → h'.get? b = some o) → s.heap.objs.size ≤ h'.objs.size → Q' vs { s with heap := h', toks := tk }) → wpAny (model prog w) A.in1 (collect u) Q' E s)
    (h64 : vs.length < 64) (hp : Paired (VKy s.heap) vs ks) (ht : ∀ k ∈ ks, k.tag = t ∧ k ≠ .r [])
    (h : ∀ (h' : Heap) (q tk c : Nat) (p : Array Nat), PermR vs.length p → Srt (ltK ks) p vs.length → s.heap.objs.size ≤ q → (∀ b o, s.heap.get? b = some o → h'.get? b = some o) → h'.get? q = some (seqObj "list" (List.toArray (p.toList.map fun i => vs.getD i Value.none)) c) → Q (.ref q) { s with heap := h', toks := tk }) :
    wpAny (model prog w) A (call (.builtin "sorted") [u]) Q E s := by
  refine Calls.call_function_entry kind_sorted plain_sorted entry_sorted (args_sorted1 _) ?_
  unfold Builtin.«sorted»
  refine wpAny_bind (m := checkCount "sorted" 1 1 _) (wpAny_pure ?_)
  refine wpAny_bind (hcol _ fun h1 tk hk hz => ?_)
  refine wpAny_bind (wpAny_newList ?_ (by rw [sizeLine_eq]; omega))
  have hoL : (h1.push (seqObj "list" vs.toArray 0)).get? h1.objs.size = some (seqObj "list" vs.toArray 0) := Heap.get?_push_size _ rfl
  have keep : ∀ b o, s.heap.get? b = some o → (h1.push (seqObj "list" vs.toArray 0)).get? b = some o := fun b o q => Heap.get?_push_of_some _ (hk b o q)
  show wpAny _ _ _ _ _ { s with heap := h1.push (seqObj "list" vs.toArray 0), toks := tk }
  refine wpAny_bind (wpAny_holding (wpAny_call_entry slot_list_sort ⟨_, hoL, rfl⟩ entry_list_sort (list_sort_ky (t := t) (ks := ks) hoL h64 (fun h' hold => Paired.mapP' hp fun v k z => z.keep fun b o e => hold b o (Nat.ne_of_lt (Nat.lt_of_lt_of_le (Heap.lt_size e) hz)) (keep b o e)) ht fun p a1 a2 => ⟨_, rfl, ?_⟩) (args_list_sort _)))
  obtain ⟨e, he⟩ := sortedHeap_at (vs := vs) (out := List.toArray (p.toList.map fun i => vs.getD i Value.none)) hoL
  refine wpAny_pure ⟨_, rfl, h _ _ tk e p a1 a2 hz (fun b o eb => ?_) he⟩
  have hb := Heap.lt_size (hk b o eb)
  rw [sortedHeap_old (Nat.ne_of_lt hb) (by rw [size_push']; exact Nat.lt_succ_of_lt hb)]
  exact keep b o eb
end
end PySem.W
set_option Elab.async false
set_option linter.all false
set_option maxRecDepth 100000
namespace PySem.W
open PySem PySem.Calls PyProof.Rows
section
variable {prog : Program} {w : World} {A : Around} {E : Value → Shared → Prop} {s : Shared} {name qual : Str} {params : Arguments} {body : Expr} {scope : Scope} {clos : List (Str × Addr)} {x : Str}
end
end PySem.W
namespace L2
open PySem PySem.Spec PyProof.Rows
noncomputable def FnLT (K : PySem.W.Frag) (mg : Str → Option Value) (x : Str) (st : Stmt) (ps : List Str) (P : Addr) : Prop :=
  ∃ f fd c, Fun K x x st f fd ∧ fd.code = .ref c ∧ PySem.W.codeHdIn K c P = true ∧ mg x = some (.ref f) ∧ Binds K fd ps []
section
variable {P : Program} {w : World} {K : PySem.W.Frag} {mg : Str → Option Value} {base : Heap}
theorem FnLT.l {x : Str} {st : Stmt} {ps : List Str} {pt : Addr} (F : FnLT K mg x st ps pt) : FnL K mg x st ps := let ⟨f, fd, _, a, _, _, m, b⟩ := F; ⟨f, fd, a, m, b⟩
end
section
variable {X : Cx} {pins : List (Addr × Obj)} {σ : St} {H : Hp} {s : Shared}
end
end L2
set_option Elab.async false
set_option linter.all false
set_option maxRecDepth 100000
namespace L2
open PySem PySem.Spec PyProof.Rows
open PySem.W (Ky VKy PermR Srt ltK)
noncomputable def KyV (H : Hp) (v : V) : Ky → Prop
  | .s x => v = .str x
  | .i n => v = .int n
  | .r l => ∃ a, v = .ref a ∧ H a = some (.tup (l.map V.int))
section
variable {prog : Program} {w : World} {A : Around} {E : Value → Shared → Prop} {s : Shared}
theorem col_heap (s : Shared) (us : List Value) : (∀ b o, s.heap.get? b = some o → ((s.heap.push (seqObj "list" #[] 0)).update s.heap.objs.size (Obj.mapSeq (· ++ us.toArray))).get? b = some o) ∧ s.heap.objs.size ≤ ((s.heap.push (seqObj "list" #[] 0)).update s.heap.objs.size (Obj.mapSeq (· ++ us.toArray))).objs.size := by
  refine ⟨fun b o e => ?_, ?_⟩
  · have hlt : b < s.heap.objs.size := Heap.lt_size e
    rw [Heap.get?_update_ne _ _ _ _ (Nat.ne_of_lt hlt), Heap.get?_push_ne _ _ _ (Nat.ne_of_lt hlt)]
    exact e
  · rw [Heap.size_update, size_push']; omega
theorem col_tup {t : Addr} {us : List Value} (ht : s.heap.IsTuple t us.toArray) (hn : us.length ≤ 1000) (Q' : List Value → Shared → Prop)
    (k : ∀ (h' : Heap) (tk : Nat), (∀ b o, s.heap.get? b = some o → h'.get? b = some o) → s.heap.objs.size ≤ h'.objs.size → Q' us { s with heap := h', toks := tk }) : wpAny (model prog w) A (collect (.ref t)) Q' E s :=
  collect_tup ht hn (k _ s.toks (col_heap s us).1 (col_heap s us).2)
theorem col_lst {t : Addr} {us : List Value} (ht : s.heap.IsList t us.toArray) (hn : us.length ≤ 1000) (Q' : List Value → Shared → Prop)
    (k : ∀ (h' : Heap) (tk : Nat), (∀ b o, s.heap.get? b = some o → h'.get? b = some o) → s.heap.objs.size ≤ h'.objs.size → Q' us { s with heap := h', toks := tk }) : wpAny (model prog w) A (collect (.ref t)) Q' E s :=
  collect_list ht (k _ s.toks (col_heap s us).1 (col_heap s us).2) (by rw [sizeLine_eq]; omega)
end
theorem vals_at : ∀ {xs : List V} {us : List Value} (i : Nat), Vals xs us → i < xs.length → RelV (xs.getD i .non) (us.getD i .none)
  | _, _, i, .nil, h => by simp at h
  | _, _, 0, .cons r _, _ => by simpa using r
  | _, _, i + 1, .cons _ t, h => by simpa using vals_at i t (by simpa using h)
theorem vals_pick {xs : List V} {us : List Value} (r : Vals xs us) : ∀ {l : List Nat}, (∀ i ∈ l, i < xs.length) → Vals (l.map fun i => xs.getD i .non) (l.map fun i => us.getD i .none)
  | [], _ => .nil
  | i :: l, h => .cons (vals_at i r (h i List.mem_cons_self)) (vals_pick r fun j hj => h j (List.mem_cons_of_mem _ hj))
theorem permR_mem {n : Nat} {p : Array Nat} (h : PermR n p) : ∀ i ∈ p.toList, i < n := fun i hi => List.mem_range.mp (h.mem_iff.mp hi)
theorem permR_pick {α : Type} {zs : List α} {d : α} {p : Array Nat} (h : PermR zs.length p) : (p.toList.map fun i => zs.getD i d).Perm zs := by
  have e : ((List.range zs.length).map fun i => zs.getD i d) = zs := by
    apply List.ext_getElem?
    intro i
    by_cases hi : i < zs.length
    · simp [hi]
    · simp [hi]
  have := h.map fun i => zs.getD i d
  rwa [e] at this
theorem srt_pick {α : Type} {f : α → Ky} {zs : List α} {d : α} {p : Array Nat} (hp : PermR zs.length p) (h : Srt (ltK (zs.map f)) p zs.length) : ((p.toList.map fun i => zs.getD i d).map f).Pairwise Ky.le := by
  rw [List.map_map, List.pairwise_map, List.pairwise_iff_getElem]
  intro i j hi hj hij
  have hz := hp.size
  have hi' : i < p.size := by simpa using hi
  have hj' : j < p.size := by simpa using hj
  have q := h i j hij (by omega)
  have e1 : p.getD i 0 = p[i] := by simp [Array.getD, hi']
  have e2 : p.getD j 0 = p[j] := by simp [Array.getD, hj']
  have l1 : p[i] < zs.length := permR_mem hp _ (by simp)
  have l2 : p[j] < zs.length := permR_mem hp _ (by simp)
  unfold ltK at q
  rw [e1, e2] at q
  simp only [List.getD_eq_getElem?_getD, List.getElem?_map, List.getElem?_eq_getElem l1, List.getElem?_eq_getElem l2, Option.map_some, Option.getD_some] at q
  unfold Ky.le
  simp only [Function.comp, Array.getElem_toList, List.getD_eq_getElem?_getD, List.getElem?_eq_getElem l1, List.getElem?_eq_getElem l2, Option.getD_some]
  exact q
section
variable {X : Cx}
noncomputable def rSortG : List V → Hp → VK → Prop := fun xs H Q => ∃ p, xs = [.ref p] ∧ ∃ zs : List (V × Ky), (H p = some (.lst (zs.map (·.1))) ∨ H p = some (.tup (zs.map (·.1)))) ∧ zs.length < 64 ∧ (∀ z ∈ zs, KyV H z.1 z.2) ∧ (∃ t : Nat, ∀ z ∈ zs, z.2.tag = t ∧ z.2 ≠ .r []) ∧
  ∀ (q : Addr) (zs' : List (V × Ky)), H q = none → zs'.Perm zs → (zs'.map (·.2)).Pairwise Ky.le → Q (.ref q) (upd H q (.lst (zs'.map (·.1))))
theorem ky_pairs {pins : List (Addr × Obj)} {σ : St} {H : Hp} {s : Shared} (I : Inv X pins σ H s) : ∀ {zs : List (V × Ky)} {us : List Value}, Vals (zs.map (·.1)) us → (∀ z ∈ zs, KyV H z.1 z.2) → Paired (VKy s.heap) us (zs.map (·.2))
  | [], _, r, _ => by cases r; exact .nil
  | (v, k) :: zs, _, r, h => by
    cases r with
    | cons r1 r2 =>
      refine .cons ?_ (ky_pairs I r2 fun z hz => h z (List.mem_cons_of_mem _ hz))
      have hk := h (v, k) List.mem_cons_self
      cases k with
      | s x => cases (show v = .str x from hk); exact r1
      | i x => cases (show v = .int x from hk); exact r1
      | r l =>
        obtain ⟨a, e, ha⟩ := hk
        have e : v = .ref a := e
        subst e
        obtain ⟨its, rv, pl, _⟩ := I.tuple (SqT.of ha)
        exact ⟨a, its, r1, pl, intsAre_of rv⟩
theorem call_sortG : CallR X (.builtin "sorted") rSortG := by
  intro pins s σ H xs us Q I r h
  obtain ⟨p, rfl, zs, hp, hl, hk, ⟨t, ht⟩, q⟩ := h
  obtain ⟨u, rfl, ru⟩ := vals1 r
  cases ru
  have main : ∀ its : List Value, Vals (zs.map (·.1)) its → (∀ Q' : List Value → Shared → Prop, (∀ (h' : Heap) (tk : Nat), (∀ b o, s.heap.get? b = some o → h'.get? b = some o) → s.heap.objs.size ≤ h'.objs.size → Q' its { s with heap := h', toks := tk }) → wpAny (model X.prog X.w) X.A.in1 (collect (.ref p)) Q' X.xe s) →
      wpAny (model X.prog X.w) X.A (call (.builtin "sorted") [.ref p]) (EP X pins σ Q) X.xe s := by
    intro its rv hcol
    have hlen := rv.length
    rw [List.length_map] at hlen
    refine PySem.W.sorted_ky (t := t) (ks := zs.map (·.2)) hcol (by omega) (ky_pairs I rv hk) (fun k hm => ?_) fun h' a tk c pm hpm hsr hz hold he => ?_
    · obtain ⟨z, hz, rfl⟩ := List.mem_map.mp hm
      exact ht z hz
    · rw [← hlen] at hpm hsr
      have hpz : PermR zs.length pm := hpm
      have hpm' : PermR (zs.map (·.1)).length pm := by rw [List.length_map]; exact hpm
      have e1 : (pm.toList.map fun i => zs.getD i (V.non, Ky.i 0)).map (·.1) = pm.toList.map fun i => (zs.map (·.1)).getD i .non := by
        rw [List.map_map]
        refine List.map_congr_left fun i hi => ?_
        have := permR_mem hpz i hi
        simp [List.getD_eq_getElem?_getD, this]
      have new : ObjOk X.prog X.w (upd H a (.lst ((pm.toList.map fun i => zs.getD i (V.non, Ky.i 0)).map (·.1)))) h' a (.lst ((pm.toList.map fun i => zs.getD i (V.non, Ky.i 0)).map (·.1))) := by
        refine ⟨?_, _, c, ?_, he⟩
        · rw [List.length_map, List.length_map, Array.length_toList, hpz.size]; exact Nat.le_of_lt (small1000 (by omega))
        · rw [e1]; exact vals_pick rv (permR_mem hpm')
      exact ⟨.ref a, _, I.laid (t' := tk) hold hz new, rfl, q a _ (I.hok.fresh hz) (permR_pick hpz) (srt_pick hpz hsr)⟩
  rcases hp with hp | hp
  · obtain ⟨its, rv, pl, _⟩ := I.list (SqL.of hp)
    have hlen := rv.length
    rw [List.length_map] at hlen
    exact main its rv fun Q' k => col_lst pl.isList (by omega) Q' k
  · obtain ⟨its, rv, pl, _⟩ := I.tuple (SqT.of hp)
    have hlen := rv.length
    rw [List.length_map] at hlen
    exact main its rv fun Q' k => col_tup (show s.heap.IsTuple p its.toArray from pl) (by omega) Q' k
end
end L2
set_option Elab.async false
set_option linter.all false
set_option maxRecDepth 100000
namespace PySem.W
open PySem PySem.Calls PyProof.Rows
section
variable {prog : Program} {w : World} {A : Around} {E : Value → Shared → Prop} {s : Shared}
end
end PySem.W
namespace L2
open PySem PySem.Spec PyProof.Rows
open PySem.W (Ky VKy PermR Srt ltK)
section
variable {X : Cx}
end
end L2
set_option Elab.async false
set_option linter.all false
set_option maxRecDepth 100000
namespace L2
open PySem PySem.Spec PyProof.Rows
section
variable {X : Cx} {e1 : Expr} {ta : TA} {p p2 pos pos2 : Pos}
end
end L2
set_option Elab.async false
set_option linter.all false
set_option maxRecDepth 100000
namespace PySem
open L2 PyProof.Rows PySem.Calls
section
variable {prog : Program} {w : World} {A : Around} {E : Value → Shared → Prop} {s : Shared}
noncomputable def b01 (b : Bool) : Int := if b then 1 else 0
theorem pyHash_bool {b : Bool} {Q : Int → Shared → Prop} (h : Q (hashInt (b01 b)) { s with toks := s.toks + 1 }) : wpAny (model prog w) A (pyHash (.bool b)) Q E s := by
  have hT : s.TypeIs (.bool b) "bool" := rfl
  show wpAny _ _ (pyHashByItsType (.bool b)) Q E s
  unfold pyHashByItsType
  refine wpAny_bind ?_
  rw [cRoomFor, if_neg (by rw [show [Value.bool b].any Value.onHeap = false from rfl]; exact Bool.false_ne_true)]
  refine wpAny_pure (wpAny_bind (wpAny_specialOf hT PySem.F.slot_bool_hash.lookup ?_))
  refine wpAny_ite_split (fun z => by cases z) fun _ => ?_
  refine wpAny_bind (wpAny_specialOf hT PySem.F.slot_bool_hash.lookup ?_)
  refine wpAny_ite_split (fun z => by cases z) fun _ => ?_
  refine wpAny_bind (wpAny_callSpecialIfBoundUnlessNone?_slot hT PySem.F.slot_bool_hash (wpAny_call_entry PySem.F.slot_bool_hash hT PySem.F.entry_int_hash ?_ (PySem.F.args_int_hash_1 _)))
  have hr := rawHash_range (b01 b)
  cases b with
  | true =>
    refine (show wpAny _ _ (do ret (← mkInt (rawHash 1))) _ _ s from wpAny_ret_mkInt ?_)
    show wpAny _ _ (if (decide (-(2 : Int) ^ 63 ≤ rawHash 1) && decide (rawHash 1 < 2 ^ 63)) = true then _ else _) Q E _
    rw [if_pos (by decide)]
    exact wpAny_pure h
  | false =>
    refine (show wpAny _ _ (do ret (← mkInt (rawHash 0))) _ _ s from wpAny_ret_mkInt ?_)
    show wpAny _ _ (if (decide (-(2 : Int) ^ 63 ≤ rawHash 0) && decide (rawHash 0 < 2 ^ 63)) = true then _ else _) Q E _
    rw [if_pos (by decide)]
    exact wpAny_pure h
noncomputable def anyIs : Option Key → Value → Bool
  | none, .none => true
  | some (.inl i), .bool b => b01 b == i
  | some k, v => keyIs k v
  | _, _ => false
theorem anyIs_shape {k : Option Key} {v : Value} (h : anyIs k v = true) : (k = none ∧ v = .none) ∨ (∃ i t, k = some (.inl i) ∧ v = .int i t) ∨ (∃ x t, k = some (.inr x) ∧ v = .str x t) ∨ ∃ b, k = some (.inl (b01 b)) ∧ v = .bool b := by
  cases k with
  | none => cases v <;> first | exact .inl ⟨rfl, rfl⟩ | cases h
  | some k =>
    have main : keyIs k v = true → (some k = none ∧ v = .none) ∨ (∃ i t, some k = some (.inl i) ∧ v = .int i t) ∨ (∃ x t, some k = some (.inr x) ∧ v = .str x t) ∨ ∃ b, some k = some (.inl (b01 b)) ∧ v = .bool b := fun h => by
      rcases keyIs_shape h with ⟨i, t, rfl, rfl⟩ | ⟨x, t, rfl, rfl⟩
      · exact .inr (.inl ⟨i, t, rfl, rfl⟩)
      · exact .inr (.inr (.inl ⟨x, t, rfl, rfl⟩))
    cases v with
    | bool b =>
      cases k with
      | inl i => exact .inr (.inr (.inr ⟨b, by rw [eq_of_beq (show (b01 b == i) = true from h)], rfl⟩))
      | inr x => exact main h
    | _ => exact main (by cases k <;> exact h)
theorem anyIs_of {k : Key} {v : Value} (h : keyIs k v = true) : anyIs (some k) v = true := by
  rcases keyIs_shape h with ⟨i, t, rfl, rfl⟩ | ⟨x, t, rfl, rfl⟩ <;> exact h
noncomputable def anyH (w : World) : Option Key → Int | none => hashNone | some k => keyH w k
theorem anyEq {a b : Option Key} {u v : Value} {Q : Bool → Shared → Prop} (hu : anyIs a u = true) (hv : anyIs b v = true) (h : Q (decide (a = b)) s) : wpAny (model prog w) A (eqBool u v) Q E s := by
  have ii : ∀ i j : Int, decide (some (Sum.inl i : Key) = some (.inl j)) = (i == j) := fun i j => by rw [Bool.eq_iff_iff]; simp
  rcases anyIs_shape hu with ⟨rfl, rfl⟩ | ⟨i, t, rfl, rfl⟩ | ⟨x, t, rfl, rfl⟩ | ⟨c, rfl, rfl⟩ <;> rcases anyIs_shape hv with ⟨rfl, rfl⟩ | ⟨j, t', rfl, rfl⟩ | ⟨y, t', rfl, rfl⟩ | ⟨d, rfl, rfl⟩
  · exact eqBool_none (by simpa using h)
  · exact SeqAt.EqAt.none_int j t' _ _ _ _ (by simpa using h)
  · exact SeqAt.EqAt.none_str y t' _ _ _ _ (by simpa using h)
  · exact SeqAt.EqAt.none_bool d _ _ _ _ (by simpa using h)
  · exact SeqAt.EqAt.int_none i t _ _ _ _ (by simpa using h)
  · rw [ii] at h; exact wpAny_eqBool_int h
  · exact SeqAt.EqAt.int_str i t y t' _ _ _ _ (by simpa using h)
  · rw [ii] at h; exact SeqAt.EqAt.int_bool i t d _ _ _ _ h
  · exact SeqAt.EqAt.str_none x t _ _ _ _ (by simpa using h)
  · exact SeqAt.EqAt.str_int x t j t' _ _ _ _ (by simpa using h)
  · refine wpAny_eqBool_str ?_
    have e : decide (x = y) = decide (some (Sum.inr x : Key) = some (.inr y)) := decide_eq_decide.mpr ⟨fun e => by rw [e], fun e => Sum.inr.inj (Option.some.inj e)⟩
    rw [e]; exact h
  · exact SeqAt.EqAt.str_bool x t d _ _ _ _ (by simpa using h)
  · exact SeqAt.EqAt.bool_none c _ _ _ _ (by simpa using h)
  · rw [ii] at h; exact SeqAt.EqAt.bool_int c j t' _ _ _ _ h
  · exact SeqAt.EqAt.bool_str c y t' _ _ _ _ (by simpa using h)
  · rw [ii] at h
    refine SeqAt.EqAt.bool_bool c d _ _ _ _ ?_
    have e : (c == d) = (b01 c == b01 d) := by cases c <;> cases d <;> rfl
    rw [e]; exact h
noncomputable def anyKind (prog : Program) (w : World) : KeyKind prog w (Option Key) where
  is := anyIs
  hash := anyH w
  inj := fun v a b ha hb => by
    rcases anyIs_shape ha with ⟨rfl, rfl⟩ | ⟨i, t, rfl, rfl⟩ | ⟨x, t, rfl, rfl⟩ | ⟨c, rfl, rfl⟩ <;> rcases anyIs_shape hb with ⟨rfl, e⟩ | ⟨j, u, rfl, e⟩ | ⟨y, u, rfl, e⟩ | ⟨d, rfl, e⟩ <;> first | rfl | (cases e; rfl) | cases e
  byValue := fun k v h => by
    rcases anyIs_shape h with ⟨rfl, rfl⟩ | ⟨i, t, rfl, rfl⟩ | ⟨x, t, rfl, rfl⟩ | ⟨c, rfl, rfl⟩ <;> rfl
  pyHash := fun hv h => by
    rcases anyIs_shape hv with ⟨rfl, rfl⟩ | ⟨i, t, rfl, rfl⟩ | ⟨x, t, rfl, rfl⟩ | ⟨c, rfl, rfl⟩
    · exact pyHash_none h
    · exact wpAny_pyHash_int h
    · exact wpAny_pyHash_str h
    · exact pyHash_bool h
  eqBool := fun hu hv h => anyEq hu hv h
  «strs» := fun k x t v h => by
    rcases anyIs_shape h with ⟨rfl, e⟩ | ⟨i, u, rfl, e⟩ | ⟨y, u, rfl, e⟩ | ⟨c, rfl, e⟩
    · cases e
    · cases e
    · cases e
      show anyIs (some (.inr x)) v = v.isStr x
      cases v <;> rfl
    · cases e
end
end PySem
set_option Elab.async false
set_option linter.all false
set_option maxRecDepth 100000
namespace L2
open PySem PySem.Spec PyProof.Rows
noncomputable def AV : Option Key → V → Prop
  | none, v => v = .non
  | some (.inl i), v => v = .int i ∨ ∃ b, v = .bl b ∧ b01 b = i
  | some (.inr x), v => v = .str x
theorem av_of {k : Option Key} {u : Value} (h : anyIs k u = true) : ∃ v, RelV v u ∧ AV k v := by
  rcases anyIs_shape h with ⟨rfl, rfl⟩ | ⟨i, t, rfl, rfl⟩ | ⟨x, t, rfl, rfl⟩ | ⟨b, rfl, rfl⟩
  · exact ⟨.non, rfl, rfl⟩
  · exact ⟨.int i, ⟨t, rfl⟩, .inl rfl⟩
  · exact ⟨.str x, ⟨t, rfl⟩, rfl⟩
  · exact ⟨.bl b, rfl, .inr ⟨b, rfl, rfl⟩⟩
theorem av_is (P : Program) (w : World) {k : Option Key} {v : V} {u : Value} (h : AV k v) (r : RelV v u) : anyIs k u = true := by
  cases k with
  | none => cases (show v = .non from h); cases (show u = Value.none from r); rfl
  | some k =>
    cases k with
    | inl i =>
      rcases h with rfl | ⟨b, rfl, rfl⟩
      · obtain ⟨t, rfl⟩ := r
        exact anyIs_of (kV_is (P := P) (w := w) (k := .inl i) ⟨t, rfl⟩)
      · cases (show u = Value.bool b from r)
        show (b01 b == b01 b) = true
        simp
    | inr x =>
      cases (show v = .str x from h)
      obtain ⟨t, rfl⟩ := r
      exact anyIs_of (kV_is (P := P) (w := w) (k := .inr x) ⟨t, rfl⟩)
noncomputable def upA (kvs : List (Key × V)) : List (Option Key × V) := kvs.map fun x => (some x.1, x.2)
noncomputable def ADict (P : Program) (w : World) (a : Addr) (o : Obj) (kvs : List (Option Key × V)) (h : Heap) : Prop := h.get? a = some o ∧ (a == sysModules) = false ∧ kvs.length ≤ 1000 ∧ ∃ vs, KV kvs vs ∧ h.DictOf (anyKind P w) a vs
noncomputable def DictA (P : Program) (w : World) (a : Addr) (o : Obj) (kvs : List (Option Key × V)) : HO := .ext (ADict P w a o kvs)
theorem ADict.ok {P : Program} {w : World} {H : Hp} {h : Heap} {a : Addr} {o : Obj} {kvs : List (Option Key × V)} (x : ADict P w a o kvs h) : ObjOk P w H h a (DictA P w a o kvs) :=
  ⟨x, ⟨o, x.1⟩, fun h1 h2 z k => ⟨k _ z.1, z.2.1, z.2.2.1, let ⟨vs, r, d⟩ := z.2.2.2; ⟨vs, r, d.at k⟩⟩⟩
theorem pairs_any {P : Program} {w : World} : ∀ {es : List DictEntry} {vs : List (Key × Value)}, Pairs (mixKind P w) es vs → Pairs (anyKind P w) es (vs.map fun x => (some x.1, x.2))
  | _, _, .nil => .nil
  | _, _, .cons h1 h2 h3 => .cons (anyIs_of h1) h2 (pairs_any h3)
theorem dict_any {P : Program} {w : World} {h : Heap} {a : Addr} {vs : List (Key × Value)} (d : h.DictOf (mixKind P w) a vs) : h.DictOf (anyKind P w) a (vs.map fun x => (some x.1, x.2)) := by
  obtain ⟨o, es, ep, h1, h2, h3, h4, h5, h6⟩ := d
  refine ⟨o, es, ep, h1, h2, h3, fun e he => ?_, pairs_any h5, ?_⟩
  · obtain ⟨k, k1, k2⟩ := h4 e he
    exact ⟨some k, anyIs_of k1, k2⟩
  · rw [List.map_map]
    have : ((fun x : Option Key × Value => x.1) ∘ fun x : Key × Value => (some x.1, x.2)) = some ∘ Prod.fst := rfl
    rw [this, ← List.map_map]
    exact List.pairwise_map.mpr (h6.imp fun ne e => ne (Option.some.inj e))
theorem kv_any : ∀ {kvs : List (Key × V)} {vs : List (Key × Value)}, KV kvs vs → KV (upA kvs) (vs.map fun x => (some x.1, x.2))
  | _, _, .nil => .nil
  | _, _, .cons h t => .cons ⟨congrArg some h.1, h.2⟩ (kv_any t)
theorem kv_get {κ : Type} : ∀ {kvs : List (κ × V)} {vs : List (κ × Value)} {i : Nat} {k : κ} {v : V}, KV kvs vs → kvs[i]? = some (k, v) → ∃ u, vs[i]? = some (k, u) ∧ RelV v u
  | _, _, _, _, _, .nil, e => by simp at e
  | _, _, 0, k, v, .cons (b := b) h _, e => by
    simp only [List.getElem?_cons_zero, Option.some.injEq] at e
    subst e
    obtain ⟨k', u⟩ := b
    have e : k = k' := h.1
    subst e
    exact ⟨u, rfl, h.2⟩
  | _, _, i + 1, k, v, .cons _ t, e => by simpa using kv_get (i := i) t (by simpa using e)
theorem putA_len {kvs : List (Option Key × V)} {k : Option Key} {v : V} : (putK kvs k v).length ≤ kvs.length + 1 := by
  unfold putK
  split <;> simp
section
variable {X : Cx} {oe ie value : Expr} {pos pos' : Pos} {td ty tv : TE}
noncomputable def sDPX (P : Program) (w : World) (td ty tv : TE) : TS := fun D σ H => tv σ H fun v H1 => td σ H1 fun x H2 => ty σ H2 fun y H3 => ∃ a, x = .ref a ∧ ∃ kvs, H3 a = some (.dK kvs) ∧ kvs.length < 900 ∧
  ((∃ k, y = kV k ∧ D.nx σ (upd H3 a (.dK (putK kvs k v)))) ∨ ∃ k : Option Key, AV k y ∧ ∀ o, D.nx σ (upd H3 a (DictA P w a o (putK (upA kvs) k v))))
theorem ps_dpX (hu : X.A.units + 1 < cLine) (ho : PE X oe td) (hi : PE X ie ty) (hv : PE X value tv) (hs : swapsWith value (some (.Subscript oe ie pos')) pos.line X.env = pure false) :
    PS X (.Assign [.Subscript oe ie pos'] value pos) (sDPX X.prog X.w td ty tv) := by
  intro pins s σ H D I h
  refine wpAny_Assign_Subscript (thn (hv pins s σ H _ I h) fun r s1 ⟨v, H1, I1, rv, q1⟩ => thn (ho pins s1 σ H1 _ I1 q1) fun u s2 ⟨x, H2, I2, rx, q2⟩ => thn (hi pins s2 σ H2 _ I2 q2) fun iv s3 zr7227 => ?_) hs
  obtain ⟨y, H3, I3, ry, a, ex, kvs, ha, hl, q3⟩ := zr7227
  subst ex
  obtain rfl : u = Value.ref a := rx
  rcases q3 with ⟨k, ey, q3⟩ | ⟨k, hk, q3⟩
  · have g : DPut H3 a y v (upd H3 a (.dK (putK kvs k v))) := .inl ⟨kvs, k, ha, ey, small1000 (by omega), rfl⟩
    exact d_setItem hu I3 g ry rv fun s4 I4 => ⟨σ, _, I4, q3⟩
  · obtain ⟨hz, hd, vs, rel, dd⟩ := dk_of I3.hok ha
    have hlen := rel.length
    refine wpAny_setItem_pairs (knd := anyKind X.prog X.w) (k := k) (hsz := by rw [List.length_map, ← hlen]; exact hz) (av_is X.prog X.w hk ry) (dict_any dd) fun h' dd' hsb => ?_
    obtain ⟨o', es, ep, g', r'⟩ := id dd'
    have hpl : (putK (upA kvs) k v).length ≤ (upA kvs).length + 1 := putA_len
    have hul : (upA kvs).length = kvs.length := by unfold upA; simp
    exact ⟨σ, _, d_write (ob := DictA X.prog X.w a o' (putK (upA kvs) k v)) I3 (by rw [ha]; exact True.intro) hsb ⟨o', g'⟩ (ADict.ok ⟨g', hd, by omega, _, (kv_any rel).put k rv, dd'⟩), q3 o'⟩
noncomputable def tDGA (P : Program) (w : World) (td ty : TE) : TE := fun σ H Q => td σ H fun x H1 => ty σ H1 fun y H2 => ∃ a, x = .ref a ∧ ∃ o kvs, H2 a = some (DictA P w a o kvs) ∧ ∃ k, AV k y ∧ ∃ v, valV kvs k = some v ∧ Q v H2
noncomputable def ItA (P : Program) (w : World) (a : Addr) (o : Obj) (kvs : List (Option Key × V)) : It :=
  ⟨fun i H => H a = some (DictA P w a o kvs) ∧ i < kvs.length, fun i H x H' => H' = H ∧ ∃ k v, kvs[i]? = some (k, v) ∧ AV k x, fun i H => H a = some (DictA P w a o kvs) ∧ kvs.length ≤ i⟩
theorem turn_A {P : Program} {w : World} {K : PySem.W.Frag} {tg : Expr} (a it : Addr) (o : Obj) (kvs : List (Option Key × V)) (ep : Nat) (hep : ∃ es, o.data = .dict es ep) : Turn P w K tg (ItA P w a o kvs) [it] it (fun i h => h.IsKeyIter it a i kvs.length ep) where
  mem := by simp
  obj := fun i h st b hb => by
    obtain rfl : b = it := by simpa using hb
    obtain ⟨ob, e, c, d⟩ := st
    exact ⟨ob, e, fun v z => by rw [d] at z; cases z⟩
  keep := fun i h h' st k => st.at fun ob e => k it (by simp) ob e
  item := by
    intro X hP hw hK hc i pins s σ H E I hf st ⟨ha, hi⟩
    subst hP hw hK
    obtain ⟨⟨ho, hd, hz, vs, rel, od, es, ep', hod, hr⟩, _⟩ := (show ObjOk X.prog X.w H s.heap a (DictA X.prog X.w a o kvs) from I.hok a _ ha)
    obtain rfl : o = od := Option.some.inj (ho.symm.trans hod)
    obtain ⟨es0, he0⟩ := hep
    obtain rfl : ep' = ep := by
      have := hr.2.1
      rw [he0] at this
      cases this
      rfl
    have hlen := rel.length
    obtain ⟨k, v, hkv⟩ : ∃ k v, kvs[i]? = some (k, v) := ⟨kvs[i].1, kvs[i].2, by simp [hi]⟩
    obtain ⟨u, hu, ru⟩ := kv_get rel hkv
    obtain ⟨f0, f1, f2, f3, f4, f5⟩ := hf it (by simp)
    have st' : s.heap.IsKeyIter it a i vs.length ep' := by rw [← hlen]; exact st
    refine wpAny_pyNext_dict_item (knd := anyKind X.prog X.w) (k := k) (v := u) st' ⟨o, es, ho, hr⟩ hu fun key h' hkk st2 sb => ?_
    have I1 : Inv X pins σ H { s with heap := h' } := I.turned (t' := s.toks) (fun b ob hb e => (sb.2 b hb).trans e) f0 f1 f3 f4 f5
    rw [← hlen] at st2
    obtain ⟨ob, e, c, d⟩ := id st2
    obtain ⟨x, rx, hx⟩ := av_of hkk
    exact ⟨key, rfl, go_of (s := { s with heap := h' }) e c d (by decide) ⟨x, H, I1, rx, ⟨rfl, k, v, hkv, hx⟩, st2, fun b hb => (hf b hb).1⟩⟩
  done := by
    intro X hP hw hK hc i pins s σ H E I hf st ⟨ha, hi⟩
    subst hP hw hK
    obtain ⟨⟨ho, hd, hz, vs, rel, od, es, ep', hod, hr⟩, _⟩ := (show ObjOk X.prog X.w H s.heap a (DictA X.prog X.w a o kvs) from I.hok a _ ha)
    obtain rfl : o = od := Option.some.inj (ho.symm.trans hod)
    obtain ⟨es0, he0⟩ := hep
    obtain rfl : ep' = ep := by
      have := hr.2.1
      rw [he0] at this
      cases this
      rfl
    have hlen := rel.length
    obtain ⟨f0, f1, f2, f3, f4, f5⟩ := hf it (by simp)
    have st' : s.heap.IsKeyIter it a i vs.length ep' := by rw [← hlen]; exact st
    exact wpAny_pyNext_dict_end (knd := anyKind X.prog X.w) (I.ok.hd hc) st' ⟨o, es, ho, hr⟩ (List.getElem?_eq_none_iff.mpr (by omega)) fun h' eb => ⟨rfl, I.turned (t' := s.toks) (fun b ob hb e => eb b ob hb e) f0 f1 f3 f4 f5⟩
  self := fun _ _ _ _ _ st h => wpAny_pyIter_keyiter st h
noncomputable def iA (P : Program) (w : World) (tl : TE) : TI := fun σ H R => tl σ H fun x H1 => ∃ a, x = .ref a ∧ ∃ o kvs, H1 a = some (DictA P w a o kvs) ∧ R (ItA P w a o kvs) H1
theorem pi_A {l tg : Expr} {tl : TE} (hl : PE X l tl) : PI X tg l (iA X.prog X.w tl) := by
  intro pins s σ H R I h
  refine thn (hl pins s σ H _ I h) fun v s1 zr7291 => ?_
  obtain ⟨x, H1, I1, r1, a, e, o, kvs, hq, q⟩ := zr7291
  subst e
  cases r1
  obtain ⟨⟨ho, hd, hz, vs, rel, od, es, ep, hod, hr⟩, _⟩ := (show ObjOk X.prog X.w H1 s1.heap a (DictA X.prog X.w a o kvs) from I1.hok a _ hq)
  obtain rfl : o = od := Option.some.inj (ho.symm.trans hod)
  refine wpAny_pyIter_dict (knd := anyKind X.prog X.w) hd ⟨o, es, ho, hr⟩ ?_
  have hlen := rel.length
  have I2 : Inv X pins σ H1 { s1 with heap := s1.heap.push { cls := .type "dict_keyiterator", data := .fields #[.ref a, .int 0 0, .int vs.length 0, .int ep 0] } } := I1.kept (t' := s1.toks) fun b o e => Heap.get?_push_of_some _ e
  refine ⟨s1.heap.objs.size, [s1.heap.objs.size], _, _, _, rfl, I2, turn_A a _ o kvs ep ⟨es, hr.2.1⟩, ⟨_, Heap.get?_push_size _ rfl, rfl, by rw [hlen]; rfl⟩, fun b hb => ?_, q⟩
  obtain rfl : b = s1.heap.objs.size := by simpa using hb
  have hfr : H1 s1.heap.objs.size = none := I1.hok.fresh (Nat.le_refl _)
  exact ⟨hfr, (I1.fpOk (Nat.le_refl _) hfr).2⟩
theorem for_A {P : Program} {w : World} {a : Addr} {o : Obj} {kvs : List (Option Key × V)} {g : TG} {tb : TS} {D : Ends} {σ : St} {H : Hp} (Pv : Nat → St → Hp → Prop) (h0 : Pv 0 σ H) (hl : ∀ i σ H, Pv i σ H → H a = some (DictA P w a o kvs))
    (hs : ∀ (i : Nat) k v x σ H, kvs[i]? = some (k, v) → AV k x → Pv i σ H → g x σ H fun σ2 H2 => tb { D with nx := Pv (i + 1), ct := Pv (i + 1), bk := D.nx } σ2 H2) (hd : ∀ σ H, Pv kvs.length σ H → D.nx σ H) : ForG (ItA P w a o kvs) g tb D σ H := by
  refine ⟨fun i m σ H => m = kvs.length - i ∧ i ≤ kvs.length ∧ Pv i σ H, ⟨kvs.length, by simp, Nat.zero_le _, h0⟩, ?_⟩
  rintro i m σ H ⟨rfl, hi, p⟩
  have q := hl i σ H p
  by_cases hlt : i < kvs.length
  · refine .inr ⟨⟨q, hlt⟩, Pv (i + 1), fun σ' H' p' => ⟨kvs.length - (i + 1), by omega, rfl, hlt, p'⟩, fun x H' y => ?_⟩
    obtain ⟨rfl, k, v, h1, h2⟩ := y
    exact hs i k v x σ _ h1 h2 p
  · have e : i = kvs.length := by omega
    subst e
    exact .inl ⟨⟨q, Nat.le_refl _⟩, hd σ H p⟩
noncomputable def rListD : List V → Hp → VK → Prop := fun xs H Q => ∃ p, xs = [.ref p] ∧ ∃ kvs, H p = some (.dK kvs) ∧ ∀ l, H l = none → Q (.ref l) (upd H l (.lst (kvs.map fun x => kV x.1)))
theorem items_rel {κ : Type} {R : κ → V → Prop} {is : κ → Value → Prop} (f : κ → V) (hf : ∀ k u, is k u → RelV (f k) u) : ∀ {kvs : List (κ × V)} {vs : List (κ × Value)} {acc : List Value}, KV kvs vs → acc.length = vs.length → (∀ (j : Nat) u, acc[j]? = some u → ∃ k x, vs[j]? = some (k, x) ∧ is k u) → Vals (kvs.map fun x => f x.1) acc
  | [], _, acc, r, hl, _ => by
    unfold KV at r
    cases r
    cases acc with
    | nil => exact .nil
    | cons _ _ => simp at hl
  | x :: kvs, _, acc, r, hl, h => by
    unfold KV at r
    cases r with
    | cons h0 hr =>
      cases acc with
      | nil => simp at hl
      | cons u acc =>
        obtain ⟨k, y, e1, e2⟩ := h 0 u rfl
        simp only [List.getElem?_cons_zero, Option.some.injEq] at e1
        subst e1
        refine .cons ?_ (items_rel (R := R) f hf hr (by simpa using hl) fun j u e => by simpa using h (j + 1) u (by simpa using e))
        have e : x.1 = k := h0.1
        show RelV (f x.1) u
        rw [e]
        exact hf k u e2
theorem call_listD (hc : X.calm = true) : CallR X (.type "list") rListD := by
  intro pins s σ H xs us Q I r h
  obtain ⟨p, rfl, kvs, hp, q⟩ := h
  obtain ⟨u, rfl, ru⟩ := vals1 r
  cases ru
  obtain ⟨hz, hd, vs, rel, dd⟩ := dk_of I.hok hp
  obtain ⟨ep, da⟩ := dd.dictAt
  have hlen := rel.length
  refine PySem.W.kdl_call (PySem.W.kdl_dict (knd := mixKind X.prog X.w) (kvs := vs) (ep := ep) hd) (I.ok.hd hc) da (by rw [← hlen]; exact hz) fun h' tk acc c hk hD hacc => ?_
  have hv : Vals (kvs.map fun x => kV x.1) acc.toList := items_rel (R := fun _ _ => True) kV (is := fun k u => (mixKind X.prog X.w).is k u = true) (fun k u e => rel_key e) rel (by rw [Array.length_toList]; exact hacc.1) fun j u e => hacc.2 j u (by rw [← Array.getElem?_toList]; exact e)
  exact ⟨.ref _, _, I.laid (t' := tk) hk (Nat.le_refl _) (show ObjOk X.prog X.w _ _ _ (.lst (kvs.map fun x => kV x.1)) from ⟨by rw [List.length_map]; exact hz, acc.toList, c, hv, by rw [Array.toArray_toList]; exact hD⟩), rfl, q _ (I.hok.fresh (Nat.le_refl _))⟩
noncomputable def tLVals (td : TE) : TE := fun σ H Q => td σ H fun x H1 => ∃ p, x = .ref p ∧ ∃ kvs, H1 p = some (.dK kvs) ∧ ∀ l, H1 l = none → Q (.ref l) (upd H1 l (.lst (kvs.map (·.2))))
theorem vals_rel {κ : Type} : ∀ {kvs : List (κ × V)} {vs : List (κ × Value)} {acc : List Value}, KV kvs vs → acc.length = vs.length → (∀ (j : Nat) u, acc[j]? = some u → ∃ k, vs[j]? = some (k, u)) → Vals (kvs.map (·.2)) acc
  | [], _, acc, r, hl, _ => by
    unfold KV at r
    cases r
    cases acc with
    | nil => exact .nil
    | cons _ _ => simp at hl
  | x :: kvs, _, acc, r, hl, h => by
    unfold KV at r
    cases r with
    | cons h0 hr =>
      cases acc with
      | nil => simp at hl
      | cons u acc =>
        obtain ⟨k, e1⟩ := h 0 u rfl
        simp only [List.getElem?_cons_zero, Option.some.injEq] at e1
        subst e1
        exact .cons h0.2 (vals_rel hr (by simpa using hl) fun j u e => by simpa using h (j + 1) u (by simpa using e))
theorem list_values {knd : Type} [DecidableEq knd] {kd : KeyKind X.prog X.w knd} {pins : List (Addr × Obj)} {σ : St} {H : Hp} {s : Shared} {Q : VK} {a : Addr} {kvs : List (knd × V)} {vs : List (knd × Value)} (hc : X.calm = true) (I : Inv X pins σ H s) (rel : KV kvs vs) (hz : kvs.length ≤ sizeLine) (dd : s.heap.DictOf kd a vs)
    (q : ∀ l, H l = none → Q (.ref l) (upd H l (.lst (kvs.map (·.2))))) : wpAny (model X.prog X.w) X.A (call (.type "list") [.ref s.heap.objs.size]) (EP X pins σ Q) X.xe { s with heap := s.heap.push { cls := .type "dict_values", data := .fields #[.ref a] } } := by
  have dd2 := dd.push { cls := .type "dict_values", data := .fields #[.ref a] }
  obtain ⟨ep, da⟩ := dd2.dictAt
  have hlen := rel.length
  have I2 : Inv X pins σ H { s with heap := s.heap.push { cls := .type "dict_values", data := .fields #[.ref a] } } := I.kept (t' := s.toks) fun b o e => Heap.get?_push_of_some _ e
  refine PySem.W.kdl_call (s := { s with heap := s.heap.push { cls := .type "dict_values", data := .fields #[.ref a] } }) (PySem.W.kdl_values (knd := kd) (d := a) (kvs := vs) (ep := ep)) (I.ok.hd hc) ⟨⟨_, Heap.get?_push_size _ rfl, rfl, rfl⟩, da⟩ (by rw [← hlen]; exact hz) fun h' tk acc c hk hD hacc => ?_
  have hv : Vals (kvs.map (·.2)) acc.toList := vals_rel rel (by rw [Array.length_toList]; exact hacc.1) fun j u e => hacc.2 j u (by rw [← Array.getElem?_toList]; exact e)
  exact ⟨.ref _, _, I2.laid (t' := tk) hk (Nat.le_refl _) (show ObjOk X.prog X.w _ _ _ (.lst (kvs.map (·.2))) from ⟨by rw [List.length_map]; exact hz, acc.toList, c, hv, by rw [Array.toArray_toList]; exact hD⟩), rfl, q _ (I2.hok.fresh (Nat.le_refl _))⟩
theorem pe_lvals {apos cpos : Pos} {p pos : Pos} (hc : X.calm = true) (hg : Gl X "list") (hm : X.mg "list" = none) (ho : PE X oe td) (hbase : attributeBase oe "values" X.env (eval oe X.env) = eval oe X.env := by rfl) (hline : (apos.endLine == cpos.line) = true := by rfl) :
    PE X (.Call (.Name "list" p) [.Call (.Attribute oe "values" apos) [] [] cpos] [] pos) (tLVals td) := by
  intro pins s σ H Q I h
  refine wpAny_Call_Name_kw (ld_blt I hg hm (by decide +kernel : bootBuiltins "list" = some (.type "list")) ?_)
  refine PyProof.Rows.callWith_type1 (Calls.spliced_cons ?_) rfl rfl
  refine wpAny_Call_method0_late hbase hline (thn (ho pins s σ H _ I h) fun v s1 zr7382 => ?_)
  obtain ⟨x, H1, I1, r1, a, ex, kvs, e, q⟩ := zr7382
  subst ex
  cases r1
  obtain ⟨hz, hd, vs, rel, dd⟩ := dk_of I1.hok e
  obtain ⟨t1, t2, _⟩ := isD_at I1 (.inl ⟨_, .inl e⟩)
  refine ⟨"dict", "dict.values", PySem.F.plainAttrs_dict, PySem.F.slot_dict_values, PySem.F.type_dict_values, t1, t2, ?_⟩
  refine method_meetsIn PySem.F.slot_dict_values PySem.F.entry_dict_values rfl (PySem.evalArgs_none ⟨rfl, t1, PySem.F.args_dict_values_1 _, _, meets_dict_values (mixKind X.prog X.w) a hd, ⟨vs, dd⟩, Calls.spliced_nil ?_⟩)
  exact list_values hc I1 rel hz dd q
noncomputable def rListA (P : Program) (w : World) : List V → Hp → VK → Prop := fun xs H Q => ∃ p, xs = [.ref p] ∧ ∃ o kvs, H p = some (DictA P w p o kvs) ∧ ∀ l (ys : List V), H l = none → ys.length = kvs.length → (∀ y ∈ ys, ∃ x ∈ kvs, AV x.1 y) → Q (.ref l) (upd H l (.lst ys))
theorem call_listA (hc : X.calm = true) : CallR X (.type "list") (rListA X.prog X.w) := by
  intro pins s σ H xs us Q I r h
  obtain ⟨p, rfl, o, kvs, hp, q⟩ := h
  obtain ⟨u, rfl, ru⟩ := vals1 r
  cases ru
  obtain ⟨⟨ho, hd, hz, vs, rel, dd⟩, _⟩ := (show ObjOk X.prog X.w H s.heap p (DictA X.prog X.w p o kvs) from I.hok p _ hp)
  obtain ⟨ep, da⟩ := dd.dictAt
  have hlen := rel.length
  refine PySem.W.kdl_call (PySem.W.kdl_dict (knd := anyKind X.prog X.w) (kvs := vs) (ep := ep) hd) (I.ok.hd hc) da (by rw [← hlen]; exact Nat.le_of_lt (small1000 hz)) fun h' tk acc c hk hD hacc => ?_
  have hkm : ∀ {κ : Type} {kvs : List (κ × V)} {vs : List (κ × Value)} {k : κ} {u : Value}, KV kvs vs → (k, u) ∈ vs → ∃ x ∈ kvs, x.1 = k := fun {κ kvs vs k u} r => by
    unfold KV at r
    induction r with
    | nil => intro h; cases h
    | cons h0 _ ih =>
      intro h
      rcases List.mem_cons.mp h with e | h
      · exact ⟨_, List.mem_cons_self, by rw [h0.1, ← e]⟩
      · obtain ⟨x, h1, h2⟩ := ih h
        exact ⟨x, List.mem_cons_of_mem _ h1, h2⟩
  obtain ⟨ys, hys, hya⟩ : ∃ ys, Vals ys acc.toList ∧ ∀ y ∈ ys, ∃ x ∈ kvs, AV x.1 y := by
    have : ∀ l : List Value, (∀ u ∈ l, ∃ v, RelV v u ∧ ∃ x ∈ kvs, AV x.1 v) → ∃ ys, Vals ys l ∧ ∀ y ∈ ys, ∃ x ∈ kvs, AV x.1 y := fun l => by
      induction l with
      | nil => exact fun _ => ⟨[], .nil, by simp⟩
      | cons u l ih =>
        intro h
        obtain ⟨ys, h1, h1'⟩ := ih fun u hu => h u (List.mem_cons_of_mem _ hu)
        obtain ⟨v, h2, h3⟩ := h u List.mem_cons_self
        refine ⟨v :: ys, .cons h2 h1, fun y hy => ?_⟩
        rcases List.mem_cons.mp hy with rfl | hy
        · exact h3
        · exact h1' y hy
    refine this _ fun u hu => ?_
    obtain ⟨j, hj⟩ := List.getElem?_of_mem hu
    obtain ⟨k, x, e0, e⟩ := hacc.2 j u (by rw [← Array.getElem?_toList]; exact hj)
    obtain ⟨v, h1, h2⟩ := av_of e
    obtain ⟨z, hz, ez⟩ := hkm rel (List.mem_of_getElem? e0)
    exact ⟨v, h1, z, hz, by rw [ez]; exact h2⟩
  have hyl : ys.length = kvs.length := by rw [hys.length, Array.length_toList, hacc.1, hlen]
  exact ⟨.ref _, _, I.laid (t' := tk) hk (Nat.le_refl _) (show ObjOk X.prog X.w _ _ _ (.lst ys) from ⟨by rw [hyl]; exact Nat.le_of_lt (small1000 hz), acc.toList, c, hys, by rw [Array.toArray_toList]; exact hD⟩), rfl, q _ ys (I.hok.fresh (Nat.le_refl _)) hyl hya⟩
noncomputable def tLValsA (P : Program) (w : World) (td : TE) : TE := fun σ H Q => td σ H fun x H1 => ∃ p, x = .ref p ∧ ∃ o kvs, H1 p = some (DictA P w p o kvs) ∧ ∀ l, H1 l = none → Q (.ref l) (upd H1 l (.lst (kvs.map (·.2))))
theorem pe_lvalsA {apos cpos : Pos} {p pos : Pos} (hc : X.calm = true) (hg : Gl X "list") (hm : X.mg "list" = none) (ho : PE X oe td) (hbase : attributeBase oe "values" X.env (eval oe X.env) = eval oe X.env := by rfl) (hline : (apos.endLine == cpos.line) = true := by rfl) :
    PE X (.Call (.Name "list" p) [.Call (.Attribute oe "values" apos) [] [] cpos] [] pos) (tLValsA X.prog X.w td) := by
  intro pins s σ H Q I h
  refine wpAny_Call_Name_kw (ld_blt I hg hm (by decide +kernel : bootBuiltins "list" = some (.type "list")) ?_)
  refine PyProof.Rows.callWith_type1 (Calls.spliced_cons ?_) rfl rfl
  refine wpAny_Call_method0_late hbase hline (thn (ho pins s σ H _ I h) fun v s1 zr7436 => ?_)
  obtain ⟨x, H1, I1, r1, a, ex, o, kvs, e, q⟩ := zr7436
  subst ex
  cases r1
  obtain ⟨⟨ho, hd, hz, vs, rel, dd⟩, _⟩ := (show ObjOk X.prog X.w H1 s1.heap a (DictA X.prog X.w a o kvs) from I1.hok a _ e)
  have t1 := dd.typeIs
  have t2 : ∀ b, Value.ref a = .ref b → ∃ ob, s1.heap.get? b = some ob ∧ ob.dict = none := dd.mapOf.noDict
  refine ⟨"dict", "dict.values", PySem.F.plainAttrs_dict, PySem.F.slot_dict_values, PySem.F.type_dict_values, t1, t2, ?_⟩
  refine method_meetsIn PySem.F.slot_dict_values PySem.F.entry_dict_values rfl (PySem.evalArgs_none ⟨rfl, t1, PySem.F.args_dict_values_1 _, _, meets_dict_values (anyKind X.prog X.w) a hd, ⟨vs, dd⟩, Calls.spliced_nil ?_⟩)
  exact list_values hc I1 rel (Nat.le_of_lt (small1000 hz)) dd q
theorem pe_dgA {a b : Expr} (ha : PE X a td) (hb : PE X b ty) (hs : PlainIx b) : PE X (.Subscript a b pos) (tDGA X.prog X.w td ty) := by
  intro pins s σ H Q I h
  refine Subscript_ (thn (ha pins s σ H _ I h) fun v s1 ⟨x, H1, I1, r1, q1⟩ => thn (hb pins s1 σ H1 _ I1 q1) fun u s2 zr7447 => ?_)
  obtain ⟨y, H2, I2, r2, c, ex, o, kvs, hc, k, hk, z, hz, q⟩ := zr7447
  subst ex
  cases r1
  obtain ⟨⟨ho, hd, hz', vs, rel, dd⟩, _⟩ := (show ObjOk X.prog X.w H2 s2.heap c (DictA X.prog X.w c o kvs) from I2.hok c _ hc)
  obtain ⟨w', hw, rw'⟩ := RelO.some_of (v := z) (o := valueAt vs k) (by rw [← hz]; exact rel.val k)
  have t2 : ∀ b, Value.ref c = .ref b → ∃ ob, s2.heap.get? b = some ob ∧ ob.dict = none := dd.mapOf.noDict
  exact subscriptTail_builtinR (x := w') dd.typeIs PySem.F.slot_dict_getitem.lookup (wpAny_getItem_of (av_is X.prog X.w hk r2) dd.mapOf hw ⟨rfl, z, H2, I2.tok _, rw', q⟩) (hs _ _)
noncomputable def tCallV (mg : Str → Option Value) (i : Nat) (y z : Str) (sp sp2 : Sp) (t : TA) : TE := fun σ H Q => ∃ f, σ[i]? = some (some (.ref f)) ∧ ((mg y = some (.ref f) ∧ t σ H fun vs H1 => sp vs H1 Q E0) ∨ (mg z = some (.ref f) ∧ t σ H fun vs H1 => sp2 vs H1 Q E0))
theorem pe_callV {mg : Str → Option Value} (hM : X.mg = mg) {i : Nat} {x : Str} {p pos : Pos} {e : Expr} {es : List Expr} {t : TA} {k k2 : Nat} {y z : Str} {ps ps2 : List Str} {sp sp2 : Sp} (F : Fn X.prog X.w X.K X.mg X.base y k ps sp) (G : Fn X.prog X.w X.K X.mg X.base z k2 ps2 sp2) (hr : Room k X.A) (hr2 : Room k2 X.A)
    (hN : X.N[i]? = some x) (hv : Vis X.env.scope x) (ha : PA X (e :: es) t) (hd : (x == ("__debug__" : Str)) = false := by decide) (hcd : (x == ("__classdict__" : Str)) = false := by decide)
    (he : starEach (e :: es) X.env = (false, eval e X.env) :: starEach es X.env := by rfl) (hpl : (backTo pos (starEach es X.env)).any (·.1) = false := by rfl) :
    PE X (.Call (.Name x p) (e :: es) [] pos) (tCallV mg i y z sp sp2 t) := by
  subst hM
  intro pins s σ H Q I h
  obtain ⟨f, hf, h⟩ := h
  obtain ⟨f1, fd1, F, m1, kp1, b1⟩ := F
  obtain ⟨f2, fd2, G, m2, kp2, b2⟩ := G
  refine wpAny_Call_Name_kw (thn (pe_var hN hv hd hcd pins s σ H (fun v H' => v = .ref f ∧ H' = H) I ⟨_, hf, rfl, rfl⟩) fun v s1 zr7464 => ?_)
  obtain ⟨x1, H1, I1, r1, ex, eH⟩ := zr7464
  subst ex eH
  cases (show v = Value.ref f from r1)
  rcases h with ⟨hm, h⟩ | ⟨hm, h⟩
  · rw [m1] at hm
    cases hm
    exact PySem.W.callWith_K (h₀ := X.base) I.ok.mod.kin kp1 (thn (ha pos pins s1 σ _ _ I1 h) fun us s2 zq34 => by obtain ⟨vs, H2, I2, r, q⟩ := zq34; exact (⟨I2.kIn, run_fn F hr b1 .nil pass0 I2 r (by rw [List.append_nil]; exact q)⟩)) he hpl
  · rw [m2] at hm
    cases hm
    exact PySem.W.callWith_K (h₀ := X.base) I.ok.mod.kin kp2 (thn (ha pos pins s1 σ _ _ I1 h) fun us s2 zq35 => by obtain ⟨vs, H2, I2, r, q⟩ := zq35; exact (⟨I2.kIn, run_fn G hr2 b2 .nil pass0 I2 r (by rw [List.append_nil]; exact q)⟩)) he hpl
end
end L2
set_option Elab.async false
set_option linter.all false
set_option maxRecDepth 100000
set_option maxHeartbeats 4000000
namespace L2
open PySem PySem.Spec PyProof.Rows
section
variable {X : Cx}
noncomputable def Itvs (a : Addr) (o : Obj) (kvs : List (Key × V)) : It :=
  ⟨fun i H => H a = some (.frz o (.dK kvs)) ∧ i < kvs.length, fun i H v H' => H' = H ∧ ∃ k, kvs[i]? = some (k, v), fun i H => H a = some (.frz o (.dK kvs)) ∧ kvs.length ≤ i⟩
theorem turn_vls {P : Program} {w : World} {K : PySem.W.Frag} {tg : Expr} (a it : Addr) (o : Obj) (kvs : List (Key × V)) (ep : Nat) (hep : ∃ es, o.data = .dict es ep) :
    Turn P w K tg (Itvs a o kvs) [it] it (fun i h => h.IsValIter it a i kvs.length ep) where
  mem := by simp
  obj := fun i h st b hb => by
    obtain rfl : b = it := by simpa using hb
    obtain ⟨ob, e, c, d⟩ := st
    exact ⟨ob, e, fun v z => by rw [d] at z; cases z⟩
  keep := fun i h h' st k => by
    obtain ⟨ob, e, c, d⟩ := st
    exact ⟨ob, k it (by simp) _ e, c, d⟩
  item := by
    intro X hP hw hK hc i pins s σ H E In hf st hg
    subst hP hw hK
    obtain ⟨ha, hi⟩ := hg
    obtain ⟨ho, hz, hd, vs, rel, od, es, ep', hod, hr⟩ := (show s.heap.get? a = some o ∧ ObjOk X.prog X.w H s.heap a (.dK kvs) from In.hok a _ ha)
    rw [ho] at hod
    cases hod
    obtain ⟨es0, he0⟩ := hep
    have eep : ep' = ep := by
      have := hr.2.1
      rw [he0] at this
      cases this
      rfl
    subst eep
    have hlen := rel.length
    obtain ⟨k, v, hkv⟩ : ∃ k v, kvs[i]? = some (k, v) := ⟨kvs[i].1, kvs[i].2, by simp [hi]⟩
    obtain ⟨u, hu, ru⟩ := kv_get rel hkv
    obtain ⟨f0, f1, f2, f3, f4, f5⟩ := hf it (by simp)
    have st' : s.heap.IsValIter it a i vs.length ep' := by rw [← hlen]; exact st
    refine wpAny_pyNext_values_item (knd := mixKind X.prog X.w) (v := u) st' ⟨o, es, ho, hr⟩ hu fun h' st2 sb => ?_
    have I1 : Inv X pins σ H { s with heap := h' } := In.turned (t' := s.toks) (fun b ob hb e => (sb.2 b hb).trans e) f0 f1 f3 f4 f5
    rw [← hlen] at st2
    obtain ⟨ob, e, c, d⟩ := id st2
    exact ⟨u, rfl, go_of (s := { s with heap := h' }) e c d (by decide) ⟨v, H, I1, ru, ⟨rfl, k, hkv⟩, st2, fun b hb => (hf b hb).1⟩⟩
  done := by
    intro X hP hw hK hc i pins s σ H E In hf st hg
    subst hP hw hK
    obtain ⟨ha, hi⟩ := hg
    obtain ⟨ho, hz, hd, vs, rel, od, es, ep', hod, hr⟩ := (show s.heap.get? a = some o ∧ ObjOk X.prog X.w H s.heap a (.dK kvs) from In.hok a _ ha)
    rw [ho] at hod
    cases hod
    obtain ⟨es0, he0⟩ := hep
    have eep : ep' = ep := by
      have := hr.2.1
      rw [he0] at this
      cases this
      rfl
    subst eep
    have hlen := rel.length
    obtain ⟨f0, f1, f2, f3, f4, f5⟩ := hf it (by simp)
    have st' : s.heap.IsValIter it a i vs.length ep' := by rw [← hlen]; exact st
    exact wpAny_pyNext_values_end (knd := mixKind X.prog X.w) (In.ok.hd hc) st' ⟨o, es, ho, hr⟩ (List.getElem?_eq_none_iff.mpr (by omega)) fun h' eb => ⟨rfl, In.turned (t' := s.toks) (fun b ob hb e => eb b ob hb e) f0 f1 f3 f4 f5⟩
  self := fun _ _ _ _ _ st h => wpAny_pyIter_valiter st h
theorem wlk_vals {a : Addr} {o : Obj} {kvs : List (Key × V)} : Wlk (Itvs a o kvs) (kvs.map (·.2)) (fun H => H a = some (.frz o (.dK kvs))) :=
  ⟨fun i H h hi => ⟨h, by simpa using hi⟩, fun i H x H' h _ y => by
    obtain ⟨e, k, hk⟩ := y
    exact ⟨by rw [List.getElem?_map, hk]; rfl, e⟩, fun i H h hi => ⟨h, by simpa using hi⟩⟩
noncomputable def iVs (td : TE) : TI := fun σ H R => td σ H fun x H1 => ∃ a, x = .ref a ∧ ∃ kvs, H1 a = some (.dK kvs) ∧ ∀ o, R (Itvs a o kvs) (upd H1 a (.frz o (.dK kvs)))
theorem pi_vals {oe tg : Expr} {td : TE} {apos cpos : Pos} (ho : PE X oe td) (hbase : attributeBase oe "values" X.env (eval oe X.env) = eval oe X.env := by rfl) (hline : (apos.endLine == cpos.line) = true := by rfl) :
    PI X tg (.Call (.Attribute oe "values" apos) [] [] cpos) (iVs td) := by
  intro pins s σ H R I h
  refine wpAny_Call_method0_late hbase hline (thn (ho pins s σ H _ I h) fun v s1 zr7547 => ?_)
  obtain ⟨x, H1, I1, r1, a, ex, kvs, hq, q⟩ := zr7547
  subst ex
  cases r1
  obtain ⟨hz, hd, vs, rel, od, es', ep, hod, hr⟩ := dk_of I1.hok hq
  obtain ⟨t1, t2, _⟩ := isD_at I1 (.inl ⟨_, .inl hq⟩)
  refine ⟨"dict", "dict.values", PySem.F.plainAttrs_dict, PySem.F.slot_dict_values, PySem.F.type_dict_values, t1, t2, ?_⟩
  refine method_meetsIn PySem.F.slot_dict_values PySem.F.entry_dict_values rfl (PySem.evalArgs_none ⟨rfl, t1, PySem.F.args_dict_values_1 _, _, meets_dict_values (mixKind X.prog X.w) a hd, ⟨vs, od, es', ep, hod, hr⟩, ?_⟩)
  have hm : (s1.heap.push { cls := .type "dict_values", data := .fields #[.ref a] }).DictAt (mixKind X.prog X.w) a vs ep := ⟨od, es', Heap.get?_push_of_some _ hod, hr⟩
  refine wpAny_pyIter_values (knd := mixKind X.prog X.w) (s := { s1 with heap := s1.heap.push { cls := .type "dict_values", data := .fields #[.ref a] } }) (d := a) (kvs := vs) (ep := ep) ⟨_, Heap.get?_push_size _ rfl, rfl, rfl⟩ hm ?_
  have hn : ∀ ob u, X.H₀ a ≠ some (.frz ob u) := fun ob u e => by have := I1.base.frzs a ob u e; rw [hq] at this; cases this
  have I2 : Inv X pins σ H1 { s1 with heap := (s1.heap.push { cls := .type "dict_values", data := .fields #[.ref a] }).push { cls := .type "dict_valueiterator", data := .fields #[.ref a, .int 0 0, .int vs.length 0, .int ep 0] } } := I1.kept (t' := s1.toks) fun b o e => Heap.get?_push_of_some _ (Heap.get?_push_of_some _ e)
  have ok2 := I2.hok a _ hq
  have I3 := I2.retag (o' := .frz od (.dK kvs)) hq (by intro y z; cases z) (by intro y z; cases z) hn (by intro y z; cases z) ⟨Heap.get?_push_of_some _ (Heap.get?_push_of_some _ hod), ok2⟩
  have hlen := rel.length
  have hsz : (s1.heap.push { cls := .type "dict_values", data := .fields #[.ref a] }).objs.size = s1.heap.objs.size + 1 := Heap.size_push ..
  refine ⟨_, [(s1.heap.push { cls := .type "dict_values", data := .fields #[.ref a] }).objs.size], _, _, _, rfl, I3, turn_vls a _ od kvs ep ⟨es', hr.2.1⟩, ⟨_, Heap.get?_push_size _ rfl, rfl, by rw [hlen]; rfl⟩, fun b hb => ?_, q od⟩
  have e : b = (s1.heap.push { cls := .type "dict_values", data := .fields #[.ref a] }).objs.size := by simpa using hb
  subst e
  have hle : s1.heap.objs.size ≤ (s1.heap.push { cls := .type "dict_values", data := .fields #[.ref a] }).objs.size := by rw [hsz]; exact Nat.le_succ _
  have hfr : H1 (s1.heap.push { cls := .type "dict_values", data := .fields #[.ref a] }).objs.size = none := I1.hok.fresh hle
  obtain ⟨f0, f1, f2, f3, f4, f5⟩ := I1.fpOk hle hfr
  exact ⟨by rw [upd_ne (fun z => by rw [z, hq] at hfr; cases hfr)]; exact hfr, f1, f2, f3, f4, f5⟩
end
end L2
set_option Elab.async false
set_option linter.all false
set_option maxRecDepth 100000
namespace L2
open PySem PySem.Spec PyProof.Rows
section
variable {X : Cx}
noncomputable def rPairDD (b : Bool) : R2 := fun x y H Q => ∃ a, x = .ref a ∧ ∃ c, y = .ref c ∧ ∃ d1 e1, H a = some (.tup [.ref d1, .ref e1]) ∧ ∃ d2 e2, H c = some (.tup [.ref d2, .ref e2]) ∧ ∃ kvs, H d1 = some (.dK kvs) ∧ H d2 = some (.dK kvs) ∧ (∀ p ∈ kvs, plainV p.2 = true) ∧ ∃ kws, H e1 = some (.dK kws) ∧ H e2 = some (.dK kws) ∧ (∀ p ∈ kws, plainV p.2 = true) ∧ Q (.bl b) H
theorem op_nePDD (hu : X.A.units + 10 < cLine) : OpR X (compareOp .NotEq) (rPairDD false) := by
  intro pins s σ H x y v u Q I rx ry h
  obtain ⟨a, rfl, c, rfl, d1, n1, ha, d2, n2, hc, kvs, h1, h2, hp, kws, h3, h4, hp2, q⟩ := h
  cases rx
  cases ry
  obtain ⟨ia, ra, pa, _⟩ := I.tuple (SqT.of ha)
  obtain ⟨ib, rb, pb, _⟩ := I.tuple (SqT.of hc)
  obtain ⟨u1, u2, rfl, e1, e2⟩ := vals2 ra
  obtain ⟨w1, w2, rfl, f1, f2⟩ := vals2 rb
  cases e1; cases e2; cases f1; cases f2
  exact SeqAt.ne_pairIn pa pb (by omega) (alike_dk I hu h1 h2 hp) (alike_dk I hu h3 h4 hp2) ⟨.bl false, H, I, rfl, q⟩
noncomputable def rIsDk : List V → Hp → VK → Prop := fun xs H Q => ∃ a, xs = [.ref a, .ty "dict"] ∧ ∃ kvs, H a = some (.dK kvs) ∧ Q (.bl true) H
theorem call_isDk : CallR X (.builtin "isinstance") rIsDk := call_isi.imp fun xs H Q zq36 => by obtain ⟨a, e, kvs, ha, q⟩ := zq36; exact (⟨_, _, "dict", _, e, .dK ha, rfl, q⟩)
theorem perm_nd {α : Type} [DecidableEq α] : ∀ {l m : List α}, l.Nodup → (∀ x ∈ l, x ∈ m) → m.length ≤ l.length → l.Perm m
  | [], m, _, _, h => by
    have : m = [] := List.length_eq_zero_iff.mp (by simpa using h)
    rw [this]
  | a :: l, m, hn, hs, hl => by
    rw [List.nodup_cons] at hn
    have ha : a ∈ m := hs a List.mem_cons_self
    have hp : m.Perm (a :: m.erase a) := List.perm_cons_erase ha
    refine (List.Perm.cons a (perm_nd hn.2 (fun x hx => ?_) ?_)).trans hp.symm
    · have := hp.mem_iff.mp (hs x (List.mem_cons_of_mem _ hx))
      rcases List.mem_cons.mp this with e | e
      · exact absurd (e ▸ hx) hn.1
      · exact e
    · have := hp.length_eq
      simp only [List.length_cons] at this hl
      omega
theorem ky_sorted_eq : ∀ {l m : List PySem.W.Ky}, l.Perm m → l.Pairwise PySem.W.Ky.le → m.Pairwise PySem.W.Ky.le → l = m
  | [], m, hp, _, _ => (List.Perm.eq_nil hp.symm).symm
  | a :: l, [], hp, _, _ => absurd (List.Perm.eq_nil hp) (by simp)
  | a :: l, b :: m, hp, h1, h2 => by
    rw [List.pairwise_cons] at h1 h2
    have hab : a = b := by
      have ha : a ∈ b :: m := hp.mem_iff.mp List.mem_cons_self
      have hb : b ∈ a :: l := hp.mem_iff.mpr List.mem_cons_self
      rcases List.mem_cons.mp ha with e | ha
      · exact e
      · rcases List.mem_cons.mp hb with e | hb
        · exact e.symm
        · exact PySem.W.Ky.le_antisymm (h1.1 b hb) (h2.1 a ha)
    subst hab
    rw [ky_sorted_eq ((List.perm_cons a).mp hp) h1.2 h2.2]
end
end L2
set_option Elab.async false
set_option linter.all false
set_option maxRecDepth 100000
set_option maxHeartbeats 4000000
namespace Lw
open PySem L2
local macro_rules | `(tactic| ctx_has vcx $ids*) => `(tactic| ((try dsimp only [tVarM, List.map, List.append_eq, List.set, L2.start, List.length_cons, List.length_nil, List.replicate, List.cons_append, List.nil_append, Nat.reduceAdd, Nat.reduceSub, Nat.zero_add, Nat.add_zero, tNever, tYes, iStr, iRng1, rIsB, IsB, tCT, rAll, rAny, rSum, tSeq, tNext, tIfS, tRet, tDrop, tAsg, gName, tVar, tC, tOp, tUn, tTest, tB, tAnd, tOr, tNot, tAndV, tNotV, tChain, tCB, tCall, tCons, tNil, tLst, tTup, tDG, sDP, rI0, rI, rU, rEq, rLenL, rLenT, rIL, rIT, rIS, rSL, rSQ, rSlS, iL, iT, tML, tMS, rmJoin, rmIndex, rDictD, rEqDD, rNeDD, rSorted, rmPopAt, tDNewK, rSortedT, rListS, iS, iD, tDI, gTupT, gCons, gNil, gSub, rSetLs, rmAppend, rmPop, rCL, rInL, rInT, rInM, rTupL, rCS, rLenS, rLeS, rInS, tListRev, tDisp, tPairs, rAllL, rAnyL, tSl, tNoPart, tPart, tDClear, List.set_cons_zero, List.set_cons_succ, List.getElem?_cons_zero, List.getElem?_cons_succ, List.map_cons, List.map_nil]); (simp only [tVarM, tNever, cxK, cpK, tComp_eq, tFor_eq, inner0, inner1, inner2, inner3, Option.join_some, tYes, iStr, iRng1, rIsB, IsB, tCT, rAll, rAny, rSum, tSeq, tNext, tIfS, tRet, tDrop, tAsg, gName, tVar, tC, tOp, tUn, tTest, tB, tAnd, tOr, tNot, tAndV, tNotV, tChain, tCB, tCall, tCons, tNil, tLst, tTup, tDG, sDP, ex_kS, ex_kI, rI0, rI, rU, rEq, scal_ii, scal_ss, scal_bb, scal_nn, scal_in, scal_si, rLenL, rLenT, rIL, rIT, rIS, rSL, rSQ, rSlS, iL, iT, tML, tMS, rmJoin, rmIndex, rDictD, rEqDD, rNeDD, rSorted, rmPopAt, tDNewK, rSortedT, rListS, iS, iD, tDI, gTupT, gCons, gNil, atI0, atI1, atI2, atI3, atI4, ofS_inj, gSub, rSetLs, rmAppend, rmPop, rCL, rInL, rInT, rInM, rTupL, rCS, rLenS, rLeS, rInS, tListRev, tDisp, tPairs, HO.dK.injEq, HO.lst.injEq, HO.tup.injEq, HO.ins.injEq, rAllL, rAnyL, tSl, tNoPart, tPart, L2.start, List.map_cons, List.map_nil, List.length_cons, List.length_nil, List.replicate, List.cons_append, List.nil_append, List.append_nil, List.getElem?_cons_zero, List.getElem?_cons_succ, List.set_cons_zero, List.set_cons_succ, Option.some.injEq, V.int.injEq, V.ref.injEq, V.str.injEq, V.bl.injEq, V.ty.injEq, List.cons.injEq, and_assoc, and_true, true_and, and_self, exists_eq_left, exists_eq_left', exists_eq_right, exists_eq_right', exists_and_left, exists_eq, exists_eq', reduceCtorEq, false_and, and_false, false_or, or_false, exists_false, decide_eq_true_eq, String.reduceEq, String.reduceBEq, Bool.or_true, Bool.true_or, Bool.or_false, Bool.false_or, or_true, true_or, if_true, if_false, Bool.not_eq_true', Nat.reduceAdd, Nat.reduceSub, Nat.zero_add, $[$ids:ident],*])))
noncomputable def top (i : Nat) : Stmt := PySem.Challenge.pw_seekhall_k49_turnings.main.body.getD i (.Pass ⟨0, 0, 0, 0⟩)
noncomputable abbrev s_is_number : Stmt := top 3
noncomputable abbrev s_is_name : Stmt := top 4
noncomputable abbrev s_leads_round : Stmt := top 6
noncomputable abbrev s_is_turning : Stmt := top 7
noncomputable abbrev s_led : Stmt := top 8
noncomputable abbrev s_all_led : Stmt := top 9
noncomputable abbrev s_turned_filling : Stmt := top 10
noncomputable abbrev s_turned_rooms : Stmt := top 11
noncomputable abbrev s__law_deal : Stmt := top 13
noncomputable abbrev s__law_draw : Stmt := top 14
noncomputable abbrev s__law_names : Stmt := top 15
noncomputable abbrev s__law_pool : Stmt := top 16
noncomputable abbrev s__law_rooms : Stmt := top 17
noncomputable abbrev s__law_some : Stmt := top 18
noncomputable abbrev s__law_leads : Stmt := top 19
noncomputable abbrev s__law_is_name : Stmt := top 20
noncomputable abbrev s__law_is_whole : Stmt := top 21
noncomputable abbrev s__law_good : Stmt := top 22
noncomputable abbrev s__law_spoilt : Stmt := top 23
noncomputable abbrev s__law_turned : Stmt := top 24
noncomputable abbrev s__law_turned_rooms : Stmt := top 25
noncomputable abbrev s__law_back : Stmt := top 26
noncomputable abbrev s__law_led_right : Stmt := top 27
noncomputable abbrev s_law : Stmt := top 28
theorem sc_is_number : FnScope ["thing"] ["thing"] (defScope s_is_number) := ⟨rfl, rfl, rfl, by decide +kernel, rfl, by decide +kernel, by decide +kernel⟩
theorem sc_is_name : FnScope ["thing"] ["thing"] (defScope s_is_name) := ⟨rfl, rfl, rfl, by decide +kernel, rfl, by decide +kernel, by decide +kernel⟩
theorem sc_leads_round : FnScope ["leads", "is_one", "keys", "led_to"] ["leads", "is_one"] (defScope s_leads_round) := ⟨rfl, rfl, rfl, by decide +kernel, rfl, by decide +kernel, by decide +kernel⟩
theorem sc_is_turning : FnScope ["thing"] ["thing"] (defScope s_is_turning) := ⟨rfl, rfl, rfl, by decide +kernel, rfl, by decide +kernel, by decide +kernel⟩
theorem sc_led : FnScope ["leads", "thing"] ["leads", "thing"] (defScope s_led) := ⟨rfl, rfl, rfl, by decide +kernel, rfl, by decide +kernel, by decide +kernel⟩
theorem sc_all_led : FnScope ["leads", "things"] ["leads", "things"] (defScope s_all_led) := ⟨rfl, rfl, rfl, by decide +kernel, rfl, by decide +kernel, by decide +kernel⟩
theorem sc_turned_filling : FnScope ["turning", "filling"] ["turning", "filling"] (defScope s_turned_filling) := ⟨rfl, rfl, rfl, by decide +kernel, rfl, by decide +kernel, by decide +kernel⟩
theorem sc_turned_rooms : FnScope ["turning", "rooms"] ["turning", "rooms"] (defScope s_turned_rooms) := ⟨rfl, rfl, rfl, by decide +kernel, rfl, by decide +kernel, by decide +kernel⟩
theorem sc__law_deal : FnScope ["_law_script", "_law_start", "_law_cells", "_law_number", "_law_cell"] ["_law_script", "_law_start"] (defScope s__law_deal) := ⟨rfl, rfl, rfl, by decide +kernel, rfl, by decide +kernel, by decide +kernel⟩
theorem sc__law_draw : FnScope ["_law_deal_here", "_law_many", "_law_number", "_law_one", "_law_other"] ["_law_deal_here", "_law_many"] (defScope s__law_draw) := ⟨rfl, rfl, rfl, by decide +kernel, rfl, by decide +kernel, by decide +kernel⟩
theorem sc__law_names : FnScope ["_law_deal_here", "_law_many", "_law_letters", "_law_names_here", "_law_k", "_law_word", "_law_place"] ["_law_deal_here", "_law_many"] (defScope s__law_names) := ⟨rfl, rfl, rfl, by decide +kernel, rfl, by decide +kernel, by decide +kernel⟩
theorem sc__law_pool : FnScope ["_law_deal_here", "_law_value", "_law_pool_here", "_law_k"] ["_law_deal_here"] (defScope s__law_pool) := ⟨rfl, rfl, rfl, by decide +kernel, rfl, by decide +kernel, by decide +kernel⟩
theorem sc__law_rooms : FnScope ["_law_deal_here", "_law_names_here", "_law_pool_here", "_law_most", "_law_rooms_here", "_law_name", "_law_some_here"] ["_law_deal_here", "_law_names_here", "_law_pool_here", "_law_most"] (defScope s__law_rooms) := ⟨rfl, rfl, rfl, by decide +kernel, rfl, by decide +kernel, by decide +kernel⟩
theorem sc__law_some : FnScope ["_law_deal_here", "_law_things", "_law_least", "_law_left", "_law_found", "_law_k"] ["_law_deal_here", "_law_things", "_law_least"] (defScope s__law_some) := ⟨rfl, rfl, rfl, by decide +kernel, rfl, by decide +kernel, by decide +kernel⟩
theorem sc__law_leads : FnScope ["_law_deal_here", "_law_things", "_law_some_here", "_law_others", "_law_found", "_law_k"] ["_law_deal_here", "_law_things"] (defScope s__law_leads) := ⟨rfl, rfl, rfl, by decide +kernel, rfl, by decide +kernel, by decide +kernel⟩
theorem sc__law_is_name : FnScope ["_law_thing"] ["_law_thing"] (defScope s__law_is_name) := ⟨rfl, rfl, rfl, by decide +kernel, rfl, by decide +kernel, by decide +kernel⟩
theorem sc__law_is_whole : FnScope ["_law_thing"] ["_law_thing"] (defScope s__law_is_whole) := ⟨rfl, rfl, rfl, by decide +kernel, rfl, by decide +kernel, by decide +kernel⟩
theorem sc__law_good : FnScope ["_law_leads_here", "_law_names_here", "_law_key", "_law_thing", "_law_others"] ["_law_leads_here", "_law_names_here"] (defScope s__law_good) := ⟨rfl, rfl, rfl, by decide +kernel, rfl, by decide +kernel, by decide +kernel⟩
theorem sc__law_spoilt : FnScope ["_law_deal_here", "_law_leads_here", "_law_fresh", "_law_odd", "_law_found", "_law_keys", "_law_way", "_law_at"] ["_law_deal_here", "_law_leads_here", "_law_fresh", "_law_odd"] (defScope s__law_spoilt) := ⟨rfl, rfl, rfl, by decide +kernel, rfl, by decide +kernel, by decide +kernel⟩
theorem sc__law_turned : FnScope ["_law_turning", "_law_filling", "_law_found", "_law_name", "_law_value"] ["_law_turning", "_law_filling"] (defScope s__law_turned) := ⟨rfl, rfl, rfl, by decide +kernel, rfl, by decide +kernel, by decide +kernel⟩
theorem sc__law_turned_rooms : FnScope ["_law_turning", "_law_rooms_here", "_law_found", "_law_name", "_law_values"] ["_law_turning", "_law_rooms_here"] (defScope s__law_turned_rooms) := ⟨rfl, rfl, rfl, by decide +kernel, rfl, by decide +kernel, by decide +kernel⟩
theorem sc__law_back : FnScope ["_law_leads_here", "_law_found", "_law_key"] ["_law_leads_here"] (defScope s__law_back) := ⟨rfl, rfl, rfl, by decide +kernel, rfl, by decide +kernel, by decide +kernel⟩
theorem sc__law_led_right : FnScope ["_law_turning", "_law_filling", "_law_rooms_here", "_law_back_here", "_law_handed", "_law_found", "_law_some_here"] ["_law_turning", "_law_filling", "_law_rooms_here"] (defScope s__law_led_right) := ⟨rfl, rfl, rfl, by decide +kernel, rfl, by decide +kernel, by decide +kernel⟩
theorem sc_law : FnScope ["_law_script", "_law_deal_here", "_law_names_here", "_law_pool_here", "_law_turning", "_law_some_here", "_law_rooms_here", "_law_filling", "_law_name", "_law_way", "_law_odd", "_law_due", "_law_found"] ["_law_script"] (defScope s_law) := ⟨rfl, rfl, rfl, by decide +kernel, rfl, by decide +kernel, by decide +kernel⟩
noncomputable def marksV : List V := [.str "in", .str "from", .str "to", .str "end"]
structure Txt (K : PySem.W.Frag) (mg : Str → Option Value) : Prop where
  b_len : mg "len" = none
  b_max : mg "max" = none
  b_sum : mg "sum" = none
  b_list : mg "list" = none
  b_reversed : mg "reversed" = none
  b_range : mg "range" = none
  b_isinstance : mg "isinstance" = none
  b_all : mg "all" = none
  b_any : mg "any" = none
  b_dict : mg "dict" = none
  b_tuple : mg "tuple" = none
  b_sorted : mg "sorted" = none
  b_int : mg "int" = none
  b_str : mg "str" = none
  b_bool : mg "bool" = none
  c_MARKS : ConstT K mg "MARKS" marksV
  c_LONGEST_NAME : ∃ t, mg "LONGEST_NAME" = some (.int 8 t)
  at_is_name : mg "is_name" = some (.ref (clsAt mg "is_name"))
  at_is_number : mg "is_number" = some (.ref (clsAt mg "is_number"))
noncomputable def dealKvs (m sd n : Int) (l : Addr) : List (Key × V) := [(Sum.inr "mixed", .int m), (Sum.inr "seed", .int sd), (Sum.inr "number", .int n), (Sum.inr "left", .ref l)]
structure DealAt (H : Hp) (d l : Addr) : Prop where
  ex : ∃ (m sd n : Int) (xs : List Int), H d = some (.dK (dealKvs m sd n l)) ∧ H l = some (.lst (xs.map V.int)) ∧ 0 ≤ n ∧ (∀ x ∈ xs, 0 ≤ x) ∧ 0 ≤ sd ∧ sd < 2147483648 ∧ xs.length ≤ 63
noncomputable def But (d l : Addr) (H H' : Hp) : Prop := ∀ b o, b ≠ d → b ≠ l → H b = some o → H' b = some o
theorem k_ms : ¬ ((Sum.inr (Str.ofString "mixed") : Key) = Sum.inr (Str.ofString "seed")) := by decide +kernel
theorem k_mn : ¬ ((Sum.inr (Str.ofString "mixed") : Key) = Sum.inr (Str.ofString "number")) := by decide +kernel
theorem k_ml : ¬ ((Sum.inr (Str.ofString "mixed") : Key) = Sum.inr (Str.ofString "left")) := by decide +kernel
theorem k_sn : ¬ ((Sum.inr (Str.ofString "seed") : Key) = Sum.inr (Str.ofString "number")) := by decide +kernel
theorem k_sl : ¬ ((Sum.inr (Str.ofString "seed") : Key) = Sum.inr (Str.ofString "left")) := by decide +kernel
theorem k_nl : ¬ ((Sum.inr (Str.ofString "number") : Key) = Sum.inr (Str.ofString "left")) := by decide +kernel
theorem get_mixed (m sd n : Int) (l : Addr) : valV (dealKvs m sd n l) (Sum.inr "mixed") = some (.int m) := by unfold dealKvs; rw [valV_pos rfl]
theorem get_seed (m sd n : Int) (l : Addr) : valV (dealKvs m sd n l) (Sum.inr "seed") = some (.int sd) := by unfold dealKvs; rw [valV_neg k_ms, valV_pos rfl]
theorem get_number (m sd n : Int) (l : Addr) : valV (dealKvs m sd n l) (Sum.inr "number") = some (.int n) := by unfold dealKvs; rw [valV_neg k_mn, valV_neg k_sn, valV_pos rfl]
theorem get_left (m sd n : Int) (l : Addr) : valV (dealKvs m sd n l) (Sum.inr "left") = some (.ref l) := by unfold dealKvs; rw [valV_neg k_ml, valV_neg k_sl, valV_neg k_nl, valV_pos rfl]
theorem put_number (m sd n y : Int) (l : Addr) : putK (dealKvs m sd n l) (Sum.inr "number") (.int y) = dealKvs m sd y l := by
  unfold putK
  rw [valV_any, get_number]
  simp only [Option.isSome_some, if_true, dealKvs, List.map_cons, List.map_nil, if_neg k_mn, if_neg k_sn, if_neg (Ne.symm k_nl)]
theorem put_seed (m sd n y : Int) (l : Addr) : putK (dealKvs m sd n l) (Sum.inr "seed") (.int y) = dealKvs m y n l := by
  unfold putK
  rw [valV_any, get_seed]
  simp only [Option.isSome_some, if_true, dealKvs, List.map_cons, List.map_nil, if_neg k_ms, if_neg (Ne.symm k_sn), if_neg (Ne.symm k_sl)]
theorem deal_len (m sd n : Int) (l : Addr) : (dealKvs m sd n l).length < sizeLine := by show 4 < sizeLine; decide
theorem cmul_small {i j : Int} (h0 : 0 ≤ i) (h1 : i < 4294967296) : CMul i j := .inl ⟨by omega, by omega⟩
noncomputable def spDraw : Sp := fun vs H Q _ => ∃ (d l : Addr) (m : Int), vs = [.ref d, .int m] ∧ DealAt H d l ∧ 0 < m ∧ m < 18446744073709551616 ∧ ∀ (r : Int) (H' : Hp), 0 ≤ r → r < m → DealAt H' d l → But d l H H' → Q (.int r) H'
theorem merge_deal (m sd n : Int) (l : Addr) : mergeK [] (dealKvs m sd n l) = dealKvs m sd n l := by
  have e1 : putK ([] : List (Key × V)) (Sum.inr (Str.ofString "mixed")) (.int m) = [(Sum.inr (Str.ofString "mixed"), .int m)] := putK_new _ valV_nil
  have e2 : putK [((Sum.inr (Str.ofString "mixed") : Key), V.int m)] (Sum.inr (Str.ofString "seed")) (.int sd) = [(Sum.inr (Str.ofString "mixed"), .int m), (Sum.inr (Str.ofString "seed"), .int sd)] := putK_new _ (by rw [valV_neg k_ms, valV_nil])
  have e3 : putK [((Sum.inr (Str.ofString "mixed") : Key), V.int m), (Sum.inr (Str.ofString "seed"), .int sd)] (Sum.inr (Str.ofString "number")) (.int n) = [(Sum.inr (Str.ofString "mixed"), .int m), (Sum.inr (Str.ofString "seed"), .int sd), (Sum.inr (Str.ofString "number"), .int n)] := putK_new _ (by rw [valV_neg k_mn, valV_neg k_sn, valV_nil])
  have e4 : putK [((Sum.inr (Str.ofString "mixed") : Key), V.int m), (Sum.inr (Str.ofString "seed"), .int sd), (Sum.inr (Str.ofString "number"), .int n)] (Sum.inr (Str.ofString "left")) (.ref l) = dealKvs m sd n l := putK_new _ (by rw [valV_neg k_ml, valV_neg k_sl, valV_neg k_nl, valV_nil])
  show putK (putK (putK (putK ([] : List (Key × V)) (Sum.inr (Str.ofString "mixed")) (.int m)) (Sum.inr (Str.ofString "seed")) (.int sd)) (Sum.inr (Str.ofString "number")) (.int n)) (Sum.inr (Str.ofString "left")) (.ref l) = _
  rw [e1, e2, e3, e4]
theorem cut_ints (ns : List Int) (lo hi : Option Int) : ∃ ms : List Int, cutV (ns.map V.int) lo hi = ms.map V.int ∧ ms.length ≤ ns.length := by
  unfold cutV
  refine ⟨(ns.drop (HT.sIx (ns.map V.int).length 0 lo)).take (HT.sIx (ns.map V.int).length (ns.map V.int).length hi - HT.sIx (ns.map V.int).length 0 lo), by simp [List.map_take, List.map_drop], ?_⟩
  rw [List.length_take, List.length_drop]
  omega
theorem int_at {ms : List Int} {i : Nat} {x : V} (h : (ms.map V.int)[i]? = some x) : ∃ v, x = .int v := by
  rw [List.getElem?_map] at h
  cases e : ms[i]? with
  | none => rw [e] at h; cases h
  | some z => rw [e] at h; exact ⟨z, (Option.some.inj h).symm⟩
noncomputable def spDeal (K : PySem.W.Frag) : Sp := fun vs H Q _ => ∃ (a : Addr) (ns : List Int) (st : Int), vs = [.ref a, .int st] ∧ SqL K H a (ns.map V.int) ∧ ns.length ≤ 63 ∧ 0 ≤ st ∧ st ≤ 63 ∧ ∀ (d l : Addr) (H' : Hp), H d = none → H l = none → DealAt H' d l → Same H H' → Q (.ref d) H'
theorem draw_rd {d l : Addr} {m : Int} {H : Hp} {Q : VK} {E : XK} (D : DealAt H d l) (m0 : 0 < m) (m1 : m < 18446744073709551616) (h : ∀ (r : Int) (H' : Hp), 0 ≤ r → r < m → DealAt H' d l → But d l H H' → Q (.int r) H') : spDraw [.ref d, .int m] H Q E := ⟨d, l, m, rfl, D, m0, m1, h⟩
theorem But.refl {d l : Addr} (H : Hp) : But d l H H := fun _ _ _ _ e => e
theorem But.trans {d l : Addr} {H H1 H2 : Hp} (a : But d l H H1) (b : But d l H1 H2) : But d l H H2 := fun c o h1 h2 e => b c o h1 h2 (a c o h1 h2 e)
theorem But.new {d l p : Addr} {H H1 : Hp} {o : HO} (a : But d l H H1) (hp : H1 p = none) : But d l H (upd H1 p o) := fun c u h1 h2 e => by
  have e1 := a c u h1 h2 e
  rw [upd_ne (ne_of_none e1 hp)]; exact e1
theorem But.same {d l : Addr} {H H1 H2 : Hp} (a : But d l H H1) (s : Same H1 H2) : But d l H H2 := fun c u h1 h2 e => s c u (a c u h1 h2 e)
theorem DealAt.ne {d l p : Addr} {H : Hp} (D : DealAt H d l) (hp : H p = none) : p ≠ d ∧ p ≠ l := by
  obtain ⟨m, sd, n, xs, hd, hl, _⟩ := D.ex
  exact ⟨(ne_of_none hd hp).symm, (ne_of_none hl hp).symm⟩
theorem DealAt.same {d l : Addr} {H H' : Hp} (D : DealAt H d l) (s : Same H H') : DealAt H' d l := by
  obtain ⟨m, sd, n, xs, hd, hl, r⟩ := D.ex
  exact ⟨m, sd, n, xs, s _ _ hd, s _ _ hl, r⟩
theorem DealAt.new {d l p : Addr} {H : Hp} {o : HO} (D : DealAt H d l) (hp : H p = none) : DealAt (upd H p o) d l := D.same (Same.upd0 hp)
theorem DealAt.put {d l p : Addr} {H : Hp} {o : HO} (D : DealAt H d l) (h1 : p ≠ d) (h2 : p ≠ l) : DealAt (upd H p o) d l := by
  obtain ⟨m, sd, n, xs, hd, hl, r⟩ := D.ex
  exact ⟨m, sd, n, xs, by rw [upd_ne h1.symm]; exact hd, by rw [upd_ne h2.symm]; exact hl, r⟩
theorem But.put {d l p : Addr} {H H1 : Hp} {o : HO} (a : But d l H H1) (hp : H p = none) : But d l H (upd H1 p o) := fun c u h1 h2 e => by
  rw [upd_ne (ne_of_none e hp)]; exact a c u h1 h2 e
theorem But.free {d l p : Addr} {H H1 : Hp} (a : But d l H H1) (D : DealAt H1 d l) (hp : H1 p = none) : H p = none := by
  obtain ⟨h1, h2⟩ := D.ne hp
  cases e : H p with
  | none => rfl
  | some o => rw [a p o h1 h2 e] at hp; cases hp
theorem atI_mem {α : Type} {xs : List α} {i : Int} (h0 : 0 ≤ i) (h1 : i < (xs.length : Int)) : ∃ v, atI xs i = some v ∧ v ∈ xs := by
  obtain ⟨n, rfl⟩ := Int.eq_ofNat_of_zero_le h0
  have hn : n < xs.length := by omega
  exact ⟨xs[n], atI_nat (by simp [hn]), List.getElem_mem hn⟩
theorem draw_of {d l p : Addr} {m : Int} {vs : List V} {H : Hp} {Q : VK} {E : XK} (D : DealAt H d l) (hp : H p = none) (m0 : 0 < m) (m1 : m < 18446744073709551616) (hm : m = (vs.length : Int)) (h : ∀ (r : Int) (v : V) (H' : Hp), v ∈ vs → atI vs r = some v → DealAt H' d l → But d l H H' → H' p = some (.lst vs) → Q (.int r) H') : spDraw [.ref d, .int m] (upd H p (.lst vs)) Q E :=
  draw_rd (D.new hp) m0 m1 fun r H' r0 r1 D' B' => by
    obtain ⟨v, e, hv⟩ := atI_mem (xs := vs) r0 (by omega)
    exact h r v H' hv e D' (((But.refl H).new hp).trans B') (B' p _ (D.ne hp).1 (D.ne hp).2 upd_same)
theorem ok__law_draw {P : Program} {w : World} {K : PySem.W.Frag} {mg : Str → Option Value} {base : Heap}  (T : Txt K mg) (L : FnL K mg "_law_draw" s__law_draw ["_law_deal_here", "_law_many"])  : Fn P w K mg base "_law_draw" 1 ["_law_deal_here", "_law_many"] (spDraw) := by
  have nd := sc__law_draw.nd
  refine L.ok sc__law_draw (fun vs H Q E h => ?_) (fun f cdv A outer s H vs Q E hr h => ?_)
  · obtain ⟨d, l, m, rfl, D, m0, m1, k⟩ := h
    rfl
  · obtain ⟨d, l, m, rfl, D, m0, m1, k⟩ := h
    have hu := hu_of hr
    refine ⟨_, (pss_cons (ps_while PassesOwn.never (PW.pt (pw_and (pt_cmpR op_eq (pe_dg hu (pvM 0) pe_str (fun _ _ => rfl)) pe_int (nomark _)) (pw_and (pt_cmpR op_gt (pe_callB call_lenL rfl T.b_len PySem.boot_len (pa_cons (pe_dg hu (pvM 0) pe_str (fun _ _ => rfl)) pa_nil)) pe_int (nomark _)) (pw_and1 (pt_cmpR op_eq (pe_dg hu (pvM 0) pe_str (fun _ _ => rfl)) pe_int (nomark _)))))) (pss_one (ps_dp hu (pvM 0) pe_str (pe_mL0 PySem.F.slot_list_pop PySem.F.type_list_pop ml_pop (pe_dg hu (pvM 0) pe_str (fun _ _ => rfl))) rfl)))
      (pss_cons (ps_set (i := 2) nd rfl (by first | exact Or.inl rfl | exact Or.inr rfl) (pe_dg hu (pvM 0) pe_str (fun _ _ => rfl)))
      (pss_cons (ps_if (pt_cmpR op_gt (pvM 2) pe_int (nomark _)) (pss_cons (ps_dp hu (pvM 0) pe_str (pe_op op_fdivW (pvM 2) (pvM 1)) rfl)
      (pss_one (ps_ret (pe_op op_mod (pvM 2) (pvM 1))))) pss_nil)
      (pss_cons (ps_set (i := 3) nd rfl (by first | exact Or.inl rfl | exact Or.inr rfl) (pe_op op_mod (pe_op op_add (pe_op op_mul (pe_dg hu (pvM 0) pe_str (fun _ _ => rfl)) pe_int) pe_int) pe_int))
      (pss_cons (ps_dp hu (pvM 0) pe_str (pe_op op_mod (pe_op op_add (pe_op op_mul (pvM 3) pe_int) pe_int) pe_int) rfl)
      (pss_cons (ps_set (i := 4) nd rfl (by first | exact Or.inl rfl | exact Or.inr rfl) (pe_op op_mod (pe_op op_mul (pe_dg hu (pvM 0) pe_str (fun _ _ => rfl)) (pe_dg hu (pvM 0) pe_str (fun _ _ => rfl))) pe_int))
      (pss_one (ps_ret (pe_op op_mod (pe_op op_add (pe_op op_mul (pe_op op_mod (pe_op op_mul (pvM 3) (pvM 3)) pe_int) pe_int) (pvM 4)) (pvM 1)))))))))), ?_⟩
    obtain ⟨mx, sd, n, xs, hd, hl, n0, hx, s0, s1, hlen⟩ := D.ex
    have dl : d ≠ l := ne_of hd hl (by intro z; cases z)
    refine while_rd (fun μ σ H' => ∃ (n : Int) (xs : List Int), σ = [some (.ref d), some (.int m), none, none, none] ∧ H' d = some (.dK (dealKvs mx sd n l)) ∧ H' l = some (.lst (xs.map V.int)) ∧ 0 ≤ n ∧ (∀ x ∈ xs, 0 ≤ x) ∧ xs.length ≤ 63 ∧ But d l H H' ∧ μ = xs.length)
      (fun σ H' => ∃ (n : Int) (xs : List Int), σ = [some (.ref d), some (.int m), none, none, none] ∧ H' d = some (.dK (dealKvs mx sd n l)) ∧ H' l = some (.lst (xs.map V.int)) ∧ 0 ≤ n ∧ (∀ x ∈ xs, 0 ≤ x) ∧ xs.length ≤ 63 ∧ But d l H H')
      ⟨_, n, xs, rfl, hd, hl, n0, hx, hlen, fun b o _ _ e => e, rfl⟩ ?_ ?_
    · rintro R hR μ σ H1 ⟨n1, xs1, rfl, hd1, hl1, n01, hx1, hlen1, bt, rfl⟩
      have hr := hR _ _ ⟨n1, xs1, rfl, hd1, hl1, n01, hx1, hlen1, bt⟩
      (try ctx_has vcx true_and hd1 hl1 get_number get_left get_mixed)
      refine ite2 (fun h1 => ?_) (fun _ => hr)
      refine ite2 (fun h2 => ?_) (fun _ => hr)
      refine ite2 (fun h3 => ?_) (fun _ => hr)
      rcases List.eq_nil_or_concat xs1 with rfl | ⟨ys, z, rfl⟩
      · simp at h2
      refine ⟨fun σ' H' => σ' = [some (.ref d), some (.int m), none, none, none] ∧ H' = upd (upd H1 l (.lst (ys.map V.int))) d (.dK (dealKvs mx sd z l)), ?_, V.int z, by simp, dealKvs mx sd n1 l, by rw [upd_ne dl]; exact hd1, deal_len _ _ _ _, by rw [put_number]; simp⟩
      rintro _ _ ⟨rfl, rfl⟩
      refine ⟨ys.length, by simp, rfl, z, upd_same, ys, by rw [upd_ne dl.symm, upd_same], hx1 z (by simp), fun x hx => hx1 x (by simp [hx]), by simp at hlen1; omega, fun b o h1 h2 e => ?_, rfl⟩
      rw [upd_ne h1, upd_ne h2]
      exact bt b o h1 h2 e
    · rintro σ H1 ⟨n1, xs1, rfl, hd1, hl1, n01, hx1, hlen1, bt⟩
      (try ctx_has vcx true_and hd1 hl1 get_number get_left get_mixed get_seed deal_len put_number put_seed upd_same)
      have fin : ∀ (r sd' n' : Int), 0 ≤ r → r < m → 0 ≤ n' → 0 ≤ sd' → sd' < 2147483648 → Q (.int r) (upd H1 d (HO.dK (dealKvs mx sd' n' l))) := fun r sd' n' r0 r1 n'0 h0 h1 =>
        k r _ r0 r1 ⟨mx, sd', n', xs1, upd_same, by rw [upd_ne dl.symm]; exact hl1, n'0, hx1, h0, h1, hlen1⟩ fun b o h1 h2 e => by rw [upd_ne h1]; exact bt b o h1 h2 e
      refine ite2 (fun h1 => ?_) (fun h1 => ?_)
      · exact ⟨⟨m0, m1⟩, m0, fin _ _ _ (Int.emod_nonneg _ (by omega)) (Int.emod_lt_of_pos _ m0) (Int.ediv_nonneg (by omega) (by omega)) s0 s1⟩
      · generalize hone : (sd * 48271 + 7919) % 2147483647 = one
        have o0 : 0 ≤ one := by omega
        have o1 : one < 2147483647 := by omega
        generalize hsd2 : (one * 40692 + 104729) % 2147483399 = sd2
        have p0 : 0 ≤ sd2 := by omega
        have p1 : sd2 < 2147483399 := by omega
        have q0 := Int.emod_nonneg (one * one) (show (2147483629 : Int) ≠ 0 by decide)
        have q1 := Int.emod_lt_of_pos (one * one) (show (0 : Int) < 2147483629 by decide)
        exact ⟨cmul_small s0 (by omega), by decide, cmul_small o0 (by omega), by decide, cmul_small p0 (by omega), by decide, cmul_small o0 (by omega), by decide, cmul_small q0 (by omega), m0,
          fin _ _ _ (Int.emod_nonneg _ (by omega)) (Int.emod_lt_of_pos _ m0) n01 p0 (by omega)⟩
theorem ok__law_deal {P : Program} {w : World} {K : PySem.W.Frag} {mg : Str → Option Value} {base : Heap}  (T : Txt K mg) (L : FnL K mg "_law_deal" s__law_deal ["_law_script", "_law_start"])  : Fn P w K mg base "_law_deal" 1 ["_law_script", "_law_start"] (spDeal K) := by
  have nd := sc__law_deal.nd
  refine L.ok sc__law_deal (fun vs H Q E h => ?_) (fun f cdv A outer s H vs Q E hr h => ?_)
  · obtain ⟨a, ns, st, rfl, hS, hlen, st0, st1, k⟩ := h
    rfl
  · obtain ⟨a, ns, st, rfl, hS, hlen, st0, st1, k⟩ := h
    have hu := hu_of hr
    refine ⟨_, (pss_cons (ps_setC (i := 2) (N := ["_law_cell"]) (nt := 1) (js := []) nd rfl (by first | exact Or.inl rfl | exact Or.inr rfl) rfl (compOk_of ["_law_script", "_law_start", "_law_cells", "_law_number", "_law_cell"] (defScope s__law_deal).names rfl rfl rfl (by decide +kernel)) (pi_LK (K := K) rfl (pe_slice sl_Q (pvM 0) (po_some (pvM 1)) (po_some pe_int))) (fun _ _ _ _ _ _ => (pg_name (i := 0) (show List.Nodup [("_law_cell" : Str)] by decide +kernel) rfl (Or.inl rfl))) (tgOk_name (by decide)) (fun _ _ _ _ _ _ => pts_nil) (fun _ _ _ _ _ _ => (pe_callB (call_max2 rfl) rfl T.b_max (show bootBuiltins "max" = some (.builtin "max") by decide +kernel) (pa_cons (pvM 0) (pa_cons (pe_op op_sub pe_int (pvM 0)) pa_nil)))))
      (pss_cons (ps_set (i := 3) nd rfl (by first | exact Or.inl rfl | exact Or.inr rfl) (pe_op op_add pe_int (pvM 1)))
      (pss_cons (ps_for PassesOwn.never rfl (pi_LK (K := K) rfl (pvM 2)) (pg_name (i := 4) nd rfl (by first | exact Or.inl rfl | exact Or.inr rfl)) (pss_one (ps_set (i := 3) nd rfl (by first | exact Or.inl rfl | exact Or.inr rfl) (pe_op op_mod (pe_op op_add (pe_op op_mul (pvM 3) pe_int) (pvM 4)) pe_int))))
      (pss_one (ps_ret (pe_disp (pps_cons pe_str (pe_op op_mod (pe_callB (call_sum_l rfl) rfl T.b_sum (show bootBuiltins "sum" = some (.builtin "sum") by decide +kernel) (pa_cons (pe_slice sl_Q (pvM 0) po_none (po_some pe_int)) pa_nil)) pe_int) (pps_cons pe_str (pvM 3) (pps_cons pe_str pe_int (pps_cons pe_str (pe_listrev rfl rfl T.b_list rfl T.b_reversed (pvM 2)) pps_nil)))) rfl rfl (by nofun) (by decide))))))), ?_⟩
    (try ctx_has vcx true_and)
    refine ⟨_, hS, fun p hp => ⟨_, upd_same, fun D hD => ?_⟩⟩
    have pD : D ≠ p := by rintro rfl; rw [upd_same] at hD; cases hD
    obtain ⟨ms, hms, hml⟩ := cut_ints ns (some st) (some 63)
    rw [hms] at hD ⊢
    rw [upd_ne pD] at hD
    refine comp_g wlk_list (fun i ys H2 => ∃ cs : List Int, ys = cs.map V.int ∧ cs.length = i ∧ (∀ x ∈ cs, 0 ≤ x) ∧ H2 p = some (.lst (ms.map V.int)) ∧ H2 D = some (.lst ys) ∧ Same H H2)
      ⟨[], rfl, rfl, by simp, by rw [upd_ne pD.symm, upd_same], upd_same, (Same.upd0 hp).upd_new (by rw [upd_ne pD]; exact hD)⟩ (fun i ys H2 zq37 => by obtain ⟨_, _, _, _, h, _⟩ := zq37; exact (.of h)) ?_ ?_
    · rintro i x ys H2 hi hx ⟨cs, rfl, rfl, hc, h1, h2, sm⟩
      obtain ⟨v, rfl⟩ := int_at hx
      (try ctx_has vcx true_and h2)
      have hi : cs.length < 63 := by simp at hi; omega
      refine ⟨by simp; exact small1000 (by omega), cs ++ [if 0 - v > v then 0 - v else v], by simp, by simp, fun x hx => ?_, by rw [upd_ne pD.symm]; exact h1, upd_same, fun b o e => ?_⟩
      · rcases List.mem_append.mp hx with q | q
        · exact hc x q
        · rw [List.mem_singleton.mp q]; split <;> omega
      · rw [upd_ne (ne_of_none e hD)]; exact sm b o e
    · rintro ys H2 ⟨cs, rfl, hc, hpos, h1, h2, sm⟩
      have hcl : cs.length ≤ 63 := by simp at hc; omega
      (try ctx_has vcx true_and h2)
      refine for_g wlk_list (fun i σ H3 => ∃ (z : Int) (v : Option V), σ = [some (.ref a), some (.int st), some (.ref D), some (.int z), v] ∧ 0 ≤ z ∧ z < 2147483648 ∧ H3 = H2)
        ⟨_, _, rfl, by omega, by omega, rfl⟩ (fun i σ H3 zq38 => by obtain ⟨_, _, _, _, _, h⟩ := zq38; exact (by rw [h]; exact .of h2)) ?_ ?_
      · rintro i x σ H3 hi hx ⟨z, v, rfl, z0, z1, rfl⟩
        obtain ⟨y, rfl⟩ := int_at hx
        (try ctx_has vcx true_and)
        exact ⟨cmul_small z0 (by omega), by decide, by omega, by omega⟩
      · rintro σ H3 ⟨z, v, rfl, z0, z1, rfl⟩
        (try ctx_has vcx true_and h2 rSum)
        intro d hd
        refine ⟨_, (sm.upd_new hd).seq hS, fun p2 hp2 => ?_⟩
        have dp2 : p2 ≠ d := by rintro rfl; rw [upd_same] at hp2; cases hp2
        have hp2' : H3 p2 = none := by rwa [upd_ne dp2] at hp2
        obtain ⟨xs, hxs, _⟩ := cut_ints ns none (some 1)
        rw [hxs]
        have nD2 : D ≠ p2 := ne_of_none h2 hp2'
        have nDd : D ≠ d := ne_of_none h2 hd
        refine ⟨xs, .of upd_same, by decide, _, by rw [upd_ne nD2, upd_ne nDd]; exact h2, fun l hl => ?_⟩
        have l1 : l ≠ p2 := by rintro rfl; rw [upd_same] at hl; cases hl
        have l2 : l ≠ d := by rintro rfl; rw [upd_ne dp2.symm, upd_same] at hl; cases hl
        have hl' : H3 l = none := by rwa [upd_ne l1, upd_ne l2] at hl
        refine ⟨by rw [upd_ne l2.symm, upd_ne dp2.symm, upd_same], dealKvs (xs.sum % 2) z 0 l, rfl, by show 4 ≤ 15; decide, ?_⟩
        rw [merge_deal]
        refine k d l _ (sm.free hd) (sm.free hl') ⟨_, z, 0, cs.reverse, upd_same, by rw [upd_ne l2, upd_same, List.map_reverse], by omega, fun x hx => hpos x (List.mem_reverse.mp hx), z0, z1, by simpa using hcl⟩ fun b o e => ?_
        have e3 := sm b o e
        rw [upd_ne (ne_of_none e3 hd), upd_ne (ne_of_none e3 hl'), upd_ne (ne_of_none e3 hp2'), upd_ne (ne_of_none e3 hd)]
        exact e3
noncomputable def spNames : Sp := fun vs H Q _ => ∃ (d l : Addr) (m : Int), vs = [.ref d, .int m] ∧ DealAt H d l ∧ 0 ≤ m ∧ m ≤ 20 ∧ ∀ (p : Addr) (ws : List Str) (H' : Hp), H p = none → NamesOk ws → ws.length = m.toNat → H' p = some (.lst (ws.map V.str)) → DealAt H' d l → But d l H H' → Q (.ref p) H'
theorem nxt_rd {w1 : Str} (n1 : IsNm w1) {P : Str → Prop} (h : P (nxtW w1)) : w1.length ≤ sizeLine ∧ ∃ c, atI w1.cps.toList 0 = some c ∧ ∃ i rest, Builtin.Str.occurrences (Str.ofString "abcdefghijklmnopqrstuvwxyz") { cps := #[c] } 0 (Str.ofString "abcdefghijklmnopqrstuvwxyz").length 1 = i :: rest ∧ (0 : Int) < 26 ∧
    (Str.ofString "abcdefghijklmnopqrstuvwxyz").length ≤ sizeLine ∧ ∃ c, atI (Str.ofString "abcdefghijklmnopqrstuvwxyz").cps.toList (((i : Nat) + 1 : Int) % 26) = some c ∧ w1.length ≤ sizeLine ∧ (Str.mk #[c]).length + (Txt.slice w1 (some 1) none).length ≤ sizeLine ∧ P ((Str.mk #[c]) ++ Txt.slice w1 (some 1) none) := by
  obtain ⟨c, cs, e, hc, hcs, hl⟩ := n1.cons
  have hlw : w1.length ≤ sizeLine := Nat.le_of_lt (small1000 (Nat.le_trans n1.le (by decide)))
  have hs := Txt.slice_le w1 (some 1) none
  have hw := n1.le
  refine ⟨hlw, c, by rw [e]; exact atI_zero _ _, _, _, letters_index hc, by decide, letters_len, _, letters_at (by omega) (by omega), hlw, Nat.le_of_lt (small1000 (by show 1 + _ ≤ 1000; omega)), ?_⟩
  have hc2 := hc
  simp only [smallB, Bool.and_eq_true, decide_eq_true_eq] at hc2
  have hl1 : w1.length = cs.length + 1 := by rw [← len_cps, e]; rfl
  have key : (Str.mk #[97 + ((((c - 97 : Nat) : Int) + 1) % 26).toNat]) ++ Txt.slice w1 (some 1) none = nxtW w1 := by
    apply str_ext
    rw [append_cps, slice_cps, e, hl1]
    have e1 : 97 + ((((c - 97 : Nat) : Int) + 1) % 26).toNat = nxtC c := by unfold nxtC; omega
    have e2 : HT.sIx (cs.length + 1) 0 (some 1) = 1 := by
      show (if (1 : Int) < 0 then ((1 : Int) + ((cs.length + 1 : Nat) : Int)).toNat else min (1 : Int).toNat (cs.length + 1)) = 1
      rw [if_neg (by decide)]
      show min 1 (cs.length + 1) = 1
      omega
    rw [e1, e2, HT.sIx_none]
    simp [nxtW, e, nxtL]
  rw [key]
  exact h
theorem names_while {Dn : Ends} {d p : Addr} {v1 vk vp : Option V} {ws : List Str} {H : Hp} {wd : Str} (hw : IsNm wd) (hws : ws.length ≤ 20) (hp : H p = some (.lst (ws.map V.str)))
    (fin : ∀ (wd' : Str) (H' : Hp), IsNm wd' → wd' ∉ ws → wd' ∉ marks4 → Same H H' → Dn.nx [some (.ref d), v1, some (.str (Str.ofString "abcdefghijklmnopqrstuvwxyz")), some (.ref p), vk, some (.str wd'), vp] H') :
    tWhile
      (tOr (tTest (tOp (rInL false) (tVarM 5) (tVarM 3)))
        (tTest (tOp (rInL false) (tVarM 5) (tLst (tCons (tC (V.str (Str.ofString "in"))) (tCons (tC (V.str (Str.ofString "from"))) (tCons (tC (V.str (Str.ofString "to"))) (tCons (tC (V.str (Str.ofString "end"))) tNil))))))))
      (tAsg (tOp rCS (tOp rIS (tVarM 2) (tOp (rI (fun x j => 0 < j) fun i j => V.int (i % j)) (tOp (rI0 fun i j => V.int (i + j)) (tMS rmIndex (tVarM 2) (tCons (tOp rIS (tVarM 5) (tC (V.int 0))) tNil)) (tC (V.int 1))) (tC (V.int 26))))
          (tSl rSlS (tVarM 5) (tPart (tC (V.int 1))) tNoPart)) (gName 5))
      Dn [some (.ref d), v1, some (.str (Str.ofString "abcdefghijklmnopqrstuvwxyz")), some (.ref p), vk, some (.str wd), vp] H := by
  obtain ⟨μ0, h0⟩ := free_word hw (F := ws ++ marks4) (by simp [marks4]; omega)
  refine while_rd (fun μ σ H' => ∃ wd' : Str, σ = [some (.ref d), v1, some (.str (Str.ofString "abcdefghijklmnopqrstuvwxyz")), some (.ref p), vk, some (.str wd'), vp] ∧ IsNm wd' ∧ nxtN μ wd' ∉ ws ++ marks4 ∧ Same H H')
    (fun σ H' => ∃ wd' : Str, σ = [some (.ref d), v1, some (.str (Str.ofString "abcdefghijklmnopqrstuvwxyz")), some (.ref p), vk, some (.str wd'), vp] ∧ IsNm wd' ∧ wd' ∉ ws ∧ wd' ∉ marks4 ∧ Same H H')
    ⟨μ0, wd, rfl, hw, h0, Same.refl _⟩ ?_ ?_
  · rintro R hR μ σ H1 ⟨w1, rfl, n1, f1, sm⟩
    have hp1 := sm _ _ hp
    have step : ∀ H2, Same H H2 → w1 ∈ ws ++ marks4 → ∀ σ' H', (σ' = [some (.ref d), v1, some (.str (Str.ofString "abcdefghijklmnopqrstuvwxyz")), some (.ref p), vk, some (.str (nxtW w1)), vp] ∧ H' = H2) → ∃ m', m' < μ ∧ ∃ wd' : Str, σ' = [some (.ref d), v1, some (.str (Str.ofString "abcdefghijklmnopqrstuvwxyz")), some (.ref p), vk, some (.str wd'), vp] ∧ IsNm wd' ∧ nxtN m' wd' ∉ ws ++ marks4 ∧ Same H H' := fun H2 sm2 hin => by
      rintro _ _ ⟨rfl, rfl⟩
      cases μ with
      | zero => exact absurd hin f1
      | succ μ => exact ⟨μ, Nat.lt_succ_self _, nxtW w1, rfl, nxtW_nm n1, f1, sm2⟩
    (try ctx_has vcx true_and hp1)
    refine ⟨rfl, flat_strs _, ?_⟩
    rw [inV_strs]
    refine ite2 (fun h => ?_) (fun h => ?_)
    · exact ⟨_, step H1 sm (List.mem_append_left _ (by simpa using h)), nxt_rd n1 (P := fun z => [some (V.ref d), v1, some (.str (Str.ofString "abcdefghijklmnopqrstuvwxyz")), some (.ref p), vk, some (.str z), vp] = [some (V.ref d), v1, some (.str (Str.ofString "abcdefghijklmnopqrstuvwxyz")), some (.ref p), vk, some (.str (nxtW w1)), vp] ∧ H1 = H1) ⟨rfl, rfl⟩⟩
    · refine ⟨by decide, fun q hq => ⟨_, upd_same, rfl, by decide +kernel, ?_⟩⟩
      have sm2 : Same H (upd H1 q (.lst (marks4.map V.str))) := sm.upd_new hq
      show (if inV (V.str w1) (marks4.map V.str) = true then _ else _)
      rw [inV_strs]
      refine ite2 (fun h2 => ?_) (fun h2 => ?_)
      · exact ⟨_, step _ sm2 (List.mem_append_right _ (by simpa using h2)), nxt_rd n1 (P := fun z => [some (V.ref d), v1, some (.str (Str.ofString "abcdefghijklmnopqrstuvwxyz")), some (.ref p), vk, some (.str z), vp] = [some (V.ref d), v1, some (.str (Str.ofString "abcdefghijklmnopqrstuvwxyz")), some (.ref p), vk, some (.str (nxtW w1)), vp] ∧ _ = _) ⟨rfl, rfl⟩⟩
      · exact hR _ _ ⟨w1, rfl, n1, by simpa using h, by simpa using h2, sm2⟩
  · rintro σ H1 ⟨w1, rfl, n1, f1, f2, sm⟩
    exact fin w1 H1 n1 f1 f2 sm
theorem ok__law_names {P : Program} {w : World} {K : PySem.W.Frag} {mg : Str → Option Value} {base : Heap}  (T : Txt K mg) (L : FnL K mg "_law_names" s__law_names ["_law_deal_here", "_law_many"]) (F_law_draw : Fn P w K mg base "_law_draw" 1 ["_law_deal_here", "_law_many"] (spDraw)) : Fn P w K mg base "_law_names" 2 ["_law_deal_here", "_law_many"] (spNames) := by
  have nd := sc__law_names.nd
  refine L.ok sc__law_names (fun vs H Q E h => ?_) (fun f cdv A outer s H vs Q E hr h => ?_)
  · obtain ⟨d, l, m, rfl, D, m0, m1, k⟩ := h
    rfl
  · obtain ⟨d, l, m, rfl, D, m0, m1, k⟩ := h
    have hu := hu_of hr
    refine ⟨_, (pss_cons (ps_set (i := 2) nd rfl (by first | exact Or.inl rfl | exact Or.inr rfl) pe_str)
      (pss_cons (ps_set (i := 3) nd rfl (by first | exact Or.inl rfl | exact Or.inr rfl) (pe_lst pa_nil))
      (pss_cons (ps_for PassesOwn.never rfl (pi_range1 rfl T.b_range (pa_cons (pvM 1) pa_nil)) (pg_name (i := 4) nd rfl (by first | exact Or.inl rfl | exact Or.inr rfl)) (pss_cons (ps_set (i := 5) nd rfl (by first | exact Or.inl rfl | exact Or.inr rfl) (pe_mS PySem.F.slot_str_join PySem.F.type_str_join ms_join pe_str (pa_cons (pe_comp (N := ["_law_j", "_law_letters", "_law_deal_here"]) (nt := 1) (js := [2, 0]) rfl (compOk_of ["_law_deal_here", "_law_many", "_law_letters", "_law_names_here", "_law_k", "_law_word", "_law_place"] (defScope s__law_names).names rfl rfl rfl (by decide +kernel)) (pi_range1 rfl T.b_range (pa_cons (pe_op op_add pe_int (pe_callF F_law_draw (hr.mono (by first | decide | omega)) rfl (pa_cons (pvM 0) (pa_cons pe_int pa_nil)))) pa_nil)) (fun _ _ _ _ _ _ => (pg_name (i := 0) (show List.Nodup [("_law_j" : Str), ("_law_letters" : Str), ("_law_deal_here" : Str)] by decide +kernel) rfl (Or.inl rfl))) (tgOk_name (by decide)) (fun _ _ _ _ _ _ => pts_nil) (fun _ _ _ _ _ _ => (pe_ix ix_S (pvM 1) (pe_callF F_law_draw (hr.mono (by first | decide | omega)) rfl (pa_cons (pvM 2) (pa_cons pe_int pa_nil))) (fun _ _ => rfl)))) pa_nil)))
      (pss_cons (ps_if (PW.pt (pw_and (pt_cmpR op_gt (pvM 4) pe_int (nomark _)) (pw_and1 (pt_cmpR op_eq (pe_callF F_law_draw (hr.mono (by first | decide | omega)) rfl (pa_cons (pvM 0) (pa_cons pe_int pa_nil))) pe_int (nomark _))))) (pss_cons (ps_set (i := 6) nd rfl (by first | exact Or.inl rfl | exact Or.inr rfl) (pe_callF F_law_draw (hr.mono (by first | decide | omega)) rfl (pa_cons (pvM 0) (pa_cons (pe_callB call_lenS rfl T.b_len PySem.boot_len (pa_cons (pe_ix ix_L (pvM 3) (pe_un un_neg pe_int) (fun _ _ => rfl)) pa_nil)) pa_nil))))
      (pss_one (ps_set (i := 5) nd rfl (by first | exact Or.inl rfl | exact Or.inr rfl) (pe_op op_catS (pe_op op_catS (pe_slice sl_str (pe_ix ix_L (pvM 3) (pe_un un_neg pe_int) (fun _ _ => rfl)) po_none (po_some (pvM 6))) (pe_ix ix_S (pvM 5) pe_int (fun _ _ => rfl))) (pe_slice sl_str (pe_ix ix_L (pvM 3) (pe_un un_neg pe_int) (fun _ _ => rfl)) (po_some (pe_op op_add (pvM 6) pe_int)) po_none))))) pss_nil)
      (pss_cons (ps_while PassesOwn.never (PW.pt (pw_or (pt_cmpR op_inL (pvM 5) (pvM 3) (by with_unfolding_all rfl)) (pw_or1 (pt_cmpR op_inL (pvM 5) (pe_lst (pa_cons pe_str (pa_cons pe_str (pa_cons pe_str (pa_cons pe_str pa_nil))))) (by with_unfolding_all rfl))))) (pss_one (ps_set (i := 5) nd rfl (by first | exact Or.inl rfl | exact Or.inr rfl) (pe_op op_catS (pe_ix ix_S (pvM 2) (pe_op op_mod (pe_op op_add (pe_mS PySem.F.slot_str_index PySem.F.type_str_index ms_index (pvM 2) (pa_cons (pe_ix ix_S (pvM 5) pe_int (fun _ _ => rfl)) pa_nil)) pe_int) pe_int) (fun _ _ => rfl)) (pe_slice sl_str (pvM 5) (po_some pe_int) po_none)))))
      (pss_one (ps_expr (pe_mL PySem.F.slot_list_append PySem.F.type_list_append ml_append (pvM 3) (pa_cons (pvM 5) pa_nil))))))))
      (pss_one (ps_ret (pvM 3)))))), ?_⟩
    (try ctx_has vcx true_and)
    refine ⟨by decide, fun p hp => ⟨by omega, by omega, ?_⟩⟩
    have np := D.ne hp
    refine for_g wlk_range (fun i σ H' => ∃ (ws : List Str) (vk vw vp : Option V), σ = [some (.ref d), some (.int m), some (.str (Str.ofString "abcdefghijklmnopqrstuvwxyz")), some (.ref p), vk, vw, vp] ∧ NamesOk ws ∧ ws.length = i ∧ H' p = some (.lst (ws.map V.str)) ∧ DealAt H' d l ∧ But d l H H')
      ⟨[], _, _, _, rfl, .nil, rfl, upd_same, D.new hp, (But.refl H).new hp⟩ (fun _ _ _ _ => True.intro) ?_ ?_
    · rintro i x σ H2 hi hx ⟨ws, vk, vw, vp, rfl, ok, hlen, h2, D2, B2⟩
      rw [rngV_length] at hi
      rw [rngV_get hi] at hx
      obtain rfl := Option.some.inj hx
      (try ctx_has vcx true_and)
      refine draw_rd D2 (by decide) (by decide) fun r H3 r0 r1 D3 B3 => ?_
      (try ctx_has vcx true_and)
      refine ⟨by omega, by omega, fun q hq => ?_⟩
      have h3 := B3 p _ np.1 np.2 h2
      have nq := D3.ne hq
      have npq : p ≠ q := ne_of_none h3 hq
      refine comp_g wlk_range (fun j ys H4 => ∃ cs : List Nat, ys = cs.map (fun c => V.str ⟨#[c]⟩) ∧ cs.length = j ∧ (∀ c ∈ cs, smallB c = true) ∧ H4 q = some (.lst ys) ∧ H4 p = some (.lst (ws.map V.str)) ∧ DealAt H4 d l ∧ But d l H H4)
        ⟨[], rfl, rfl, by simp, upd_same, by rw [upd_ne npq]; exact h3, D3.new hq, (B2.trans B3).new hq⟩ (fun _ _ _ _ => True.intro) ?_ ?_
      · rintro j x ys H4 hj hx ⟨cs, rfl, hcl, hcs, h4, h4p, D4, B4⟩
        (try ctx_has vcx true_and)
        rw [rngV_length] at hj
        refine draw_rd D4 (by decide) (by decide) fun r5 H5 r50 r51 D5 B5 => ?_
        have h5 := B5 q _ nq.1 nq.2 h4
        have h5p := B5 p _ np.1 np.2 h4p
        refine ⟨r5, rfl, letters_len, _, letters_at r50 r51, h5, by simp; exact small1000 (by omega), cs ++ [97 + r5.toNat], by simp, by simp; omega, fun c hc => ?_, upd_same, by rw [upd_ne npq]; exact h5p, D5.put nq.1 nq.2, (B4.trans B5).put (B2.free D2 ((B3.free D3 hq)))⟩
        rcases List.mem_append.mp hc with z | z
        · exact hcs c z
        · rw [List.mem_singleton.mp z]
          unfold smallB
          rw [Bool.and_eq_true, decide_eq_true_eq, decide_eq_true_eq]
          omega
      · rintro ys H4 ⟨cs, rfl, hcl, hcs, h4, h4p, D4, B4⟩
        rw [rngV_length] at hcl
        (try ctx_has vcx true_and)
        refine ⟨cs.map fun c => ⟨#[c]⟩, by rw [h4]; simp, by rw [sum_ones, show (Str.ofString "").length = 0 by decide +kernel]; omega, ?_⟩
        have hj := join_signs cs
        generalize Txt.join (Str.ofString "") (cs.map fun c => Str.mk #[c]) = wd at hj ⊢
        obtain ⟨c0, cs', rfl⟩ : ∃ c0 cs', cs = c0 :: cs' := by
          cases cs with
          | nil => simp at hcl; omega
          | cons a b => exact ⟨a, b, rfl⟩
        have nwd : IsNm wd := .of hj (hcs c0 (by simp)) (fun x hx => hcs x (by simp [hx])) (by simp at hcl; omega)
        have hwl : ∀ {w : Str}, IsNm w → w.length ≤ sizeLine := fun h => Nat.le_of_lt (small1000 (Nat.le_trans h.le (by decide)))
        have hws : ws.length ≤ 20 := by omega
        have fin : ∀ (wd' : Str) (H5 H6 : Hp), DealAt H5 d l → But d l H H5 → Same H5 H6 → IsNm wd' → wd' ∉ ws → wd' ∉ marks4 → ∃ ws', NamesOk ws' ∧ ws'.length = i + 1 ∧ upd H6 p (HO.lst (ws.map V.str ++ [V.str wd'])) p = some (HO.lst (ws'.map V.str)) ∧ DealAt (upd H6 p (HO.lst (ws.map V.str ++ [V.str wd']))) d l ∧ But d l H (upd H6 p (HO.lst (ws.map V.str ++ [V.str wd']))) :=
          fun wd' H5 H6 D5 B5 sm n f1 f2 => ⟨ws ++ [wd'], ok.snoc n f1 f2, by simp [hlen], by rw [upd_same]; simp, (D5.same sm).put np.1 np.2, (B5.same sm).put hp⟩
        refine ite2 (fun h => ?_) (fun h => ?_)
        · refine draw_rd D4 (by decide) (by decide) fun r5 H5 r50 r51 D5 B5 => ?_
          (try ctx_has vcx true_and)
          have h5 := B5 p _ np.1 np.2 h4p
          refine ite2 (fun h6 => ?_) (fun h6 => ?_)
          · rcases List.eq_nil_or_concat ws with rfl | ⟨ws0, z, rfl⟩
            · simp at hlen; omega
            have nz : IsNm z := ok.nm z (by simp)
            refine ⟨_, h5, _, by rw [List.concat_eq_append, List.map_append]; exact atI_last _ _, z, rfl, hwl nz, ?_⟩
            refine draw_rd D5 (by have := nz.pos; omega) (by have := nz.le; omega) fun r7 H7 r70 r71 D7 B7 => ?_
            have h7 := B7 p _ np.1 np.2 h5
            (try ctx_has vcx true_and h7)
            have hla : atI (List.map V.str (ws0.concat z)) (-1) = some (V.str z) := by rw [List.concat_eq_append, List.map_append]; exact atI_last _ _
            have l1 := Txt.slice_le z none (some r7)
            have l2 := Txt.slice_le z (some (r7 + 1)) none
            have l3 := nz.le
            refine ⟨_, hla, z, rfl, hwl nz, hwl nwd, c0, by rw [hj]; exact atI_zero _ _, Nat.le_of_lt (small1000 (by show _ + 1 ≤ 1000; omega)), _, hla, z, rfl, hwl nz, Nat.le_of_lt (small1000 (by rw [str_len_append]; show _ + 1 + _ ≤ 1000; omega)), ?_⟩
            refine names_while (edit_nm nz (hcs c0 (by simp)) r70 r71) hws h7 fun wd' H8 n f1 f2 sm => ?_
            have h8 := sm _ _ h7
            (try ctx_has vcx true_and h8)
            exact ⟨by simp only [List.length_map]; exact small1000 (by omega), fin wd' H7 H8 D7 ((B4.trans B5).trans B7) sm n f1 f2⟩
          · refine names_while nwd hws h5 fun wd' H6 n f1 f2 sm => ?_
            have h6 := sm _ _ h5
            (try ctx_has vcx true_and h6)
            exact ⟨by simp; exact small1000 (by omega), fin wd' H5 H6 D5 (B4.trans B5) sm n f1 f2⟩
        · refine names_while nwd hws h4p fun wd' H6 n f1 f2 sm => ?_
          have h6 := sm _ _ h4p
          (try ctx_has vcx true_and h6)
          exact ⟨by simp; exact small1000 (by omega), fin wd' H4 H6 D4 B4 sm n f1 f2⟩
    · rintro σ H2 ⟨ws, vk, vw, vp, rfl, ok, hlen, h2, D2, B2⟩
      (try ctx_has vcx true_and)
      rw [rngV_length] at hlen
      exact k p ws H2 hp ok hlen h2 D2 B2
noncomputable def RoomsFor (H : Hp) (kvs : List (Key × V)) (cs : List Str) (rm : Str → List Int) : Prop := ∀ c ∈ cs, ∃ a, valV kvs (Sum.inr c) = some (.ref a) ∧ H a = some (.tup ((rm c).map V.int))
theorem plain_put {kvs : List (Key × V)} {k : Key} {v : V} (h : ∀ x ∈ kvs, plainV x.2 = true) (hv : plainV v = true) : ∀ x ∈ putK kvs k v, plainV x.2 = true := by
  intro x hx
  unfold putK at hx
  split at hx
  · obtain ⟨y, hy, rfl⟩ := List.mem_map.mp hx
    split
    · exact hv
    · exact h y hy
  · rcases List.mem_append.mp hx with q | q
    · exact h x q
    · rw [List.mem_singleton.mp q]; exact hv
theorem RoomsFor.same {H H' : Hp} {kvs : List (Key × V)} {cs : List Str} {rm : Str → List Int} (h : RoomsFor H kvs cs rm) (s : ∀ a vs, H a = some (.tup vs) → H' a = some (.tup vs)) : RoomsFor H' kvs cs rm := fun c hc => by
  obtain ⟨a, e1, e2⟩ := h c hc
  exact ⟨a, e1, s _ _ e2⟩
noncomputable def setF {α : Type} (f : Str → α) (c : Str) (v : α) : Str → α := fun x => if x = c then v else f x
theorem RoomsFor.put {H H' : Hp} {kvs : List (Key × V)} {cs : List Str} {rm : Str → List Int} {c : Str} {t : Addr} {ns : List Int} (h : RoomsFor H kvs cs rm) (hc : c ∉ cs) (s : ∀ a vs, H a = some (.tup vs) → H' a = some (.tup vs)) (ht : H' t = some (.tup (ns.map V.int))) :
    RoomsFor H' (putK kvs (Sum.inr c) (.ref t)) (cs ++ [c]) (setF rm c ns) := fun x hx => by
  rcases List.mem_append.mp hx with q | q
  · have hne : x ≠ c := fun e => hc (e ▸ q)
    obtain ⟨a, e1, e2⟩ := h x q
    refine ⟨a, ?_, ?_⟩
    · rw [valV_put, if_neg (fun e => hne (Sum.inr.inj e))]; exact e1
    · unfold setF; rw [if_neg hne]; exact s _ _ e2
  · rw [List.mem_singleton.mp q]
    refine ⟨t, by rw [valV_put, if_pos rfl], ?_⟩
    unfold setF; rw [if_pos rfl]; exact ht
noncomputable def IsFill (H : Hp) (x : V) (cs : List Str) (g : Str → Int) : Prop := ∃ a kvs, x = .ref a ∧ H a = some (.dK kvs) ∧ (∀ c ∈ cs, valV kvs (Sum.inr c) = some (.int (g c))) ∧ kvs.length ≤ cs.length ∧ ∀ x ∈ kvs, plainV x.2 = true
theorem IsFill.keep {H H' : Hp} {x : V} {cs : List Str} {g : Str → Int} (h : IsFill H x cs g) (k : ∀ a kvs, H a = some (.dK kvs) → H' a = some (.dK kvs)) : IsFill H' x cs g := by
  obtain ⟨a, kvs, e, h1, h2⟩ := h
  exact ⟨a, kvs, e, k _ _ h1, h2⟩
theorem setF_same {α : Type} (g : Str → α) (c : Str) (v : α) : setF g c v c = v := by unfold setF; rw [if_pos rfl]
theorem setF_ne {α : Type} (g : Str → α) {c x : Str} (v : α) (h : x ≠ c) : setF g c v x = g x := by unfold setF; rw [if_neg h]
theorem IsFill.put {H' : Hp} {cs : List Str} {c : Str} {g : Str → Int} {v : Int} {kvs : List (Key × V)} {q : Addr} (h : ∀ x ∈ cs, valV kvs (Sum.inr x) = some (.int (g x))) (hk : kvs.length ≤ cs.length ∧ ∀ x ∈ kvs, plainV x.2 = true) (hc : c ∉ cs) (hq : H' q = some (.dK (putK kvs (Sum.inr c) (.int v)))) : IsFill H' (.ref q) (cs ++ [c]) (setF g c v) := by
  refine ⟨q, _, rfl, hq, fun x hx => ?_, Nat.le_trans (length_putK _ _ _) (by have := hk.1; simp; omega), plain_put hk.2 rfl⟩
  rw [valV_put]
  by_cases e : x = c
  · subst e; rw [if_pos rfl, setF_same]
  · rw [if_neg (fun z => e (Sum.inr.inj z)), setF_ne _ _ e]
    rcases List.mem_append.mp hx with z | z
    · exact h x z
    · exact absurd (List.mem_singleton.mp z) e
noncomputable def spPool5 : Sp := fun vs H Q _ => ∃ (d l : Addr), vs = [.ref d] ∧ DealAt H d l ∧ ∀ (p : Addr) (ns : List Int) (H' : Hp), H p = none → ns.length = 5 → ns.Pairwise (· < ·) → (∀ x ∈ ns, -1000000 ≤ x ∧ x ≤ 1000000) → H' p = some (.lst (ns.map V.int)) → DealAt H' d l → But d l H H' → Q (.ref p) H'
noncomputable def spSome : Sp := fun vs H Q _ => ∃ (d l a : Addr) (m : Int) (xs : List V), vs = [.ref d, .ref a, .int m] ∧ DealAt H d l ∧ sqOf H a xs ∧ 0 ≤ m ∧ m ≤ xs.length ∧ xs.length ≤ 60 ∧
  ∀ (p : Addr) (got rest : List V) (H' : Hp), H p = none → (got ++ rest).Perm xs → m ≤ got.length → H' p = some (.tup got) → DealAt H' d l → But d l H H' → Q (.ref p) H'
theorem lay_ints : ∀ ns : List Int, PyData.canLayAll0 (ns.map PyData.int) = true
  | [] => rfl
  | n :: ns => by
    rw [List.map_cons]
    unfold PyData.canLayAll0
    rw [lay_ints ns]
    rfl
theorem depth_ints : ∀ ns : List Int, PyData.depthAll (ns.map PyData.int) = 0
  | [] => rfl
  | n :: ns => by
    rw [List.map_cons]
    unfold PyData.depthAll
    rw [depth_ints ns]
    rfl
theorem eq_nil_ints (ns : List Int) : PyData.eqv (.list (ns.map PyData.int)) (.list []) = decide (ns = []) := by
  cases ns with
  | nil => rfl
  | cons n ns => simp [PyData.eqv, PyData.eqvAll]
theorem RoomsFor.putG {H H' : Hp} {kvs : List (Key × V)} {cs cs' : List Str} {rm : Str → List Int} {c : Str} {t : Addr} {ns : List Int} (h : RoomsFor H kvs cs rm) (s : ∀ a vs, H a = some (.tup vs) → H' a = some (.tup vs)) (ht : H' t = some (.tup (ns.map V.int))) (sub : ∀ x ∈ cs', x = c ∨ x ∈ cs) :
    RoomsFor H' (putK kvs (Sum.inr c) (.ref t)) cs' (setF rm c ns) := fun x hx => by
  by_cases e : x = c
  · subst e
    exact ⟨t, by rw [valV_put, if_pos rfl], by unfold setF; rw [if_pos rfl]; exact ht⟩
  · obtain ⟨a, e1, e2⟩ := h x ((sub x hx).resolve_left e)
    exact ⟨a, by rw [valV_put, if_neg (fun z => e (Sum.inr.inj z))]; exact e1, by unfold setF; rw [if_neg e]; exact s _ _ e2⟩
theorem perm_inv {α : Type} (f : α → V) (inv : V → α) (hi : ∀ x, inv (f x) = x) {got rest : List V} {xs : List α} (h : (got ++ rest).Perm (xs.map f)) : ∃ ys zs : List α, got = ys.map f ∧ (ys ++ zs).Perm xs := by
  refine ⟨got.map inv, rest.map inv, ?_, ?_⟩
  · rw [List.map_map]
    have : ∀ v ∈ got, f (inv v) = v := fun v hv => by
      obtain ⟨x, _, rfl⟩ := List.mem_map.mp (h.mem_iff.mp (List.mem_append_left _ hv))
      rw [hi]
    conv => lhs; rw [← List.map_id got]
    exact List.map_congr_left fun v hv => (this v hv).symm
  · have := h.map inv
    rw [List.map_append, List.map_map] at this
    have e : xs.map (inv ∘ f) = xs := by
      conv => rhs; rw [← List.map_id xs]
      exact List.map_congr_left fun x _ => hi x
    rw [e] at this
    exact this
noncomputable def invS : V → Str | .str s => s | _ => ""
theorem ok__law_pool {P : Program} {w : World} {K : PySem.W.Frag} {mg : Str → Option Value} {base : Heap}  (T : Txt K mg) (L : FnL K mg "_law_pool" s__law_pool ["_law_deal_here"]) (F_law_draw : Fn P w K mg base "_law_draw" 1 ["_law_deal_here", "_law_many"] (spDraw)) : Fn P w K mg base "_law_pool" 2 ["_law_deal_here"] (spPool5) := by
  have nd := sc__law_pool.nd
  refine L.ok sc__law_pool (fun vs H Q E h => ?_) (fun f cdv A outer s H vs Q E hr h => ?_)
  · obtain ⟨d, l, rfl, D, k⟩ := h
    rfl
  · obtain ⟨d, l, rfl, D, k⟩ := h
    have hu := hu_of hr
    refine ⟨_, (pss_cons (ps_set (i := 1) nd rfl (by first | exact Or.inl rfl | exact Or.inr rfl) (pe_op op_sub (pe_callF F_law_draw (hr.mono (by first | decide | omega)) rfl (pa_cons (pvM 0) (pa_cons pe_int pa_nil))) pe_int))
      (pss_cons (ps_if (pt_cmpR op_eq (pe_callF F_law_draw (hr.mono (by first | decide | omega)) rfl (pa_cons (pvM 0) (pa_cons pe_int pa_nil))) pe_int (nomark _)) (pss_one (ps_set (i := 1) nd rfl (by first | exact Or.inl rfl | exact Or.inr rfl) (pe_op op_sub (pe_callF F_law_draw (hr.mono (by first | decide | omega)) rfl (pa_cons (pvM 0) (pa_cons pe_int pa_nil))) pe_int))) pss_nil)
      (pss_cons (ps_set (i := 2) nd rfl (by first | exact Or.inl rfl | exact Or.inr rfl) (pe_lst pa_nil))
      (pss_cons (ps_for PassesOwn.never rfl (pi_range1 rfl T.b_range (pa_cons pe_int pa_nil)) (pg_name (i := 3) nd rfl (by first | exact Or.inl rfl | exact Or.inr rfl)) (pss_cons (ps_expr (pe_mL PySem.F.slot_list_append PySem.F.type_list_append ml_append (pvM 2) (pa_cons (pvM 1) pa_nil)))
      (pss_one (ps_set (i := 1) nd rfl (by first | exact Or.inl rfl | exact Or.inr rfl) (pe_op op_add (pe_op op_add (pvM 1) pe_int) (pe_ix ix_L (pe_lst (pa_cons pe_int (pa_cons (pe_callF F_law_draw (hr.mono (by first | decide | omega)) rfl (pa_cons (pvM 0) (pa_cons pe_int pa_nil))) (pa_cons pe_int pa_nil)))) (pe_callF F_law_draw (hr.mono (by first | decide | omega)) rfl (pa_cons (pvM 0) (pa_cons pe_int pa_nil))) (fun _ _ => rfl)))))))
      (pss_one (ps_ret (pvM 2))))))), ?_⟩
    (try ctx_has vcx true_and)
    refine draw_rd D (by decide) (by decide) fun r H1 r0 r1 D1 B1 => ?_
    (try ctx_has vcx true_and)
    refine draw_rd D1 (by decide) (by decide) fun r2 H2 r20 r21 D2 B2 => ?_
    (try ctx_has vcx true_and)
    refine ite2 (fun h => ?_) (fun h => ?_)
    · refine draw_rd D2 (by decide) (by decide) fun r3 H3 r30 r31 D3 B3 => ?_
      have B3 := (B1.trans B2).trans B3
      refine ⟨_, rfl, by decide, fun p hp => ?_⟩
      have np := D3.ne hp
      have fp : H p = none := B3.free D3 hp
      refine ⟨by decide, by decide, ?_⟩
      refine for_g wlk_range (fun i σ H' => ∃ (ns : List Int) (low : Int) (vk : Option V), σ = [some (.ref d), some (.int low), some (.ref p), vk] ∧ ns.length = i ∧ ns.Pairwise (· < ·) ∧ (∀ x ∈ ns, x < low ∧ -1000000 ≤ x ∧ x ≤ 1000000) ∧ -999500 ≤ low ∧ low ≤ 999500 + 98 * (i : Int) ∧ H' p = some (.lst (ns.map V.int)) ∧ DealAt H' d l ∧ But d l H H')
        ⟨[], _, _, rfl, rfl, .nil, by simp, by omega, by omega, upd_same, D3.new hp, B3.new hp⟩ (fun _ _ _ _ => True.intro) ?_ ?_
      · rintro i x σ H2 hi hx ⟨ns, low, vk, rfl, hlen, hpw, hall, lo0, lo1, h2, D2, B2⟩
        rw [rngV_length] at hi
        have hi5 : i < 5 := hi
        (try ctx_has vcx true_and h2)
        refine ⟨by rw [List.length_map]; exact small1000 (by omega), ?_⟩
        refine draw_rd (D2.put np.1 np.2) (by decide) (by decide) fun r3 H3 r30 r31 D3 B3 => ?_
        refine ⟨by decide, fun p2 hp2 => ?_⟩
        refine draw_of D3 hp2 (by decide) (by decide) rfl fun r5 v H5 hv ha D5 B5 h5 => ?_
        have h5p := B5 p _ np.1 np.2 (B3 p _ np.1 np.2 upd_same)
        obtain ⟨y, rfl, y0, y1⟩ : ∃ y : Int, v = .int y ∧ 0 ≤ y ∧ y ≤ 97 := by
          simp only [List.mem_cons, List.not_mem_nil, or_false] at hv
          rcases hv with rfl | rfl | rfl
          · exact ⟨0, rfl, by decide, by decide⟩
          · exact ⟨r3, rfl, r30, by omega⟩
          · exact ⟨97, rfl, by decide, by decide⟩
        (try ctx_has vcx true_and h5 ha)
        refine ⟨ns ++ [low], by simp; omega, ?_, fun z hz => ?_, by omega, by omega, by rw [h5p]; simp, D5, ((B2.put fp).trans B3).trans B5⟩
        · rw [List.pairwise_append]
          exact ⟨hpw, List.pairwise_singleton _ _, fun x hx y hy => by rw [List.mem_singleton.mp hy]; exact (hall x hx).1⟩
        · rcases List.mem_append.mp hz with q | q
          · have := hall z q; omega
          · rw [List.mem_singleton.mp q]; omega
      · rintro σ H2 ⟨ns, low, vk, rfl, hlen, hpw, hall, lo0, lo1, h2, D2, B2⟩
        rw [rngV_length] at hlen
        (try ctx_has vcx true_and)
        exact k p ns H2 fp hlen hpw (fun x hx => (hall x hx).2) h2 D2 B2
    · have B2 := B1.trans B2
      refine ⟨by decide, fun p hp => ?_⟩
      have np := D2.ne hp
      have fp : H p = none := B2.free D2 hp
      refine ⟨by decide, by decide, ?_⟩
      refine for_g wlk_range (fun i σ H' => ∃ (ns : List Int) (low : Int) (vk : Option V), σ = [some (.ref d), some (.int low), some (.ref p), vk] ∧ ns.length = i ∧ ns.Pairwise (· < ·) ∧ (∀ x ∈ ns, x < low ∧ -1000000 ≤ x ∧ x ≤ 1000000) ∧ -999500 ≤ low ∧ low ≤ 999500 + 98 * (i : Int) ∧ H' p = some (.lst (ns.map V.int)) ∧ DealAt H' d l ∧ But d l H H')
        ⟨[], _, _, rfl, rfl, .nil, by simp, by omega, by omega, upd_same, D2.new hp, B2.new hp⟩ (fun _ _ _ _ => True.intro) ?_ ?_
      · rintro i x σ H2 hi hx ⟨ns, low, vk, rfl, hlen, hpw, hall, lo0, lo1, h2, D2, B2⟩
        rw [rngV_length] at hi
        have hi5 : i < 5 := hi
        (try ctx_has vcx true_and h2)
        refine ⟨by rw [List.length_map]; exact small1000 (by omega), ?_⟩
        refine draw_rd (D2.put np.1 np.2) (by decide) (by decide) fun r3 H3 r30 r31 D3 B3 => ?_
        refine ⟨by decide, fun p2 hp2 => ?_⟩
        refine draw_of D3 hp2 (by decide) (by decide) rfl fun r5 v H5 hv ha D5 B5 h5 => ?_
        have h5p := B5 p _ np.1 np.2 (B3 p _ np.1 np.2 upd_same)
        obtain ⟨y, rfl, y0, y1⟩ : ∃ y : Int, v = .int y ∧ 0 ≤ y ∧ y ≤ 97 := by
          simp only [List.mem_cons, List.not_mem_nil, or_false] at hv
          rcases hv with rfl | rfl | rfl
          · exact ⟨0, rfl, by decide, by decide⟩
          · exact ⟨r3, rfl, r30, by omega⟩
          · exact ⟨97, rfl, by decide, by decide⟩
        (try ctx_has vcx true_and h5 ha)
        refine ⟨ns ++ [low], by simp; omega, ?_, fun z hz => ?_, by omega, by omega, by rw [h5p]; simp, D5, ((B2.put fp).trans B3).trans B5⟩
        · rw [List.pairwise_append]
          exact ⟨hpw, List.pairwise_singleton _ _, fun x hx y hy => by rw [List.mem_singleton.mp hy]; exact (hall x hx).1⟩
        · rcases List.mem_append.mp hz with q | q
          · have := hall z q; omega
          · rw [List.mem_singleton.mp q]; omega
      · rintro σ H2 ⟨ns, low, vk, rfl, hlen, hpw, hall, lo0, lo1, h2, D2, B2⟩
        rw [rngV_length] at hlen
        (try ctx_has vcx true_and)
        exact k p ns H2 fp hlen hpw (fun x hx => (hall x hx).2) h2 D2 B2
theorem ok__law_some {P : Program} {w : World} {K : PySem.W.Frag} {mg : Str → Option Value} {base : Heap}  (T : Txt K mg) (L : FnL K mg "_law_some" s__law_some ["_law_deal_here", "_law_things", "_law_least"]) (F_law_draw : Fn P w K mg base "_law_draw" 1 ["_law_deal_here", "_law_many"] (spDraw)) : Fn P w K mg base "_law_some" 2 ["_law_deal_here", "_law_things", "_law_least"] (spSome) := by
  have nd := sc__law_some.nd
  refine L.ok sc__law_some (fun vs H Q E h => ?_) (fun f cdv A outer s H vs Q E hr h => ?_)
  · obtain ⟨d, l, a, m, xs, rfl, D, ha, m0, m1, hxl, k⟩ := h
    rfl
  · obtain ⟨d, l, a, m, xs, rfl, D, ha, m0, m1, hxl, k⟩ := h
    have hu := hu_of hr
    refine ⟨_, (pss_cons (ps_set (i := 3) nd rfl (by first | exact Or.inl rfl | exact Or.inr rfl) (pe_callTy call_listS rfl T.b_list (show bootBuiltins "list" = some (.type "list") by decide +kernel) (pa_cons (pvM 1) pa_nil)))
      (pss_cons (ps_set (i := 4) nd rfl (by first | exact Or.inl rfl | exact Or.inr rfl) (pe_lst pa_nil))
      (pss_cons (ps_for PassesOwn.never rfl (pi_range1 rfl T.b_range (pa_cons (pe_op op_add (pvM 2) (pe_callF F_law_draw (hr.mono (by first | decide | omega)) rfl (pa_cons (pvM 0) (pa_cons (pe_op op_add (pe_op op_sub (pe_callB call_lenL rfl T.b_len PySem.boot_len (pa_cons (pvM 3) pa_nil)) (pvM 2)) pe_int) pa_nil)))) pa_nil)) (pg_name (i := 5) nd rfl (by first | exact Or.inl rfl | exact Or.inr rfl)) (pss_one (ps_expr (pe_mL PySem.F.slot_list_append PySem.F.type_list_append ml_append (pvM 4) (pa_cons (pe_mL PySem.F.slot_list_pop PySem.F.type_list_pop ml_popAt (pvM 3) (pa_cons (pe_callF F_law_draw (hr.mono (by first | decide | omega)) rfl (pa_cons (pvM 0) (pa_cons (pe_callB call_lenL rfl T.b_len PySem.boot_len (pa_cons (pvM 3) pa_nil)) pa_nil))) pa_nil)) pa_nil)))))
      (pss_one (ps_ret (pe_callTy call_tupL rfl T.b_tuple (show bootBuiltins "tuple" = some (.type "tuple") by decide +kernel) (pa_cons (pvM 4) pa_nil))))))), ?_⟩
    (try ctx_has vcx true_and)
    refine ⟨xs, ha, fun u hu1 => ?_⟩
    have nu := D.ne hu1
    refine ⟨by decide, fun g hg => ?_⟩
    have ug : u ≠ g := by rintro rfl; rw [upd_same] at hg; cases hg
    have hg0 : H g = none := by rwa [upd_ne ug.symm] at hg
    have ng := D.ne hg0
    have D1 := (D.new (o := .lst xs) hu1).new (o := .lst []) hg
    have h1u : upd (upd H u (.lst xs)) g (.lst []) u = some (.lst xs) := by rw [upd_ne ug]; exact upd_same
    have h1g : upd (upd H u (.lst xs)) g (.lst []) g = some (.lst []) := upd_same
    have B1 : But d l H (upd (upd H u (.lst xs)) g (.lst [])) := ((But.refl H).new hu1).new hg
    generalize upd (upd H u (.lst xs)) g (.lst []) = H1 at D1 h1u h1g B1 ⊢
    (try ctx_has vcx true_and h1u)
    refine draw_rd D1 (by omega) (by omega) fun r H2 r0 r1 D2 B2 => ?_
    refine ⟨_, rfl, by omega, by omega, ?_⟩
    refine for_g wlk_range (fun i σ H' => ∃ (got rest : List V) (v5 : Option V), σ = [some (.ref d), some (.ref a), some (.int m), some (.ref u), some (.ref g), v5] ∧ got.length = i ∧ (got ++ rest).Perm xs ∧ H' g = some (.lst got) ∧ H' u = some (.lst rest) ∧ DealAt H' d l ∧ But d l H H')
      ⟨[], xs, _, rfl, rfl, .refl _, B2 g _ ng.1 ng.2 h1g, B2 u _ nu.1 nu.2 h1u, D2, B1.trans B2⟩ (fun _ _ _ _ => True.intro) ?_ ?_
    · rintro j y σ H5 hj hy ⟨got, rest, v5, rfl, hgl, hperm, h5g, h5u, D5, B5⟩
      rw [rngV_length] at hj
      have hlr : got.length + rest.length = xs.length := by rw [← List.length_append]; exact hperm.length_eq
      (try ctx_has vcx true_and h5g h5u)
      refine draw_rd D5 (by omega) (by omega) fun r6 H6 r60 r61 D6 B6 => ?_
      have h6u := B6 u _ nu.1 nu.2 h5u
      have h6g := B6 g _ ng.1 ng.2 h5g
      (try ctx_has vcx true_and h6u)
      refine ⟨r60, r61, by omega, fun z hz => ?_⟩
      have hlt : r6.toNat < rest.length := (List.getElem?_eq_some_iff.mp hz).1
      refine ⟨_, by rw [upd_ne ug.symm]; exact h6g, small1000 (by omega), got ++ [z], by simp; omega, rest.eraseIdx r6.toNat, ?_, upd_same, by rw [upd_ne ug]; exact upd_same, (D6.put nu.1 nu.2).put ng.1 ng.2, ((B5.trans B6).put hu1).put hg0⟩
      refine List.Perm.trans ?_ hperm
      rw [List.append_assoc]
      refine List.Perm.append_left got ?_
      rw [(List.getElem?_eq_some_iff.mp hz).2.symm]
      exact perm_erase hlt
    · rintro σ H5 ⟨got, rest, v5, rfl, hgl, hperm, h5g, h5u, D5, B5⟩
      rw [rngV_length] at hgl
      (try ctx_has vcx true_and h5g)
      intro t ht
      exact k t got rest _ (B5.free D5 ht) hperm (by omega) upd_same (D5.new ht) (B5.new ht)
noncomputable def ld {α : Type} [DecidableEq α] (m : List (α × α)) (x : α) : α := ((m.find? fun y => decide (y.1 = x)).map (·.2)).getD x
noncomputable def PM {α : Type} (m : List (α × α)) : Prop := (m.map (·.1)).Nodup ∧ (m.map (·.2)).Perm (m.map (·.1))
noncomputable def kvS (m : List (Str × Str)) : List (Key × V) := m.map fun x => (Sum.inr x.1, .str x.2)
noncomputable def kvI (m : List (Int × Int)) : List (Key × V) := m.map fun x => (Sum.inl x.1, .int x.2)
theorem valS (m : List (Str × Str)) (s : Str) : (valV (kvS m) (Sum.inr s)).getD (.str s) = .str (ld m s) := by
  unfold ld
  induction m with
  | nil => rfl
  | cons y m ih =>
    unfold kvS at ih ⊢
    rw [List.map_cons]
    by_cases e : y.1 = s
    · rw [valV_pos (by rw [e]), List.find?_cons, decide_eq_true e]; rfl
    · rw [valV_neg (fun z => e (Sum.inr.inj z)), List.find?_cons, decide_eq_false e]; exact ih
theorem valI (m : List (Int × Int)) (s : Int) : (valV (kvI m) (Sum.inl s)).getD (.int s) = .int (ld m s) := by
  unfold ld
  induction m with
  | nil => rfl
  | cons y m ih =>
    unfold kvI at ih ⊢
    rw [List.map_cons]
    by_cases e : y.1 = s
    · rw [valV_pos (by rw [e]), List.find?_cons, decide_eq_true e]; rfl
    · rw [valV_neg (fun z => e (Sum.inl.inj z)), List.find?_cons, decide_eq_false e]; exact ih
section
variable {α : Type} [DecidableEq α] {m : List (α × α)}
theorem ld_at (h : (m.map (·.1)).Nodup) {y : α × α} (hy : y ∈ m) : ld m y.1 = y.2 := by
  unfold ld
  induction m with
  | nil => cases hy
  | cons z m ih =>
    rw [List.map_cons, List.nodup_cons] at h
    rw [List.find?_cons]
    rcases List.mem_cons.mp hy with rfl | hy
    · rw [decide_eq_true rfl]; rfl
    · rw [decide_eq_false (fun e : z.1 = y.1 => h.1 (by rw [e]; exact List.mem_map.mpr ⟨y, hy, rfl⟩))]
      exact ih h.2 hy
theorem ld_off {x : α} (h : x ∉ m.map (·.1)) : ld m x = x := by
  unfold ld
  have : m.find? (fun y => decide (y.1 = x)) = none := by
    rw [List.find?_eq_none]
    intro y hy hd
    exact h (List.mem_map.mpr ⟨y, hy, of_decide_eq_true hd⟩)
  rw [this]
  rfl
theorem ld_mem (h : PM m) {x : α} (hx : x ∈ m.map (·.1)) : ∃ y ∈ m, y.1 = x ∧ ld m x = y.2 := by
  obtain ⟨y, hy, rfl⟩ := List.mem_map.mp hx
  exact ⟨y, hy, rfl, ld_at h.1 hy⟩
theorem ld_in (h : PM m) {x : α} (hx : x ∈ m.map (·.1)) : ld m x ∈ m.map (·.1) := by
  obtain ⟨y, hy, _, e⟩ := ld_mem h hx
  rw [e]
  exact h.2.mem_iff.mp (List.mem_map.mpr ⟨y, hy, rfl⟩)
theorem snd_inj (h : PM m) {y z : α × α} (hy : y ∈ m) (hz : z ∈ m) (e : y.2 = z.2) : y = z := by
  have hn : (m.map (·.2)).Nodup := h.2.nodup_iff.mpr h.1
  clear h
  induction m with
  | nil => cases hy
  | cons w m ih =>
    rw [List.map_cons, List.nodup_cons] at hn
    rcases List.mem_cons.mp hy with rfl | hy'
    · rcases List.mem_cons.mp hz with rfl | hz'
      · rfl
      · exact absurd (List.mem_map.mpr ⟨z, hz', e.symm⟩) hn.1
    · rcases List.mem_cons.mp hz with rfl | hz'
      · exact absurd (List.mem_map.mpr ⟨y, hy', e⟩) hn.1
      · exact ih hy' hz' hn.2
theorem ld_inj (h : PM m) {x z : α} (e : ld m x = ld m z) : x = z := by
  by_cases hx : x ∈ m.map (·.1)
  · obtain ⟨a, ha, rfl, ea⟩ := ld_mem h hx
    by_cases hz : z ∈ m.map (·.1)
    · obtain ⟨b, hb, rfl, eb⟩ := ld_mem h hz
      rw [ea, eb] at e
      rw [snd_inj h ha hb e]
    · rw [ld_off hz] at e
      exact absurd (e ▸ ld_in h hx) hz
  · by_cases hz : z ∈ m.map (·.1)
    · rw [ld_off hx] at e
      exact absurd (e.symm ▸ ld_in h hz) hx
    · rw [ld_off hx, ld_off hz] at e
      exact e
noncomputable def swp (m : List (α × α)) : List (α × α) := m.map fun x => (x.2, x.1)
theorem swp_pm (h : PM m) : PM (swp m) := by
  unfold swp PM
  rw [List.map_map, List.map_map]
  exact ⟨h.2.nodup_iff.mpr h.1, h.2.symm⟩
theorem ld_back (h : PM m) (x : α) : ld (swp m) (ld m x) = x := by
  by_cases hx : x ∈ m.map (·.1)
  · obtain ⟨a, ha, rfl, ea⟩ := ld_mem h hx
    rw [ea]
    exact ld_at (y := (a.2, a.1)) (swp_pm h).1 (List.mem_map.mpr ⟨a, ha, rfl⟩)
  · rw [ld_off hx]
    refine ld_off fun z => hx ?_
    unfold swp at z
    rw [List.map_map] at z
    exact h.2.mem_iff.mp z
end
structure TurnAt (H : Hp) (t na va : Addr) (mS : List (Str × Str)) (mI : List (Int × Int)) : Prop where
  ht : H t = some (.tup [.ref na, .ref va])
  hn : H na = some (.dK (kvS mS))
  hv : H va = some (.dK (kvI mI))
  ps : PM mS
  pi : PM mI
  ls : mS.length ≤ 40
  li : mI.length ≤ 40
theorem TurnAt.same {H H' : Hp} {t na va : Addr} {mS : List (Str × Str)} {mI : List (Int × Int)} (h : TurnAt H t na va mS mI) (s : Same H H') : TurnAt H' t na va mS mI := ⟨s _ _ h.ht, s _ _ h.hn, s _ _ h.hv, h.ps, h.pi, h.ls, h.li⟩
noncomputable def spLedS : Sp := fun vs H Q _ => ∃ (a : Addr) (s : Str) (m : List (Str × Str)), vs = [.ref a, .str s] ∧ H a = some (.dK (kvS m)) ∧ Q (.str (ld m s)) H
noncomputable def spLedI : Sp := fun vs H Q _ => ∃ (a : Addr) (s : Int) (m : List (Int × Int)), vs = [.ref a, .int s] ∧ H a = some (.dK (kvI m)) ∧ Q (.int (ld m s)) H
noncomputable def spLed : Sp := fun vs H Q E => ∃ x y, vs = [x, y] ∧ (spLedS vs H Q E ∨ spLedI vs H Q E)
noncomputable def spAllLedS : Sp := fun vs H Q _ => ∃ (a t : Addr) (cs : List Str) (m : List (Str × Str)), vs = [.ref a, .ref t] ∧ H a = some (.dK (kvS m)) ∧ H t = some (.tup (cs.map V.str)) ∧ cs.length ≤ 60 ∧ ∀ p H', Same H H' → H' p = some (.tup ((cs.map (ld m)).map V.str)) → Q (.ref p) H'
noncomputable def spAllLedI : Sp := fun vs H Q _ => ∃ (a t : Addr) (cs : List Int) (m : List (Int × Int)), vs = [.ref a, .ref t] ∧ H a = some (.dK (kvI m)) ∧ H t = some (.tup (cs.map V.int)) ∧ cs.length ≤ 60 ∧ ∀ p H', Same H H' → H' p = some (.tup ((cs.map (ld m)).map V.int)) → Q (.ref p) H'
noncomputable def spAllLed : Sp := fun vs H Q E => ∃ x y, vs = [x, y] ∧ (spAllLedS vs H Q E ∨ spAllLedI vs H Q E)
theorem led_str {a : Addr} {s : Str} {m : List (Str × Str)} {H : Hp} {Q : VK} {E : XK} (h1 : H a = some (.dK (kvS m))) (k : Q (.str (ld m s)) H) : spLed [.ref a, .str s] H Q E := ⟨_, _, rfl, .inl ⟨a, s, m, rfl, h1, k⟩⟩
theorem led_int {a : Addr} {s : Int} {m : List (Int × Int)} {H : Hp} {Q : VK} {E : XK} (h1 : H a = some (.dK (kvI m))) (k : Q (.int (ld m s)) H) : spLed [.ref a, .int s] H Q E := ⟨_, _, rfl, .inr ⟨a, s, m, rfl, h1, k⟩⟩
theorem all_int {a t : Addr} {cs : List Int} {m : List (Int × Int)} {H : Hp} {Q : VK} {E : XK} (h1 : H a = some (.dK (kvI m))) (h2 : H t = some (.tup (cs.map V.int))) (hl : cs.length ≤ 60) (k : ∀ p H', Same H H' → H' p = some (.tup ((cs.map (ld m)).map V.int)) → Q (.ref p) H') : spAllLed [.ref a, .ref t] H Q E := ⟨_, _, rfl, .inr ⟨a, t, cs, m, rfl, h1, h2, hl, k⟩⟩
theorem ok_led {P : Program} {w : World} {K : PySem.W.Frag} {mg : Str → Option Value} {base : Heap}  (T : Txt K mg) (L : FnL K mg "led" s_led ["leads", "thing"])  : Fn P w K mg base "led" 1 ["leads", "thing"] (spLed) := by
  have nd := sc_led.nd
  refine L.ok sc_led (fun vs H Q E h => ?_) (fun f cdv A outer s H vs Q E hr h => ?_)
  · obtain ⟨x0, y0, rfl, h⟩ := h
    rfl
  · obtain ⟨x0, y0, rfl, h⟩ := h
    have hu := hu_of hr
    refine ⟨_, (pss_one (ps_ret (pe_dget2 hu (pvM 0) (pvM 1) (pvM 1) ⟨rfl, rfl, rfl, rfl⟩))), ?_⟩
    rcases h with ⟨a, s, m, e, ha, q⟩ | ⟨a, s, m, e, ha, q⟩ <;> cases e
    · (try ctx_has vcx true_and tDGet2 ha)
      refine ⟨.inl ⟨_, .inl ha⟩, _, .inl ⟨_, Sum.inr s, .inl ha, rfl, rfl⟩, ?_⟩
      rw [valS]
      exact q
    · (try ctx_has vcx true_and tDGet2 ha)
      refine ⟨.inl ⟨_, .inl ha⟩, _, .inl ⟨_, Sum.inl s, .inl ha, rfl, rfl⟩, ?_⟩
      rw [valI]
      exact q
theorem ok_all_led {P : Program} {w : World} {K : PySem.W.Frag} {mg : Str → Option Value} {base : Heap}  (T : Txt K mg) (L : FnL K mg "all_led" s_all_led ["leads", "things"]) (Fled : Fn P w K mg base "led" 1 ["leads", "thing"] (spLed)) : Fn P w K mg base "all_led" 2 ["leads", "things"] (spAllLed) := by
  have nd := sc_all_led.nd
  refine L.ok sc_all_led (fun vs H Q E h => ?_) (fun f cdv A outer s H vs Q E hr h => ?_)
  · obtain ⟨x0, y0, rfl, h⟩ := h
    rfl
  · obtain ⟨x0, y0, rfl, h⟩ := h
    have hu := hu_of hr
    refine ⟨_, (pss_one (ps_ret (pe_callTy call_tupL rfl T.b_tuple (show bootBuiltins "tuple" = some (.type "tuple") by decide +kernel) (pa_cons (pe_comp (N := ["thing", "leads"]) (nt := 1) (js := [0]) rfl (compOk_of ["leads", "things"] (defScope s_all_led).names rfl rfl rfl (by decide +kernel)) (pi_TK (K := K) rfl (pvM 1)) (fun _ _ _ _ _ _ => (pg_name (i := 0) (show List.Nodup [("thing" : Str), ("leads" : Str)] by decide +kernel) rfl (Or.inl rfl))) (tgOk_name (by decide)) (fun _ _ _ _ _ _ => pts_nil) (fun _ _ _ _ _ _ => (pe_callF Fled (hr.mono (by first | decide | omega)) rfl (pa_cons (pvM 1) (pa_cons (pvM 0) pa_nil))))) pa_nil)))), ?_⟩
    rcases h with ⟨a, t, cs, m, e, ha, ht, hl, k⟩ | ⟨a, t, cs, m, e, ha, ht, hl, k⟩ <;> cases e
    · (try ctx_has vcx true_and ht)
      intro D hD
      refine comp_mapS wlk_tup (fun v => match v with | .str c => .str (ld m c) | _ => .non) hD (fun H' s => .of (s _ _ ht)) (by simp; omega) ?_ ?_
      · intro x H2 Q2 hx sm q2
        obtain ⟨y, hy, rfl⟩ := List.mem_map.mp hx
        (try ctx_has vcx true_and)
        exact led_str (sm _ _ ha) (q2 H2 (Same.refl _))
      · intro H2 sm h2
        (try ctx_has vcx true_and h2)
        intro p hp
        refine k p _ (sm.upd_new hp) ?_
        rw [upd_same, List.map_map, List.map_map]
        rfl
    · (try ctx_has vcx true_and ht)
      intro D hD
      refine comp_mapS wlk_tup (fun v => match v with | .int c => .int (ld m c) | _ => .non) hD (fun H' s => .of (s _ _ ht)) (by simp; omega) ?_ ?_
      · intro x H2 Q2 hx sm q2
        obtain ⟨y, hy, rfl⟩ := List.mem_map.mp hx
        (try ctx_has vcx true_and)
        exact led_int (sm _ _ ha) (q2 H2 (Same.refl _))
      · intro H2 sm h2
        (try ctx_has vcx true_and h2)
        intro p hp
        refine k p _ (sm.upd_new hp) ?_
        rw [upd_same, List.map_map, List.map_map]
        rfl
noncomputable def kvF (kf : List (Str × Int)) : List (Key × V) := kf.map fun x => (Sum.inr x.1, .int x.2)
theorem valF {kf : List (Str × Int)} (h : (kf.map (·.1)).Nodup) {x : Str × Int} (hx : x ∈ kf) : valV (kvF kf) (Sum.inr x.1) = some (.int x.2) := by
  induction kf with
  | nil => cases hx
  | cons y kf ih =>
    rw [List.map_cons, List.nodup_cons] at h
    unfold kvF
    rw [List.map_cons]
    rcases List.mem_cons.mp hx with rfl | hx
    · exact valV_pos rfl
    · rw [valV_neg (fun e => h.1 (by rw [show y.1 = x.1 from Sum.inr.inj e]; exact List.mem_map.mpr ⟨x, hx, rfl⟩))]
      exact ih h.2 hx
theorem valV_nokey {k : Key} : ∀ {l : List (Key × V)}, k ∉ l.map (·.1) → valV l k = none
  | [], _ => rfl
  | x :: l, h => by
    rw [List.map_cons, List.mem_cons, not_or] at h
    rw [valV_neg (fun e => h.1 e.symm)]
    exact valV_nokey h.2
theorem merge_nodup : ∀ (l acc : List (Key × V)), ((acc ++ l).map (·.1)).Nodup → mergeK acc l = acc ++ l
  | [], acc, _ => by rw [List.append_nil]; rfl
  | x :: l, acc, h => by
    have hx : x.1 ∉ acc.map (·.1) := fun e => by
      rw [List.map_append, List.nodup_append] at h
      exact h.2.2 _ e _ (by rw [List.map_cons]; exact List.mem_cons_self) rfl
    show mergeK (putK acc x.1 x.2) l = _
    rw [putK_new _ (valV_nokey hx), merge_nodup l (acc ++ [(x.1, x.2)]) (by rw [List.append_assoc]; exact h), List.append_assoc]
    rfl
noncomputable def spTF : Sp := fun vs H Q _ => ∃ (t na va f : Addr) (mS : List (Str × Str)) (mI : List (Int × Int)) (kf : List (Str × Int)), vs = [.ref t, .ref f] ∧ TurnAt H t na va mS mI ∧ (f ≠ na ∧ f ≠ va) ∧ H f = some (.dK (kvF kf)) ∧ (kf.map (·.1)).Nodup ∧ kf.length ≤ 40 ∧
  ∀ p H', H p = none → Same H H' → H' p = some (.dK (kvF (kf.map fun x => (ld mS x.1, ld mI x.2)))) → Q (.ref p) H'
theorem ok_turned_filling {P : Program} {w : World} {K : PySem.W.Frag} {mg : Str → Option Value} {base : Heap}  (T : Txt K mg) (L : FnL K mg "turned_filling" s_turned_filling ["turning", "filling"]) (Fled : Fn P w K mg base "led" 1 ["leads", "thing"] (spLed)) : Fn P w K mg base "turned_filling" 2 ["turning", "filling"] (spTF) := by
  have nd := sc_turned_filling.nd
  refine L.ok sc_turned_filling (fun vs H Q E h => ?_) (fun f cdv A outer s H vs Q E hr h => ?_)
  · obtain ⟨t, na, va, f, mS, mI, kf, rfl, T0, nf, hf, hnd, hl, k⟩ := h
    rfl
  · obtain ⟨t, na, va, f, mS, mI, kf, rfl, T0, nf, hf, hnd, hl, k⟩ := h
    have hu := hu_of hr
    refine ⟨_, (pss_one (ps_ret (pe_callTy (call_dictP rfl) rfl T.b_dict (show bootBuiltins "dict" = some (.type "dict") by decide +kernel) (pa_cons (pe_thaw (pe_comp (N := ["cell", "value", "turning"]) (nt := 2) (js := [0]) rfl (compOk_of ["turning", "filling"] (defScope s_turned_filling).names rfl rfl rfl (by decide +kernel)) (pi_items (pvM 1)) (fun _ _ _ _ _ _ => (pg_tupT (n := 2) rfl (pgs_cons (pg_name (i := 0) (show List.Nodup [("cell" : Str), ("value" : Str), ("turning" : Str)] by decide +kernel) rfl (Or.inl rfl)) (pgs_cons (pg_name (i := 1) (show List.Nodup [("cell" : Str), ("value" : Str), ("turning" : Str)] by decide +kernel) rfl (Or.inl rfl)) pgs_nil)))) (tgOk_tupT2 (by decide) (by decide) (by decide)) (fun _ _ _ _ _ _ => pts_nil) (fun _ _ _ _ _ _ => (pe_tup (pa_cons (pe_callF Fled (hr.mono (by first | decide | omega)) rfl (pa_cons (pe_ix ix_T (pvM 2) pe_int (fun _ _ => rfl)) (pa_cons (pvM 0) pa_nil))) (pa_cons (pe_callF Fled (hr.mono (by first | decide | omega)) rfl (pa_cons (pe_ix ix_T (pvM 2) pe_int (fun _ _ => rfl)) (pa_cons (pvM 1) pa_nil))) pa_nil)))))) pa_nil)))), ?_⟩
    have e1 := T0.ht
    (try ctx_has vcx true_and tThawV iI hf rDictP)
    refine ⟨f, _, hf, fun o D hD => ?_⟩
    have fD : D ≠ f := fun z => by rw [z, upd_same] at hD; cases hD
    have hD0 : H D = none := by rw [upd_ne fD] at hD; exact hD
    refine comp_ig (fun j ys H' => ∃ bs : List (Addr × Str × Int), ys = bs.map (fun x => V.ref x.1) ∧ bs.map (·.2) = (kf.take j).map (fun x => (ld mS x.1, ld mI x.2)) ∧ (∀ x ∈ bs, H' x.1 = some (.tup [.str x.2.1, .int x.2.2])) ∧ H' D = some (.lst ys) ∧ H' f = some (.frz o (.dK (kvF kf))) ∧ ∀ b u, b ≠ f → H b = some u → H' b = some u)
      ⟨[], rfl, rfl, by simp, upd_same, by rw [upd_ne fD.symm]; exact upd_same, fun b u hb e => by rw [upd_ne (ne_of_none e hD0), upd_ne hb]; exact e⟩ (fun j ys H' zq39 => by obtain ⟨_, _, _, _, _, h, _⟩ := zq39; exact (h)) ?_ ?_
    · rintro j kk x ys H2 tt hj ⟨bs, rfl, hb, hbt, h2D, h2f, k2⟩ htt
      obtain ⟨y, hy, e⟩ : ∃ y, kf[j]? = some y ∧ (Sum.inr y.1, V.int y.2) = (kk, x) := by
        unfold kvF at hj
        rw [List.getElem?_map] at hj
        cases e : kf[j]? with
        | none => rw [e] at hj; cases hj
        | some nm => rw [e] at hj; exact ⟨nm, rfl, Option.some.inj hj⟩
      cases e
      have hjl : j < kf.length := (List.getElem?_eq_some_iff.mp hy).1
      have s3 := Same.upd0 (o := .tup [.str y.1, .int y.2]) htt
      have k3 : ∀ b u, b ≠ f → H b = some u → upd H2 tt (.tup [.str y.1, .int y.2]) b = some u := fun b u hb e => s3 _ _ (k2 b u hb e)
      have e3 := k3 t _ (ne_of e1 hf (by intro z; cases z)) e1
      have hna := k3 na _ nf.1.symm T0.hn
      have hva := k3 va _ nf.2.symm T0.hv
      have hbl : bs.length ≤ j := by
        have := congrArg List.length hb
        rw [List.length_map, List.length_map] at this
        rw [this]
        exact List.length_take_le _ _
      (try ctx_has vcx true_and upd_same kV e3)
      refine led_str hna ?_
      refine ⟨_, e3, _, atI_nat (j := 1) rfl, ?_⟩
      refine led_int hva ?_
      refine ⟨by decide, fun t2 ht2 => ?_⟩
      have s4 := s3.upd_new (o := .tup [.str (ld mS y.1), .int (ld mI y.2)]) ht2
      have h4D := s4 _ _ h2D
      have kt : ∀ b xs, upd (upd H2 tt (.tup [.str y.1, .int y.2])) t2 (.tup [.str (ld mS y.1), .int (ld mI y.2)]) b = some (.tup xs) → upd (upd (upd H2 tt (.tup [.str y.1, .int y.2])) t2 (.tup [.str (ld mS y.1), .int (ld mI y.2)])) D (.lst (bs.map (fun x => V.ref x.1) ++ [.ref t2])) b = some (.tup xs) := fun b xs q => by rw [upd_ne (ne_of q h4D (by intro z; cases z))]; exact q
      refine ⟨h4D, by rw [List.length_map]; exact small1000 (by omega), bs ++ [(t2, ld mS y.1, ld mI y.2)], by simp, ?_, fun x hx => ?_, ?_, fun b u hb e => ?_⟩
      · rw [List.map_append, hb, List.take_add_one, hy, List.map_append]; rfl
      · rcases List.mem_append.mp hx with q | q
        · exact kt _ _ (s4 _ _ (hbt x q))
        · rw [List.mem_singleton.mp q]; exact kt _ _ upd_same
      · rw [upd_ne fD.symm]; exact s4 _ _ h2f
      · rw [upd_ne (ne_of_none e hD0)]; exact s4 _ _ (k2 b u hb e)
    · rintro ys H2 ⟨bs, rfl, hb, hbt, h2D, h2f, k2⟩
      have hl2 : (kvF kf).length = kf.length := by unfold kvF; rw [List.length_map]
      rw [hl2, List.take_length] at hb
      have s3 : Same H (upd H2 f (.dK (kvF kf))) := fun b u e => by
        by_cases hb : b = f
        · subst hb; rw [upd_same, ← e, hf]
        · rw [upd_ne hb]; exact k2 b u hb e
      have hbl : bs.length = kf.length := by have := congrArg List.length hb; simpa using this
      have hprs : (bs.map fun x => ((Sum.inr x.2.1 : Key), V.int x.2.2)) = kvF (kf.map fun x => (ld mS x.1, ld mI x.2)) := by
        unfold kvF
        rw [← hb, List.map_map]
        rfl
      refine ⟨⟨o, h2f⟩, D, rfl, _, .inr (by rw [upd_ne fD]; exact h2D), bs.map (fun x => (Sum.inr x.2.1, .int x.2.2)), ⟨bs.map fun x => (x.1, Sum.inr x.2.1, .int x.2.2), by rw [List.map_map]; rfl, by rw [List.map_map]; rfl, fun x hx => ?_⟩, by rw [List.length_map]; exact Nat.le_of_lt (small1000 (by omega)), fun p hp => ?_⟩
      · obtain ⟨y, hy, rfl⟩ := List.mem_map.mp hx
        rw [upd_ne (ne_of (hbt y hy) h2f (by intro z; cases z))]
        exact hbt y hy
      · rw [hprs, merge_nodup _ [] ?_]
        · exact k p _ (s3.free hp) (s3.upd_new hp) upd_same
        · unfold kvF
          rw [List.nil_append, List.map_map, List.map_map]
          have : (kf.map fun x => (Sum.inr (ld mS x.1) : Key)) = (kf.map (·.1)).map fun s => Sum.inr (ld mS s) := by rw [List.map_map]; rfl
          show (kf.map fun x => (Sum.inr (ld mS x.1) : Key)).Nodup
          rw [this]
          exact List.Pairwise.map _ (fun a b hab e => hab (ld_inj T0.ps (Sum.inr.inj e))) hnd
theorem But.tup {d l : Addr} {H H1 : Hp} (a : But d l H H1) (D : DealAt H d l) {p : Addr} {vs : List V} (h : H p = some (.tup vs)) : H1 p = some (.tup vs) := by
  obtain ⟨m, sd, n, xs, hd, hl, _⟩ := D.ex
  exact a p _ (ne_of h hd (by intro z; cases z)) (ne_of h hl (by intro z; cases z)) h
theorem Same.but {d l : Addr} {H H' : Hp} (s : Same H H') : But d l H H' := fun b o _ _ e => s b o e
noncomputable def kvK (m : List (Key × Key)) : List (Key × V) := m.map fun x => (x.1, kV x.2)
noncomputable def invK : V → Key | .str s => Sum.inr s | .int i => Sum.inl i | _ => Sum.inl 0
theorem inv_kV (k : Key) : invK (kV k) = k := by cases k <;> rfl
noncomputable def upS (m : List (Str × Str)) : List (Key × Key) := m.map fun x => (Sum.inr x.1, Sum.inr x.2)
noncomputable def upI (m : List (Int × Int)) : List (Key × Key) := m.map fun x => (Sum.inl x.1, Sum.inl x.2)
theorem kvK_S (m : List (Str × Str)) : kvK (upS m) = kvS m := by unfold kvK upS kvS; rw [List.map_map]; rfl
theorem kvK_I (m : List (Int × Int)) : kvK (upI m) = kvI m := by unfold kvK upI kvI; rw [List.map_map]; rfl
theorem perm_back {α β : Type} (f : α → β) (hf : ∀ a b, f a = f b → a = b) : ∀ {l l' : List α}, (l.map f).Perm (l'.map f) → l.Perm l' := by
  intro l
  induction l with
  | nil =>
    intro l' h
    have : l'.map f = [] := List.Perm.eq_nil h.symm
    rw [List.map_eq_nil_iff.mp this]
  | cons a l ih =>
    intro l' h
    have hm : f a ∈ l'.map f := h.mem_iff.mp (by rw [List.map_cons]; exact List.mem_cons_self)
    obtain ⟨b, hb, e⟩ := List.mem_map.mp hm
    obtain rfl := hf _ _ e
    obtain ⟨s, t, rfl⟩ := List.append_of_mem hb
    have h2 : (f b :: (l.map f)).Perm (f b :: ((s ++ t).map f)) := by
      rw [List.map_cons] at h
      refine h.trans ?_
      rw [List.map_append, List.map_cons, List.map_append]
      exact List.perm_middle
    have h3 := ih ((List.perm_cons _).mp h2)
    exact (h3.cons b).trans List.perm_middle.symm
theorem pm_S {m : List (Key × Key)} (h : PM m) (hs : ∀ x ∈ m, ∃ s, x.1 = Sum.inr s) : ∃ mS : List (Str × Str), m = upS mS ∧ PM mS := by
  have h2 : ∀ x ∈ m, ∃ s, x.2 = Sum.inr s := fun x hx => by
    have := h.2.mem_iff.mp (List.mem_map.mpr ⟨x, hx, rfl⟩)
    obtain ⟨y, hy, e⟩ := List.mem_map.mp this
    obtain ⟨s, es⟩ := hs y hy
    exact ⟨s, by rw [← e, es]⟩
  have e : m = upS (m.map fun x => ((match x.1 with | .inr s => s | _ => ""), (match x.2 with | .inr s => s | _ => ""))) := by
    unfold upS
    rw [List.map_map]
    conv => lhs; rw [← List.map_id m]
    refine List.map_congr_left fun x hx => ?_
    obtain ⟨s, es⟩ := hs x hx
    obtain ⟨s', es'⟩ := h2 x hx
    obtain ⟨x1, x2⟩ := x
    simp only at es es'
    subst es es'
    rfl
  generalize (m.map fun x => ((match x.1 with | .inr s => s | _ => ("" : Str)), (match x.2 with | .inr s => s | _ => ("" : Str)))) = mS at e
  refine ⟨mS, e, ?_⟩
  rw [e] at h
  unfold PM upS at h
  rw [List.map_map, List.map_map] at h
  have e1 : (mS.map ((fun x : Key × Key => x.1) ∘ fun x => (Sum.inr x.1, Sum.inr x.2))) = (mS.map (·.1)).map Sum.inr := by rw [List.map_map]; rfl
  have e2 : (mS.map ((fun x : Key × Key => x.2) ∘ fun x => (Sum.inr x.1, Sum.inr x.2))) = (mS.map (·.2)).map Sum.inr := by rw [List.map_map]; rfl
  rw [e1, e2] at h
  exact ⟨(List.pairwise_map.mp h.1).imp fun hne z => hne (by rw [z]), perm_back _ (fun _ _ e => Sum.inr.inj e) h.2⟩
theorem pm_I {m : List (Key × Key)} (h : PM m) (hs : ∀ x ∈ m, ∃ s, x.1 = Sum.inl s) : ∃ mI : List (Int × Int), m = upI mI ∧ PM mI := by
  have h2 : ∀ x ∈ m, ∃ s, x.2 = Sum.inl s := fun x hx => by
    have := h.2.mem_iff.mp (List.mem_map.mpr ⟨x, hx, rfl⟩)
    obtain ⟨y, hy, e⟩ := List.mem_map.mp this
    obtain ⟨s, es⟩ := hs y hy
    exact ⟨s, by rw [← e, es]⟩
  have e : m = upI (m.map fun x => ((match x.1 with | .inl s => s | _ => 0), (match x.2 with | .inl s => s | _ => 0))) := by
    unfold upI
    rw [List.map_map]
    conv => lhs; rw [← List.map_id m]
    refine List.map_congr_left fun x hx => ?_
    obtain ⟨s, es⟩ := hs x hx
    obtain ⟨s', es'⟩ := h2 x hx
    obtain ⟨x1, x2⟩ := x
    simp only at es es'
    subst es es'
    rfl
  generalize (m.map fun x => ((match x.1 with | .inl s => s | _ => (0 : Int)), (match x.2 with | .inl s => s | _ => (0 : Int)))) = mI at e
  refine ⟨mI, e, ?_⟩
  rw [e] at h
  unfold PM upI at h
  rw [List.map_map, List.map_map] at h
  have e1 : (mI.map ((fun x : Key × Key => x.1) ∘ fun x => (Sum.inl x.1, Sum.inl x.2))) = (mI.map (·.1)).map Sum.inl := by rw [List.map_map]; rfl
  have e2 : (mI.map ((fun x : Key × Key => x.2) ∘ fun x => (Sum.inl x.1, Sum.inl x.2))) = (mI.map (·.2)).map Sum.inl := by rw [List.map_map]; rfl
  rw [e1, e2] at h
  exact ⟨(List.pairwise_map.mp h.1).imp fun hne z => hne (by rw [z]), perm_back _ (fun _ _ e => Sum.inl.inj e) h.2⟩
theorem kvK_put {m : List (Key × Key)} {i : Nat} {x : Key × Key} (hn : (m.map (·.1)).Nodup) (hx : m[i]? = some x) : putK (kvK (m.take i)) x.1 (kV x.2) = kvK (m.take (i + 1)) := by
  have et : m.take (i + 1) = m.take i ++ [x] := by rw [List.take_add_one, hx]; rfl
  have hd : ((m.take i ++ [x]).map (·.1)).Nodup := by
    rw [← et, List.map_take]
    exact hn.sublist (List.take_sublist _ _)
  rw [List.map_append, List.nodup_append] at hd
  have hno : x.1 ∉ (kvK (m.take i)).map (·.1) := fun h => by
    unfold kvK at h
    rw [List.map_map] at h
    exact hd.2.2 _ h _ (by simp) rfl
  rw [putK_new _ (valV_nokey hno), et]
  unfold kvK
  rw [List.map_append]
  rfl
theorem valK {m : List (Key × Key)} (hn : (m.map (·.1)).Nodup) {x : Key × Key} (hx : x ∈ m) : valV (kvK m) x.1 = some (kV x.2) := by
  induction m with
  | nil => cases hx
  | cons y m ih =>
    rw [List.map_cons, List.nodup_cons] at hn
    unfold kvK
    rw [List.map_cons]
    rcases List.mem_cons.mp hx with rfl | hx
    · exact valV_pos rfl
    · rw [valV_neg (fun e => hn.1 (by rw [show y.1 = x.1 from e]; exact List.mem_map.mpr ⟨x, hx, rfl⟩))]
      exact ih hn.2 hx
noncomputable def spLeads : Sp := fun vs H Q _ => ∃ (d l a : Addr) (ks : List Key), vs = [.ref d, .ref a] ∧ DealAt H d l ∧ sqOf H a (ks.map kV) ∧ ks.Nodup ∧ ks.length ≤ 40 ∧
  ∀ (r : Addr) (m : List (Key × Key)) (H' : Hp), H r = none → H' r = some (.dK (kvK m)) → PM m → (∀ x ∈ m, x.1 ∈ ks) → m.length ≤ 40 → DealAt H' d l → But d l H H' → Q (.ref r) H'
noncomputable def spBack : Sp := fun vs H Q _ => ∃ (a : Addr) (m : List (Key × Key)), vs = [.ref a] ∧ H a = some (.dK (kvK m)) ∧ (m.map (·.1)).Nodup ∧ (m.map (·.2)).Nodup ∧ m.length ≤ 40 ∧ ∀ r H', H r = none → Same H H' → H' r = some (.dK (kvK (swp m))) → Q (.ref r) H'
theorem ok__law_leads {P : Program} {w : World} {K : PySem.W.Frag} {mg : Str → Option Value} {base : Heap}  (T : Txt K mg) (L : FnL K mg "_law_leads" s__law_leads ["_law_deal_here", "_law_things"]) (F_law_some : Fn P w K mg base "_law_some" 2 ["_law_deal_here", "_law_things", "_law_least"] (spSome)) : Fn P w K mg base "_law_leads" 3 ["_law_deal_here", "_law_things"] (spLeads) := by
  have nd := sc__law_leads.nd
  refine L.ok sc__law_leads (fun vs H Q E h => ?_) (fun f cdv A outer s H vs Q E hr h => ?_)
  · obtain ⟨d, l, a, ks, rfl, D, ha, hnd, hkl, k⟩ := h
    rfl
  · obtain ⟨d, l, a, ks, rfl, D, ha, hnd, hkl, k⟩ := h
    have hu := hu_of hr
    refine ⟨_, (pss_cons (ps_set (i := 2) nd rfl (by first | exact Or.inl rfl | exact Or.inr rfl) (pe_callF F_law_some (hr.mono (by first | decide | omega)) rfl (pa_cons (pvM 0) (pa_cons (pvM 1) (pa_cons pe_int pa_nil)))))
      (pss_cons (ps_set (i := 3) nd rfl (by first | exact Or.inl rfl | exact Or.inr rfl) (pe_callF F_law_some (hr.mono (by first | decide | omega)) rfl (pa_cons (pvM 0) (pa_cons (pvM 2) (pa_cons (pe_callB call_lenT rfl T.b_len PySem.boot_len (pa_cons (pvM 2) pa_nil)) pa_nil)))))
      (pss_cons (ps_set (i := 4) nd rfl (by first | exact Or.inl rfl | exact Or.inr rfl) pe_dnewK)
      (pss_cons (ps_for PassesOwn.never rfl (pi_range1 rfl T.b_range (pa_cons (pe_callB call_lenT rfl T.b_len PySem.boot_len (pa_cons (pvM 2) pa_nil)) pa_nil)) (pg_name (i := 5) nd rfl (by first | exact Or.inl rfl | exact Or.inr rfl)) (pss_one (ps_dp hu (pvM 4) (pe_ix ix_T (pvM 2) (pvM 5) (fun _ _ => rfl)) (pe_ix ix_T (pvM 3) (pvM 5) (fun _ _ => rfl)) rfl)))
      (pss_one (ps_ret (pvM 4))))))), ?_⟩
    (try ctx_has vcx true_and)
    refine ⟨d, l, a, 0, ks.map kV, rfl, D, ha, by decide, by rw [List.length_map]; omega, by rw [List.length_map]; omega, fun sa got rest H1 fsa hpm _ h1 D1 B1 => ?_⟩
    obtain ⟨gs, zs, rfl, hp⟩ := perm_inv kV invK inv_kV hpm
    have hgl : gs.length ≤ 40 := by have := hp.length_eq; rw [List.length_append] at this; omega
    have hgn : gs.Nodup := (List.nodup_append.mp (hp.nodup_iff.mpr hnd)).1
    (try ctx_has vcx true_and h1)
    refine ⟨d, l, sa, _, gs.map kV, rfl, D1, .inr h1, by omega, by omega, by rw [List.length_map]; omega, fun oa got2 rest2 H2 foa hpm2 hgl2 h2 D2 B2 => ?_⟩
    obtain ⟨os, zo, rfl, hp2⟩ := perm_inv kV invK inv_kV hpm2
    rw [List.length_map, List.length_map] at hgl2
    have hzo : zo = [] := by
      have := hp2.length_eq
      rw [List.length_append] at this
      exact List.length_eq_zero_iff.mp (by omega)
    rw [hzo, List.append_nil] at hp2
    have hol := hp2.length_eq
    (try ctx_has vcx true_and)
    intro r hr
    have nr := D2.ne hr
    have h3s := (Same.upd0 (o := .dK []) hr) _ _ (B2.tup D1 h1)
    (try ctx_has vcx true_and h3s)
    rw [List.length_map]
    refine ⟨by omega, by omega, ?_⟩
    have fr : H r = none := (B1.trans B2).free D2 hr
    have e1 : (gs.zip os).map (·.1) = gs := List.map_fst_zip (by omega)
    have e2 : (gs.zip os).map (·.2) = os := List.map_snd_zip (by omega)
    have hpm0 : PM (gs.zip os) := by unfold PM; rw [e1, e2]; exact ⟨hgn, hp2⟩
    have hzl : (gs.zip os).length = gs.length := by rw [List.length_zip]; omega
    refine for_g wlk_range (fun i σ H' => ∃ v5, σ = [some (.ref d), some (.ref a), some (.ref sa), some (.ref oa), some (.ref r), v5] ∧ H' r = some (.dK (kvK ((gs.zip os).take i))) ∧ H' sa = some (.tup (gs.map kV)) ∧ H' oa = some (.tup (os.map kV)) ∧ DealAt H' d l ∧ But d l H H')
      ⟨_, rfl, upd_same, h3s, (Same.upd0 hr) _ _ h2, D2.new hr, (B1.trans B2).new hr⟩ (fun _ _ _ _ => True.intro) ?_ ?_
    · rintro i x σ H4 hi hx ⟨v5, rfl, h4r, h4s, h4o, D4, B4⟩
      rw [rngV_length] at hi
      rw [rngV_get hi] at hx
      cases hx
      have hil : i < gs.length := by omega
      have hio : i < os.length := by omega
      have a1 : atI (gs.map kV) (0 + (i : Int)) = some (kV gs[i]) := by rw [Int.zero_add]; exact atI_nat (by simp [hil])
      have a2 : atI (os.map kV) (0 + (i : Int)) = some (kV os[i]) := by rw [Int.zero_add]; exact atI_nat (by simp [hio])
      have hz : (gs.zip os)[i]? = some (gs[i], os[i]) := by simp [List.getElem?_zip_eq_some, hil, hio]
      (try ctx_has vcx true_and h4s h4o a1 a2)
      refine ⟨gs[i], rfl, _, h4r, ?_, by rw [upd_same, kvK_put hpm0.1 hz], ?_, ?_, D4.put nr.1 nr.2, B4.put fr⟩
      · unfold kvK; rw [List.length_map, List.length_take]; exact small1000 (by omega)
      · rw [upd_ne (ne_of h4s h4r (by intro z; cases z))]; exact h4s
      · rw [upd_ne (ne_of h4o h4r (by intro z; cases z))]; exact h4o
    · rintro σ H4 ⟨v5, rfl, h4r, h4s, h4o, D4, B4⟩
      rw [rngV_length, List.take_of_length_le (by rw [hzl]; omega)] at h4r
      (try ctx_has vcx true_and)
      exact k r _ H4 fr h4r hpm0 (fun x hx => hp.mem_iff.mp (List.mem_append_left _ (by rw [← e1]; exact List.mem_map.mpr ⟨x, hx, rfl⟩))) (by omega) D4 B4
theorem ok__law_back {P : Program} {w : World} {K : PySem.W.Frag} {mg : Str → Option Value} {base : Heap}  (T : Txt K mg) (L : FnL K mg "_law_back" s__law_back ["_law_leads_here"])  : Fn P w K mg base "_law_back" 1 ["_law_leads_here"] (spBack) := by
  have nd := sc__law_back.nd
  refine L.ok sc__law_back (fun vs H Q E h => ?_) (fun f cdv A outer s H vs Q E hr h => ?_)
  · obtain ⟨a, m, rfl, ha, hn1, hn2, hl, k⟩ := h
    rfl
  · obtain ⟨a, m, rfl, ha, hn1, hn2, hl, k⟩ := h
    have hu := hu_of hr
    refine ⟨_, (pss_cons (ps_set (i := 1) nd rfl (by first | exact Or.inl rfl | exact Or.inr rfl) pe_dnewK)
      (pss_cons (ps_thaw (ps_for PassesOwn.never rfl (pi_D (pvM 0)) (pg_name (i := 2) nd rfl (by first | exact Or.inl rfl | exact Or.inr rfl)) (pss_one (ps_dp hu (pvM 1) (pe_dgF hu (pvM 0) (pvM 2) (fun _ _ => rfl)) (pvM 2) rfl))))
      (pss_one (ps_ret (pvM 1))))), ?_⟩
    (try ctx_has vcx true_and tThaw ha)
    intro r hr
    have ar : a ≠ r := ne_of_none ha hr
    have ha0 := (Same.upd0 (o := .dK []) hr) _ _ ha
    refine ⟨a, _, ha0, _, ha0, fun o => ?_⟩
    have hw1 : ((swp m).map (·.1)).Nodup := by unfold swp; rw [List.map_map]; exact hn2
    refine for_g wlk_dk (fun i σ H' => ∃ v2, σ = [some (.ref a), some (.ref r), v2] ∧ H' r = some (.dK (kvK ((swp m).take i))) ∧ H' a = some (.frz o (.dK (kvK m))) ∧ ∀ b u, b ≠ a → H b = some u → H' b = some u)
      ⟨_, rfl, by rw [upd_ne ar.symm]; exact upd_same, upd_same, fun b u hb e => by rw [upd_ne hb]; exact (Same.upd0 hr) _ _ e⟩ (fun i σ H' zq40 => by obtain ⟨_, _, _, h, _⟩ := zq40; exact (h)) ?_ ?_
    · rintro i x σ H2 hi hx ⟨v2, rfl, h2r, h2a, k2⟩
      obtain ⟨y, hy, rfl⟩ : ∃ y, m[i]? = some y ∧ kV y.1 = x := by
        unfold kvK at hx
        rw [List.map_map, List.getElem?_map] at hx
        cases e : m[i]? with
        | none => rw [e] at hx; cases hx
        | some nm => rw [e] at hx; exact ⟨nm, rfl, Option.some.inj hx⟩
      have hym := List.mem_of_getElem? hy
      have hsw : (swp m)[i]? = some (y.2, y.1) := by unfold swp; rw [List.getElem?_map, hy]; rfl
      (try ctx_has vcx true_and tDGF)
      have hsl : (swp m).length ≤ 40 := by unfold swp; rw [List.length_map]; exact hl
      refine ⟨y.1, rfl, o, _, h2a, _, valK hn1 hym, y.2, rfl, _, h2r, ?_, by rw [upd_same]; exact congrArg (fun z => some (HO.dK z)) (kvK_put hw1 hsw), ?_, fun b u hb e => ?_⟩
      · unfold kvK
        rw [List.length_map]
        have : ((swp m).take i).length ≤ (swp m).length := List.length_take_le' _ _
        exact small1000 (by omega)
      · rw [upd_ne ar]; exact h2a
      · rw [upd_ne (ne_of_none e hr)]; exact k2 b u hb e
    · rintro σ H2 ⟨v2, rfl, h2r, h2a, k2⟩
      have hl2 : ((kvK m).map fun x => kV x.1).length = (swp m).length := by unfold kvK swp; simp
      rw [hl2, List.take_length] at h2r
      refine ⟨⟨o, h2a⟩, ?_⟩
      (try ctx_has vcx true_and)
      refine k r _ hr (fun b u e => ?_) (by rw [upd_ne ar.symm]; exact h2r)
      by_cases hb : b = a
      · subst hb; rw [upd_same, ← e, ha]
      · rw [upd_ne hb]; exact k2 b u hb e
theorem keys_old {κ : Type} [DecidableEq κ] {kvs : List (κ × V)} {k : κ} {v : V} (h : k ∈ kvs.map (·.1)) : (putK kvs k v).map (·.1) = kvs.map (·.1) := by
  unfold putK
  obtain ⟨x, hx, e⟩ := List.mem_map.mp h
  rw [if_pos (List.any_eq_true.mpr ⟨x, hx, decide_eq_true e⟩), List.map_map]
  refine List.map_congr_left fun y _ => ?_
  simp only [Function.comp]
  split <;> rfl
noncomputable def spRoomsQ : Sp := fun vs H Q _ => ∃ (d l a p : Addr) (ws : List Str) (ns : List Int) (m : Int), vs = [.ref d, .ref a, .ref p, .int m] ∧ DealAt H d l ∧ (a ≠ d ∧ a ≠ l) ∧ (p ≠ d ∧ p ≠ l) ∧ sqOf H a (ws.map V.str) ∧ ws.Nodup ∧ ws.length ≤ 45 ∧ H p = some (.lst (ns.map V.int)) ∧ ns.length = 5 ∧ ns.Pairwise (· < ·) ∧ 1 ≤ m ∧ m ≤ 20 ∧
  ∀ (r : Addr) (kvs : List (Key × V)) (rm : Str → List Int) (H' : Hp), H r = none → H' r = some (.dK kvs) → RoomsFor H' kvs ws rm → (∀ c ∈ ws, rm c ≠ [] ∧ ((rm c).length : Int) ≤ m ∧ (rm c).Pairwise (· < ·) ∧ ∀ v ∈ rm c, v ∈ ns) → (∀ x ∈ kvs, plainV x.2 = true) → kvs.map (·.1) = ws.map Sum.inr → DealAt H' d l → But d l H H' → Q (.ref r) H'
theorem ok__law_rooms {P : Program} {w : World} {K : PySem.W.Frag} {mg : Str → Option Value} {base : Heap}  (T : Txt K mg) (L : FnL K mg "_law_rooms" s__law_rooms ["_law_deal_here", "_law_names_here", "_law_pool_here", "_law_most"]) (F_law_draw : Fn P w K mg base "_law_draw" 1 ["_law_deal_here", "_law_many"] (spDraw)) : Fn P w K mg base "_law_rooms" 2 ["_law_deal_here", "_law_names_here", "_law_pool_here", "_law_most"] (spRoomsQ) := by
  have nd := sc__law_rooms.nd
  refine L.ok sc__law_rooms (fun vs H Q E h => ?_) (fun f cdv A outer s H vs Q E hr h => ?_)
  · obtain ⟨d, l, a, p, ws, ns, m, rfl, D, na, np, hha, hnd, hwl, hp, hn5, hnp, m0, m1, k⟩ := h
    rfl
  · obtain ⟨d, l, a, p, ws, ns, m, rfl, D, na, np, hha, hnd, hwl, hp, hn5, hnp, m0, m1, k⟩ := h
    have hu := hu_of hr
    refine ⟨_, (pss_cons (ps_set (i := 4) nd rfl (by first | exact Or.inl rfl | exact Or.inr rfl) pe_dnewK)
      (pss_cons (ps_for PassesOwn.never rfl (pi_S (K := K) rfl (pvM 1)) (pg_name (i := 5) nd rfl (by first | exact Or.inl rfl | exact Or.inr rfl)) (pss_cons (ps_setC (i := 6) (N := ["_law_value", "_law_deal_here"]) (nt := 1) (js := [0]) nd rfl (by first | exact Or.inl rfl | exact Or.inr rfl) rfl (compOk_of ["_law_deal_here", "_law_names_here", "_law_pool_here", "_law_most", "_law_rooms_here", "_law_name", "_law_some_here"] (defScope s__law_rooms).names rfl rfl rfl (by decide +kernel)) (pi_LK (K := K) rfl (pvM 2)) (fun _ _ _ _ _ _ => (pg_name (i := 0) (show List.Nodup [("_law_value" : Str), ("_law_deal_here" : Str)] by decide +kernel) rfl (Or.inl rfl))) (tgOk_name (by decide)) (fun _ _ _ _ _ _ => pts_one (pt_cmpR op_eq (pe_callF F_law_draw (hr.mono (by first | decide | omega)) rfl (pa_cons (pvM 1) (pa_cons pe_int pa_nil))) pe_int (nomark _))) (fun _ _ _ _ _ _ => (pvM 0)))
      (pss_cons (ps_dp hu (pvM 4) (pvM 5) (pe_callTy call_tupL rfl T.b_tuple (show bootBuiltins "tuple" = some (.type "tuple") by decide +kernel) (pa_cons (pe_slice sl_L (pvM 6) po_none (po_some (pvM 3))) pa_nil)) rfl)
      (pss_one (ps_if (pt_cmpR (op_eqD (hu100 hr)) (pvM 6) (pe_lst pa_nil) (nomark _)) (pss_one (ps_dp hu (pvM 4) (pvM 5) (pe_tup (pa_cons (pe_ix ix_L (pvM 2) (pe_callF F_law_draw (hr.mono (by first | decide | omega)) rfl (pa_cons (pvM 0) (pa_cons pe_int pa_nil))) (fun _ _ => rfl)) pa_nil)) rfl)) pss_nil)))))
      (pss_one (ps_ret (pvM 4))))), ?_⟩
    (try ctx_has vcx true_and)
    rcases hha with ha | ha
    · intro q hq
      have nq := D.ne hq
      have aq : a ≠ q := ne_of_none ha hq
      have pq : p ≠ q := ne_of_none hp hq
      refine ⟨_, .inl ⟨by rw [upd_ne aq]; exact ha, ?_⟩⟩
      refine for_g wlk_list (fun i σ H' => ∃ (kvs : List (Key × V)) (rm : Str → List Int) (v5 v6 : Option V), σ = [some (.ref d), some (.ref a), some (.ref p), some (.int m), some (.ref q), v5, v6] ∧ H' q = some (.dK kvs) ∧ RoomsFor H' kvs (ws.take i) rm ∧
          (∀ c ∈ ws.take i, rm c ≠ [] ∧ ((rm c).length : Int) ≤ m ∧ (rm c).Pairwise (· < ·) ∧ ∀ v ∈ rm c, v ∈ ns) ∧ (∀ x ∈ kvs, plainV x.2 = true) ∧ kvs.map (·.1) = (ws.take i).map Sum.inr ∧ H' a = some (.lst (ws.map V.str)) ∧ H' p = some (.lst (ns.map V.int)) ∧ DealAt H' d l ∧ But d l H H')
        ⟨[], fun _ => [], _, _, rfl, upd_same, fun c hc => by simp at hc, fun c hc => by simp at hc, by simp, rfl, by rw [upd_ne aq]; exact ha, by rw [upd_ne pq]; exact hp, D.new hq, (But.refl H).new hq⟩ (fun i σ H' zq41 => by obtain ⟨_, _, _, _, _, _, _, _, _, _, h, _⟩ := zq41; exact (.of h)) ?_ ?_
      · rintro i x σ H2 hi hx ⟨kvs, rm, v5, v6, rfl, h2, hrf, hgd, hpl, hkl, h2a, h2p, D2, B2⟩
        rw [List.length_map] at hi
        obtain ⟨c, hcx, rfl⟩ : ∃ c, ws[i]? = some c ∧ V.str c = x := by
          rw [List.getElem?_map] at hx
          cases e : ws[i]? with
          | none => rw [e] at hx; cases hx
          | some nm => rw [e] at hx; exact ⟨nm, rfl, Option.some.inj hx⟩
        have etk : ws.take (i + 1) = ws.take i ++ [c] := by rw [List.take_add_one, hcx]; rfl
        have hsub : ∀ x ∈ ws.take (i + 1), x = c ∨ x ∈ ws.take i := fun x hx => by
          rw [etk] at hx
          rcases List.mem_append.mp hx with z | z
          · exact .inr z
          · exact .inl (List.mem_singleton.mp z)
        have hkl' : kvs.length ≤ i := by
          have := congrArg List.length hkl
          rw [List.length_map, List.length_map] at this
          rw [this]
          exact List.length_take_le _ _
        have hcn : (Sum.inr c : Key) ∉ kvs.map (·.1) := by
          rw [hkl]
          intro hm
          obtain ⟨y, hy, e⟩ := List.mem_map.mp hm
          cases Sum.inr.inj e
          have hnd2 := hnd.sublist (List.take_sublist (i + 1) ws)
          rw [etk, List.nodup_append] at hnd2
          exact hnd2.2.2 _ hy _ (by simp) rfl
        (try ctx_has vcx true_and h2p)
        intro g hg
        have ng := D2.ne hg
        have fg : H g = none := B2.free D2 hg
        refine comp_g wlk_list (fun j ys H5 => ∃ got : List Int, ys = got.map V.int ∧ got.Sublist (ns.take j) ∧ H5 g = some (.lst ys) ∧ H5 p = some (.lst (ns.map V.int)) ∧ (∀ b o, b ≠ d → b ≠ l → H2 b = some o → H5 b = some o) ∧ DealAt H5 d l)
          ⟨[], rfl, by simp, upd_same, by rw [upd_ne (ne_of_none h2p hg)]; exact h2p, fun b o _ _ e => by rw [upd_ne (ne_of_none e hg)]; exact e, D2.new hg⟩ (fun j ys H5 zq42 => by obtain ⟨_, _, _, _, h, _⟩ := zq42; exact (.of h)) ?_ ?_
        · rintro j y ys H5 hj hy ⟨got, rfl, hgs, h5g, h5p, k5, D5⟩
          rw [List.length_map] at hj
          obtain ⟨z, hz, rfl⟩ : ∃ z, ns[j]? = some z ∧ V.int z = y := by
            rw [List.getElem?_map] at hy
            cases e : ns[j]? with
            | none => rw [e] at hy; cases hy
            | some nm => rw [e] at hy; exact ⟨nm, rfl, Option.some.inj hy⟩
          have en : ns.take (j + 1) = ns.take j ++ [z] := by rw [List.take_add_one, hz]; rfl
          have hgl : got.length ≤ 5 := Nat.le_trans hgs.length_le (by simp; omega)
          (try ctx_has vcx true_and)
          refine draw_rd D5 (by decide) (by decide) fun r6 H6 r60 r61 D6 B6 => ?_
          have h6g := B6 g _ ng.1 ng.2 h5g
          have h6p := B6 p _ np.1 np.2 h5p
          (try ctx_has vcx true_and)
          refine ite2 (fun hr1 => ?_) (fun hr1 => ?_)
          · refine ⟨h6g, by rw [List.length_map]; exact small1000 (by omega), got ++ [z], by simp, by rw [en]; exact hgs.append_right [z], upd_same, by rw [upd_ne (ne_of_none h2p hg)]; exact h6p, fun b o h1 h2 e => by rw [upd_ne (ne_of_none e hg)]; exact B6 b o h1 h2 (k5 b o h1 h2 e), D6.put ng.1 ng.2⟩
          · exact ⟨got, rfl, by rw [en]; exact hgs.trans (List.sublist_append_left _ _), h6g, h6p, fun b o h1 h2 e => B6 b o h1 h2 (k5 b o h1 h2 e), D6⟩
        · rintro ys H5 ⟨got, rfl, hgs, h5g, h5p, k5, D5⟩
          rw [List.length_map] at hgs
          rw [List.take_length] at hgs
          (try ctx_has vcx true_and h5g)
          intro u hu1
          refine ⟨_, upd_same, fun t ht => ?_⟩
          obtain ⟨mn, rfl⟩ := Int.eq_ofNat_of_zero_le (show 0 ≤ m by omega)
          rw [cut_map] at ht ⊢
          have ut : u ≠ t := by rintro rfl; rw [upd_same] at ht; cases ht
          have ht5 : H5 t = none := by rwa [upd_ne ut.symm] at ht
          have s5 : Same H5 (upd (upd H5 u (.lst ((got.take mn).map V.int))) t (.tup ((got.take mn).map V.int))) := (Same.upd0 hu1).upd_new ht
          have h5q := k5 q _ nq.1 nq.2 h2
          have h5a := k5 a _ na.1 na.2 h2a
          refine ⟨kvs, s5 _ _ h5q, small1000 (by omega), ?_⟩
          have tq : t ≠ q := (ne_of_none h5q ht5).symm
          have ktup : ∀ b vs, H2 b = some (.tup vs) → upd (upd (upd H5 u (.lst ((got.take mn).map V.int))) t (.tup ((got.take mn).map V.int))) q (.dK (putK kvs (Sum.inr c) (.ref t))) b = some (.tup vs) := fun b vs e => by
            obtain ⟨m', sd, n', xs', hd', hl', _⟩ := D2.ex
            rw [upd_ne (ne_of e h2 (by intro z; cases z))]
            exact s5 _ _ (k5 b _ (ne_of e hd' (by intro z; cases z)) (ne_of e hl' (by intro z; cases z)) e)
          have hq6 : ∀ b o, b ≠ q → H5 b = some o → upd (upd (upd H5 u (.lst ((got.take mn).map V.int))) t (.tup ((got.take mn).map V.int))) q (.dK (putK kvs (Sum.inr c) (.ref t))) b = some o := fun b o hb e => by rw [upd_ne hb]; exact s5 _ _ e
          have gq : g ≠ q := (ne_of_none h2 hg).symm
          have h6g := hq6 g _ gq h5g
          have h6a := hq6 a _ aq h5a
          have h6p := hq6 p _ pq h5p
          have D6 := (D5.same s5).put (o := .dK (putK kvs (Sum.inr c) (.ref t))) nq.1 nq.2
          have B5 : But d l H H5 := fun b o h1 h2 e => k5 b o h1 h2 (B2 b o h1 h2 e)
          have B6 := (B5.same s5).put (o := .dK (putK kvs (Sum.inr c) (.ref t))) hq
          have r6 : RoomsFor (upd (upd (upd H5 u (.lst ((got.take mn).map V.int))) t (.tup ((got.take mn).map V.int))) q (.dK (putK kvs (Sum.inr c) (.ref t)))) (putK kvs (Sum.inr c) (.ref t)) (ws.take (i + 1)) (setF rm c (got.take mn)) := hrf.putG ktup (by rw [upd_ne tq]; exact upd_same) hsub
          have h6q : upd (upd (upd H5 u (.lst ((got.take mn).map V.int))) t (.tup ((got.take mn).map V.int))) q (.dK (putK kvs (Sum.inr c) (.ref t))) q = some (.dK (putK kvs (Sum.inr c) (.ref t))) := upd_same
          have hk6 : (putK kvs (Sum.inr c) (.ref t)).map (·.1) = (ws.take (i + 1)).map Sum.inr := by rw [putK_new _ (valV_nokey hcn), List.map_append, hkl, etk, List.map_append]; rfl
          have pl6 := plain_put (k := Sum.inr c) (v := V.ref t) hpl rfl
          generalize hH6 : upd (upd (upd H5 u (.lst ((got.take mn).map V.int))) t (.tup ((got.take mn).map V.int))) q (.dK (putK kvs (Sum.inr c) (.ref t))) = H6 at h6g h6a h6p D6 B6 r6 h6q ⊢
          generalize putK kvs (Sum.inr c) (.ref t) = kv6 at r6 h6q hk6 pl6 ⊢
          have hk7 : kv6.length ≤ i + 1 := by
            have := congrArg List.length hk6
            rw [List.length_map, List.length_map] at this
            rw [this]
            exact List.length_take_le _ _
          refine ⟨by decide, fun e0 he0 => ?_⟩
          have s7 : Same H6 (upd H6 e0 (.lst [])) := Same.upd0 he0
          refine ⟨.list (got.map PyData.int), .list [], .lst (.of (s7 _ _ h6g)) (Reps.ints got), .lst (.of upd_same) .nil, by unfold PyData.canLay0; exact lay_ints got, rfl, by unfold PyData.depth; rw [depth_ints]; decide, ?_⟩
          rw [eq_nil_ints]
          have D7 := D6.new (o := .lst []) he0
          have B7 := B6.new (o := .lst []) he0
          refine ⟨_, rfl, ite2 (fun hg0 => ?_) (fun hg0 => ?_)⟩
          · refine draw_rd D7 (by decide) (by decide) fun r8 H8 r80 r81 D8 B8 => ?_
            obtain ⟨z, hz1, hz2⟩ := atI_mem (xs := ns) r80 (by omega)
            have hzV : atI (ns.map V.int) r8 = some (V.int z) := by
              obtain ⟨n, rfl⟩ := Int.eq_ofNat_of_zero_le r80
              have hn : n < ns.length := by omega
              have e1 : ns[n]? = some z := by
                have := atI_nat (xs := ns) (j := n) (v := ns[n]) (by simp)
                rw [this] at hz1
                rw [← hz1]; simp
              exact atI_nat (by rw [List.getElem?_map, e1]; rfl)
            refine ⟨r8, rfl, _, B8 p _ np.1 np.2 (s7 _ _ h6p), _, hzV, by decide, fun t2 ht2 => ?_⟩
            have h8q := B8 q _ nq.1 nq.2 (s7 _ _ h6q)
            have q2 : t2 ≠ q := (ne_of_none h8q ht2).symm
            have s9 : Same H8 (upd H8 t2 (.tup [V.int z])) := Same.upd0 ht2
            refine ⟨kv6, s9 _ _ h8q, small1000 (by omega), ?_⟩
            have kt : ∀ b vs, H6 b = some (.tup vs) → upd (upd H8 t2 (.tup [V.int z])) q (.dK (putK kv6 (Sum.inr c) (.ref t2))) b = some (.tup vs) := fun b vs e => by
              rw [upd_ne (ne_of e h6q (by intro z; cases z))]
              obtain ⟨m', sd, n', xs', hd', hl', _⟩ := D6.ex
              exact s9 _ _ (B8 b _ (ne_of e hd' (by intro z; cases z)) (ne_of e hl' (by intro z; cases z)) (s7 _ _ e))
            refine ⟨_, upd_same, setF (setF rm c (got.take mn)) c [z], r6.putG (ns := [z]) kt (by rw [upd_ne q2]; exact upd_same) (fun x hx => .inr hx), fun x hx => ?_, plain_put pl6 rfl, (keys_old (by rw [hk6, etk]; simp)).trans hk6, ?_, ?_, (D8.new ht2).put nq.1 nq.2, ((B7.trans B8).new ht2).put hq⟩
            · by_cases e : x = c
              · subst e
                unfold setF
                rw [if_pos rfl]
                exact ⟨by simp, by simp; omega, by simp, fun v hv => by rw [List.mem_singleton.mp hv]; exact hz2⟩
              · unfold setF
                rw [if_neg e, if_neg e]
                exact hgd x ((hsub x hx).resolve_left e)
            · rw [upd_ne aq]; exact s9 _ _ (B8 a _ na.1 na.2 (s7 _ _ h6a))
            · rw [upd_ne pq]; exact s9 _ _ (B8 p _ np.1 np.2 (s7 _ _ h6p))
          · refine ⟨_, s7 _ _ h6q, setF rm c (got.take mn), r6.same (fun a vs e => s7 _ _ e), fun x hx => ?_, pl6, hk6, s7 _ _ h6a, s7 _ _ h6p, D7, B7⟩
            by_cases e : x = c
            · subst e
              unfold setF
              rw [if_pos rfl]
              have hne : got ≠ [] := by simpa using hg0
              refine ⟨?_, by simp; omega, ?_, fun v hv => hgs.subset (List.mem_of_mem_take hv)⟩
              · cases got with
                | nil => exact absurd rfl hne
                | cons y ys =>
                  obtain ⟨k', rfl⟩ : ∃ k', mn = k' + 1 := ⟨mn - 1, by omega⟩
                  simp
              · exact (hnp.sublist hgs).sublist (List.take_sublist _ _)
            · unfold setF
              rw [if_neg e]
              exact hgd x ((hsub x hx).resolve_left e)
      · rintro σ H2 ⟨kvs, rm, v5, v6, rfl, h2, hrf, hgd, hpl, hkl, h2a, h2p, D2, B2⟩
        rw [List.length_map, List.take_length] at hrf hgd
        rw [List.length_map, List.take_length] at hkl
        (try ctx_has vcx true_and)
        exact k q kvs rm H2 hq h2 hrf hgd hpl hkl D2 B2
    · intro q hq
      have nq := D.ne hq
      have aq : a ≠ q := ne_of_none ha hq
      have pq : p ≠ q := ne_of_none hp hq
      refine ⟨_, .inr ⟨by rw [upd_ne aq]; exact ha, ?_⟩⟩
      refine for_g wlk_tup (fun i σ H' => ∃ (kvs : List (Key × V)) (rm : Str → List Int) (v5 v6 : Option V), σ = [some (.ref d), some (.ref a), some (.ref p), some (.int m), some (.ref q), v5, v6] ∧ H' q = some (.dK kvs) ∧ RoomsFor H' kvs (ws.take i) rm ∧
          (∀ c ∈ ws.take i, rm c ≠ [] ∧ ((rm c).length : Int) ≤ m ∧ (rm c).Pairwise (· < ·) ∧ ∀ v ∈ rm c, v ∈ ns) ∧ (∀ x ∈ kvs, plainV x.2 = true) ∧ kvs.map (·.1) = (ws.take i).map Sum.inr ∧ H' a = some (.tup (ws.map V.str)) ∧ H' p = some (.lst (ns.map V.int)) ∧ DealAt H' d l ∧ But d l H H')
        ⟨[], fun _ => [], _, _, rfl, upd_same, fun c hc => by simp at hc, fun c hc => by simp at hc, by simp, rfl, by rw [upd_ne aq]; exact ha, by rw [upd_ne pq]; exact hp, D.new hq, (But.refl H).new hq⟩ (fun i σ H' zq43 => by obtain ⟨_, _, _, _, _, _, _, _, _, _, h, _⟩ := zq43; exact (.of h)) ?_ ?_
      · rintro i x σ H2 hi hx ⟨kvs, rm, v5, v6, rfl, h2, hrf, hgd, hpl, hkl, h2a, h2p, D2, B2⟩
        rw [List.length_map] at hi
        obtain ⟨c, hcx, rfl⟩ : ∃ c, ws[i]? = some c ∧ V.str c = x := by
          rw [List.getElem?_map] at hx
          cases e : ws[i]? with
          | none => rw [e] at hx; cases hx
          | some nm => rw [e] at hx; exact ⟨nm, rfl, Option.some.inj hx⟩
        have etk : ws.take (i + 1) = ws.take i ++ [c] := by rw [List.take_add_one, hcx]; rfl
        have hsub : ∀ x ∈ ws.take (i + 1), x = c ∨ x ∈ ws.take i := fun x hx => by
          rw [etk] at hx
          rcases List.mem_append.mp hx with z | z
          · exact .inr z
          · exact .inl (List.mem_singleton.mp z)
        have hkl' : kvs.length ≤ i := by
          have := congrArg List.length hkl
          rw [List.length_map, List.length_map] at this
          rw [this]
          exact List.length_take_le _ _
        have hcn : (Sum.inr c : Key) ∉ kvs.map (·.1) := by
          rw [hkl]
          intro hm
          obtain ⟨y, hy, e⟩ := List.mem_map.mp hm
          cases Sum.inr.inj e
          have hnd2 := hnd.sublist (List.take_sublist (i + 1) ws)
          rw [etk, List.nodup_append] at hnd2
          exact hnd2.2.2 _ hy _ (by simp) rfl
        (try ctx_has vcx true_and h2p)
        intro g hg
        have ng := D2.ne hg
        have fg : H g = none := B2.free D2 hg
        refine comp_g wlk_list (fun j ys H5 => ∃ got : List Int, ys = got.map V.int ∧ got.Sublist (ns.take j) ∧ H5 g = some (.lst ys) ∧ H5 p = some (.lst (ns.map V.int)) ∧ (∀ b o, b ≠ d → b ≠ l → H2 b = some o → H5 b = some o) ∧ DealAt H5 d l)
          ⟨[], rfl, by simp, upd_same, by rw [upd_ne (ne_of_none h2p hg)]; exact h2p, fun b o _ _ e => by rw [upd_ne (ne_of_none e hg)]; exact e, D2.new hg⟩ (fun j ys H5 zq44 => by obtain ⟨_, _, _, _, h, _⟩ := zq44; exact (.of h)) ?_ ?_
        · rintro j y ys H5 hj hy ⟨got, rfl, hgs, h5g, h5p, k5, D5⟩
          rw [List.length_map] at hj
          obtain ⟨z, hz, rfl⟩ : ∃ z, ns[j]? = some z ∧ V.int z = y := by
            rw [List.getElem?_map] at hy
            cases e : ns[j]? with
            | none => rw [e] at hy; cases hy
            | some nm => rw [e] at hy; exact ⟨nm, rfl, Option.some.inj hy⟩
          have en : ns.take (j + 1) = ns.take j ++ [z] := by rw [List.take_add_one, hz]; rfl
          have hgl : got.length ≤ 5 := Nat.le_trans hgs.length_le (by simp; omega)
          (try ctx_has vcx true_and)
          refine draw_rd D5 (by decide) (by decide) fun r6 H6 r60 r61 D6 B6 => ?_
          have h6g := B6 g _ ng.1 ng.2 h5g
          have h6p := B6 p _ np.1 np.2 h5p
          (try ctx_has vcx true_and)
          refine ite2 (fun hr1 => ?_) (fun hr1 => ?_)
          · refine ⟨h6g, by rw [List.length_map]; exact small1000 (by omega), got ++ [z], by simp, by rw [en]; exact hgs.append_right [z], upd_same, by rw [upd_ne (ne_of_none h2p hg)]; exact h6p, fun b o h1 h2 e => by rw [upd_ne (ne_of_none e hg)]; exact B6 b o h1 h2 (k5 b o h1 h2 e), D6.put ng.1 ng.2⟩
          · exact ⟨got, rfl, by rw [en]; exact hgs.trans (List.sublist_append_left _ _), h6g, h6p, fun b o h1 h2 e => B6 b o h1 h2 (k5 b o h1 h2 e), D6⟩
        · rintro ys H5 ⟨got, rfl, hgs, h5g, h5p, k5, D5⟩
          rw [List.length_map] at hgs
          rw [List.take_length] at hgs
          (try ctx_has vcx true_and h5g)
          intro u hu1
          refine ⟨_, upd_same, fun t ht => ?_⟩
          obtain ⟨mn, rfl⟩ := Int.eq_ofNat_of_zero_le (show 0 ≤ m by omega)
          rw [cut_map] at ht ⊢
          have ut : u ≠ t := by rintro rfl; rw [upd_same] at ht; cases ht
          have ht5 : H5 t = none := by rwa [upd_ne ut.symm] at ht
          have s5 : Same H5 (upd (upd H5 u (.lst ((got.take mn).map V.int))) t (.tup ((got.take mn).map V.int))) := (Same.upd0 hu1).upd_new ht
          have h5q := k5 q _ nq.1 nq.2 h2
          have h5a := k5 a _ na.1 na.2 h2a
          refine ⟨kvs, s5 _ _ h5q, small1000 (by omega), ?_⟩
          have tq : t ≠ q := (ne_of_none h5q ht5).symm
          have ktup : ∀ b vs, H2 b = some (.tup vs) → upd (upd (upd H5 u (.lst ((got.take mn).map V.int))) t (.tup ((got.take mn).map V.int))) q (.dK (putK kvs (Sum.inr c) (.ref t))) b = some (.tup vs) := fun b vs e => by
            obtain ⟨m', sd, n', xs', hd', hl', _⟩ := D2.ex
            rw [upd_ne (ne_of e h2 (by intro z; cases z))]
            exact s5 _ _ (k5 b _ (ne_of e hd' (by intro z; cases z)) (ne_of e hl' (by intro z; cases z)) e)
          have hq6 : ∀ b o, b ≠ q → H5 b = some o → upd (upd (upd H5 u (.lst ((got.take mn).map V.int))) t (.tup ((got.take mn).map V.int))) q (.dK (putK kvs (Sum.inr c) (.ref t))) b = some o := fun b o hb e => by rw [upd_ne hb]; exact s5 _ _ e
          have gq : g ≠ q := (ne_of_none h2 hg).symm
          have h6g := hq6 g _ gq h5g
          have h6a := hq6 a _ aq h5a
          have h6p := hq6 p _ pq h5p
          have D6 := (D5.same s5).put (o := .dK (putK kvs (Sum.inr c) (.ref t))) nq.1 nq.2
          have B5 : But d l H H5 := fun b o h1 h2 e => k5 b o h1 h2 (B2 b o h1 h2 e)
          have B6 := (B5.same s5).put (o := .dK (putK kvs (Sum.inr c) (.ref t))) hq
          have r6 : RoomsFor (upd (upd (upd H5 u (.lst ((got.take mn).map V.int))) t (.tup ((got.take mn).map V.int))) q (.dK (putK kvs (Sum.inr c) (.ref t)))) (putK kvs (Sum.inr c) (.ref t)) (ws.take (i + 1)) (setF rm c (got.take mn)) := hrf.putG ktup (by rw [upd_ne tq]; exact upd_same) hsub
          have h6q : upd (upd (upd H5 u (.lst ((got.take mn).map V.int))) t (.tup ((got.take mn).map V.int))) q (.dK (putK kvs (Sum.inr c) (.ref t))) q = some (.dK (putK kvs (Sum.inr c) (.ref t))) := upd_same
          have hk6 : (putK kvs (Sum.inr c) (.ref t)).map (·.1) = (ws.take (i + 1)).map Sum.inr := by rw [putK_new _ (valV_nokey hcn), List.map_append, hkl, etk, List.map_append]; rfl
          have pl6 := plain_put (k := Sum.inr c) (v := V.ref t) hpl rfl
          generalize hH6 : upd (upd (upd H5 u (.lst ((got.take mn).map V.int))) t (.tup ((got.take mn).map V.int))) q (.dK (putK kvs (Sum.inr c) (.ref t))) = H6 at h6g h6a h6p D6 B6 r6 h6q ⊢
          generalize putK kvs (Sum.inr c) (.ref t) = kv6 at r6 h6q hk6 pl6 ⊢
          have hk7 : kv6.length ≤ i + 1 := by
            have := congrArg List.length hk6
            rw [List.length_map, List.length_map] at this
            rw [this]
            exact List.length_take_le _ _
          refine ⟨by decide, fun e0 he0 => ?_⟩
          have s7 : Same H6 (upd H6 e0 (.lst [])) := Same.upd0 he0
          refine ⟨.list (got.map PyData.int), .list [], .lst (.of (s7 _ _ h6g)) (Reps.ints got), .lst (.of upd_same) .nil, by unfold PyData.canLay0; exact lay_ints got, rfl, by unfold PyData.depth; rw [depth_ints]; decide, ?_⟩
          rw [eq_nil_ints]
          have D7 := D6.new (o := .lst []) he0
          have B7 := B6.new (o := .lst []) he0
          refine ⟨_, rfl, ite2 (fun hg0 => ?_) (fun hg0 => ?_)⟩
          · refine draw_rd D7 (by decide) (by decide) fun r8 H8 r80 r81 D8 B8 => ?_
            obtain ⟨z, hz1, hz2⟩ := atI_mem (xs := ns) r80 (by omega)
            have hzV : atI (ns.map V.int) r8 = some (V.int z) := by
              obtain ⟨n, rfl⟩ := Int.eq_ofNat_of_zero_le r80
              have hn : n < ns.length := by omega
              have e1 : ns[n]? = some z := by
                have := atI_nat (xs := ns) (j := n) (v := ns[n]) (by simp)
                rw [this] at hz1
                rw [← hz1]; simp
              exact atI_nat (by rw [List.getElem?_map, e1]; rfl)
            refine ⟨r8, rfl, _, B8 p _ np.1 np.2 (s7 _ _ h6p), _, hzV, by decide, fun t2 ht2 => ?_⟩
            have h8q := B8 q _ nq.1 nq.2 (s7 _ _ h6q)
            have q2 : t2 ≠ q := (ne_of_none h8q ht2).symm
            have s9 : Same H8 (upd H8 t2 (.tup [V.int z])) := Same.upd0 ht2
            refine ⟨kv6, s9 _ _ h8q, small1000 (by omega), ?_⟩
            have kt : ∀ b vs, H6 b = some (.tup vs) → upd (upd H8 t2 (.tup [V.int z])) q (.dK (putK kv6 (Sum.inr c) (.ref t2))) b = some (.tup vs) := fun b vs e => by
              rw [upd_ne (ne_of e h6q (by intro z; cases z))]
              obtain ⟨m', sd, n', xs', hd', hl', _⟩ := D6.ex
              exact s9 _ _ (B8 b _ (ne_of e hd' (by intro z; cases z)) (ne_of e hl' (by intro z; cases z)) (s7 _ _ e))
            refine ⟨_, upd_same, setF (setF rm c (got.take mn)) c [z], r6.putG (ns := [z]) kt (by rw [upd_ne q2]; exact upd_same) (fun x hx => .inr hx), fun x hx => ?_, plain_put pl6 rfl, (keys_old (by rw [hk6, etk]; simp)).trans hk6, ?_, ?_, (D8.new ht2).put nq.1 nq.2, ((B7.trans B8).new ht2).put hq⟩
            · by_cases e : x = c
              · subst e
                unfold setF
                rw [if_pos rfl]
                exact ⟨by simp, by simp; omega, by simp, fun v hv => by rw [List.mem_singleton.mp hv]; exact hz2⟩
              · unfold setF
                rw [if_neg e, if_neg e]
                exact hgd x ((hsub x hx).resolve_left e)
            · rw [upd_ne aq]; exact s9 _ _ (B8 a _ na.1 na.2 (s7 _ _ h6a))
            · rw [upd_ne pq]; exact s9 _ _ (B8 p _ np.1 np.2 (s7 _ _ h6p))
          · refine ⟨_, s7 _ _ h6q, setF rm c (got.take mn), r6.same (fun a vs e => s7 _ _ e), fun x hx => ?_, pl6, hk6, s7 _ _ h6a, s7 _ _ h6p, D7, B7⟩
            by_cases e : x = c
            · subst e
              unfold setF
              rw [if_pos rfl]
              have hne : got ≠ [] := by simpa using hg0
              refine ⟨?_, by simp; omega, ?_, fun v hv => hgs.subset (List.mem_of_mem_take hv)⟩
              · cases got with
                | nil => exact absurd rfl hne
                | cons y ys =>
                  obtain ⟨k', rfl⟩ : ∃ k', mn = k' + 1 := ⟨mn - 1, by omega⟩
                  simp
              · exact (hnp.sublist hgs).sublist (List.take_sublist _ _)
            · unfold setF
              rw [if_neg e]
              exact hgd x ((hsub x hx).resolve_left e)
      · rintro σ H2 ⟨kvs, rm, v5, v6, rfl, h2, hrf, hgd, hpl, hkl, h2a, h2p, D2, B2⟩
        rw [List.length_map, List.take_length] at hrf hgd
        rw [List.length_map, List.take_length] at hkl
        (try ctx_has vcx true_and)
        exact k q kvs rm H2 hq h2 hrf hgd hpl hkl D2 B2
section
variable {X : Cx} {k k2 : Nat} {ps ps2 : List Str} {sp sp2 : Sp} {x : Str} {p pos : Pos} {e : Expr} {es : List Expr} {t : TA}
theorem pe_callF2 (F : Fn X.prog X.w X.K X.mg X.base x k ps sp) (G : Fn X.prog X.w X.K X.mg X.base x k2 ps2 sp2) (hr : Room k X.A) (hr2 : Room k2 X.A) (hg : Gl X x) (ha : PA X (e :: es) t) (hdb : (x == ("__debug__" : Str)) = false := by decide)
    (he : starEach (e :: es) X.env = (false, eval e X.env) :: starEach es X.env := by rfl) (hpl : (backTo pos (starEach es X.env)).any (·.1) = false := by rfl) :
    PE X (.Call (.Name x p) (e :: es) [] pos) (tCall (fun vs H Q E => sp vs H Q E ∨ sp2 vs H Q E) [] E0 t) := by
  obtain ⟨f, fd, F, m, kp, b⟩ := F
  obtain ⟨f2, fd2, G, m2, kp2, b2⟩ := G
  have ef : f2 = f := by rw [m] at m2; cases m2; rfl
  subst ef
  intro pins s σ H Q I h
  refine wpAny_Call_Name_kw (ld_glob I hg m ?_ hdb)
  refine PySem.W.callWith_K (h₀ := X.base) I.ok.mod.kin kp (thn (ha pos pins s σ H _ I h) fun us s1 ⟨vs, H1, I1, r, q⟩ => ⟨I1.kIn, ?_⟩) he hpl
  rcases q with q | q
  · exact run_fn F hr b .nil pass0 I1 r q
  · exact run_fn G hr2 b2 .nil pass0 I1 r q
end
noncomputable def IsThing (H : Hp) (v : V) : Prop := match v with
  | .str s => s.length ≤ 20
  | .int _ => True
  | .bl _ => True
  | .non => True
  | .ref a => ∃ vs, H a = some (.tup vs)
  | _ => False
noncomputable def nameB (v : V) : Bool := match v with
  | .str s => decide (1 ≤ s.length) && decide (s.length ≤ 8) && !inV (.str s) marksV && s.cps.toList.all smallB
  | _ => false
noncomputable def numbB (v : V) : Bool := match v with
  | .int _ => true
  | _ => false
noncomputable def spNumb : Sp := fun vs H Q _ => ∃ (v : V), vs = [v] ∧ IsThing H v ∧ Q (.bl (numbB v)) H
noncomputable def spName : Sp := fun vs H Q _ => ∃ (v : V), vs = [v] ∧ IsThing H v ∧ ∀ H', Same H H' → Q (.bl (nameB v)) H'
noncomputable def tameV : V → Bool
  | .str s => decide (s.length ≤ 20)
  | .int _ => true
  | .bl _ => true
  | .non => true
  | _ => false
theorem tame_thing {H : Hp} {v : V} (h : tameV v = true) : IsThing H v := by
  cases v with
  | str s => exact (of_decide_eq_true (show decide (s.length ≤ 20) = true from h) : s.length ≤ 20)
  | int i => exact True.intro
  | bl b => exact True.intro
  | non => exact True.intro
  | _ => cases h
noncomputable def okV (nm : Bool) (v : V) : Bool := if nm then nameB v else numbB v
noncomputable def isN (nm : Bool) : Str := if nm then "is_name" else "is_number"
noncomputable def Good (nm : Bool) (kvs : List (Key × V)) : Prop := (∀ x ∈ kvs, okV nm (kV x.1) = true ∧ okV nm x.2 = true) ∧ (kvs.map fun x => kV x.1).Perm (kvs.map (·.2))
noncomputable def spLR (mg : Str → Option Value) : Sp := fun vs H Q _ => ∃ (nm : Bool) (a f : Addr) (kvs : List (Key × V)), vs = [.ref a, .ref f] ∧ mg (isN nm) = some (.ref f) ∧ H a = some (.dK kvs) ∧ kvs.length ≤ 45 ∧ (∀ x ∈ kvs, tameV (kV x.1) = true ∧ tameV x.2 = true) ∧ ∀ (b : Bool) H', Same H H' → (b = true ↔ Good nm kvs) → Q (.bl b) H'
noncomputable def tameA (k : Option Key) : Prop := ∀ y, AV k y → tameV y = true
noncomputable def BadA (nm : Bool) (kvs : List (Option Key × V)) : Prop := kvs.length ≤ 45 ∧ (kvs.map (·.1)).Nodup ∧ (∀ x ∈ kvs, tameA x.1 ∧ tameV x.2 = true) ∧ ∃ x ∈ kvs, okV nm x.2 = false
noncomputable def spLRA (P : Program) (w : World) (mg : Str → Option Value) : Sp := fun vs H Q _ => ∃ (nm : Bool) (a f : Addr) (o : Obj) (kvs : List (Option Key × V)), vs = [.ref a, .ref f] ∧ mg (isN nm) = some (.ref f) ∧ H a = some (DictA P w a o kvs) ∧ BadA nm kvs ∧ ∀ H', Same H H' → Q (.bl false) H'
noncomputable def kyOf : V → PySem.W.Ky | .str s => .s s | .int i => .i i | _ => .i 0
noncomputable def dOf : V → PyData | .str s => .str s | .int i => .int i | _ => .none
noncomputable def stV (nm : Bool) (v : V) : Prop := if nm then ∃ s, v = .str s ∧ IsNm s else ∃ i, v = .int i
theorem ok_st {nm : Bool} {v : V} (h : okV nm v = true) : stV nm v := by
  unfold okV at h
  unfold stV
  cases nm with
  | true =>
    rw [if_pos rfl] at h ⊢
    cases v with
    | str s =>
      simp only [nameB, Bool.and_eq_true, decide_eq_true_eq] at h
      exact ⟨s, rfl, h.1.1.1, h.1.1.2, fun c hc => List.all_eq_true.mp h.2 c hc⟩
    | _ => cases h
  | false =>
    rw [if_neg Bool.false_ne_true] at h ⊢
    cases v with
    | int s => exact ⟨s, rfl⟩
    | _ => cases h
theorem st_ky {nm : Bool} {H : Hp} {v : V} (h : stV nm v) : KyV H v (kyOf v) ∧ (kyOf v).tag = (if nm then 0 else 1) ∧ kyOf v ≠ .r [] := by
  unfold stV at h
  cases nm with
  | true => obtain ⟨s, rfl, _⟩ := h; exact ⟨rfl, rfl, by intro z; cases z⟩
  | false => obtain ⟨s, rfl⟩ := h; exact ⟨rfl, rfl, by intro z; cases z⟩
theorem st_inj {nm : Bool} {u v : V} (h : stV nm u) (g : stV nm v) (e : kyOf u = kyOf v) : u = v := by
  unfold stV at h g
  cases nm with
  | true => obtain ⟨s, rfl, _⟩ := h; obtain ⟨t, rfl, _⟩ := g; cases e; rfl
  | false => obtain ⟨s, rfl⟩ := h; obtain ⟨t, rfl⟩ := g; cases e; rfl
theorem st_reps {K : PySem.W.Frag} {H : Hp} {nm : Bool} : ∀ {l : List V}, (∀ v ∈ l, stV nm v) → Reps K H l (l.map dOf) ∧ PyData.canLayAll0 (l.map dOf) = true ∧ PyData.depthAll (l.map dOf) = 0
  | [], _ => ⟨.nil, rfl, rfl⟩
  | v :: l, h => by
    obtain ⟨a, b, c⟩ := st_reps (K := K) (H := H) (l := l) fun x hx => h x (List.mem_cons_of_mem _ hx)
    have hv := h v List.mem_cons_self
    unfold stV at hv
    cases nm with
    | true =>
      obtain ⟨s, rfl, hs⟩ := hv
      exact ⟨.cons (.str s) a, by rw [List.map_cons, PyData.canLayAll0, b]; simp only [dOf, hs.lay, Bool.and_self], by rw [List.map_cons, PyData.depthAll, c]; rfl⟩
    | false =>
      obtain ⟨s, rfl⟩ := hv
      exact ⟨.cons (.int s) a, by rw [List.map_cons, PyData.canLayAll0, b]; rfl, by rw [List.map_cons, PyData.depthAll, c]; rfl⟩
theorem st_eqv {nm : Bool} : ∀ {l m : List V}, (∀ v ∈ l, stV nm v) → (∀ v ∈ m, stV nm v) → (PyData.eqvAll (l.map dOf) (m.map dOf) = true ↔ l = m)
  | [], [], _, _ => by simp [PyData.eqvAll]
  | [], _ :: _, _, _ => by simp [PyData.eqvAll]
  | _ :: _, [], _, _ => by simp [PyData.eqvAll]
  | u :: l, v :: m, hl, hm => by
    have ih := st_eqv (l := l) (m := m) (fun x hx => hl x (List.mem_cons_of_mem _ hx)) fun x hx => hm x (List.mem_cons_of_mem _ hx)
    have hu := hl u List.mem_cons_self
    have hv := hm v List.mem_cons_self
    unfold stV at hu hv
    cases nm with
    | true =>
      obtain ⟨s, rfl, _⟩ := hu
      obtain ⟨t, rfl, _⟩ := hv
      simp [PyData.eqvAll, dOf, PyData.eqv, ih]
    | false =>
      obtain ⟨s, rfl⟩ := hu
      obtain ⟨t, rfl⟩ := hv
      simp [PyData.eqvAll, dOf, PyData.eqv, ih]
noncomputable def wk (l : List V) : List (V × PySem.W.Ky) := l.map fun v => (v, kyOf v)
theorem wk_fst (l : List V) : (wk l).map (·.1) = l := by unfold wk; rw [List.map_map]; exact List.map_id _
theorem wk_of {l : List V} {zs : List (V × PySem.W.Ky)} (h : zs.Perm (wk l)) : (zs.map (·.1)).Perm l ∧ zs.map (·.2) = (zs.map (·.1)).map kyOf := by
  refine ⟨by have := h.map (·.1); rwa [wk_fst] at this, ?_⟩
  rw [List.map_map]
  refine List.map_congr_left fun z hz => ?_
  obtain ⟨v, _, rfl⟩ := List.mem_map.mp (h.mem_iff.mp hz)
  rfl
theorem sorted_same {nm : Bool} {l m l' m' : List V} (hl : ∀ v ∈ l, stV nm v) (hm : ∀ v ∈ m, stV nm v) (pl : l'.Perm l) (pm : m'.Perm m) (sl : (l'.map kyOf).Pairwise PySem.W.Ky.le) (sm : (m'.map kyOf).Pairwise PySem.W.Ky.le) : l' = m' ↔ l.Perm m := by
  constructor
  · rintro rfl
    exact pl.symm.trans pm
  · intro h
    have e := ky_sorted_eq ((pl.trans (h.trans pm.symm)).map kyOf) sl sm
    have hl' : ∀ v ∈ l', stV nm v := fun v hv => hl v (pl.mem_iff.mp hv)
    have hm' : ∀ v ∈ m', stV nm v := fun v hv => hm v (pm.mem_iff.mp hv)
    clear pl pm sl sm h hl hm
    induction l' generalizing m' with
    | nil => cases m' with
      | nil => rfl
      | cons _ _ => cases e
    | cons a l' ih => cases m' with
      | nil => cases e
      | cons b m' =>
        simp only [List.map_cons, List.cons.injEq] at e
        rw [st_inj (hl' a List.mem_cons_self) (hm' b List.mem_cons_self) e.1, ih e.2 (fun v hv => hl' v (List.mem_cons_of_mem _ hv)) fun v hv => hm' v (List.mem_cons_of_mem _ hv)]
theorem one_rd {mg : Str → Option Value} {f : Addr} {nm : Bool} {x : V} {H2 : Hp} {Q2 : VK} (hf : mg (isN nm) = some (.ref f)) (hx : tameV x = true) (q : ∀ H3, Same H2 H3 → Q2 (.bl (okV nm x)) H3) : tCallV mg 1 (Str.ofString "is_name") (Str.ofString "is_number") spName spNumb (tCons (tVarM 0) tNil) [some x, some (.ref f)] H2 Q2 := by
  refine ⟨f, rfl, ?_⟩
  cases nm with
  | true => exact .inl ⟨hf, ⟨x, rfl, tame_thing hx, fun H' s => q H' s⟩⟩
  | false => exact .inr ⟨hf, ⟨x, rfl, tame_thing hx, q _ (Same.refl _)⟩⟩
theorem all_ok {nm : Bool} {l : List V} : (l.map (okV nm)).all id = true ↔ ∀ v ∈ l, okV nm v = true := by
  rw [List.all_map, List.all_eq_true]
  rfl
theorem bl_map {nm : Bool} {l : List V} : l.map (fun v => V.bl (okV nm v)) = (l.map (okV nm)).map V.bl := by rw [List.map_map]; rfl
theorem ok_is_number {P : Program} {w : World} {K : PySem.W.Frag} {mg : Str → Option Value} {base : Heap}  (T : Txt K mg) (L : FnL K mg "is_number" s_is_number ["thing"])  : Fn P w K mg base "is_number" 1 ["thing"] (spNumb) := by
  have nd := sc_is_number.nd
  refine L.ok sc_is_number (fun vs H Q E h => ?_) (fun f cdv A outer s H vs Q E hr h => ?_)
  · obtain ⟨v, rfl, ht, k⟩ := h
    rfl
  · obtain ⟨v, rfl, ht, k⟩ := h
    have hu := hu_of hr
    refine ⟨_, (pss_one (ps_ret (pe_and (pe_callB call_isB rfl T.b_isinstance (show bootBuiltins "isinstance" = some (.builtin "isinstance") by decide +kernel) (pa_cons (pvM 0) (pa_cons (pe_ty (T := "int") rfl T.b_int (by decide +kernel)) pa_nil))) (pe_one (pe_not (pe_callB call_isB rfl T.b_isinstance (show bootBuiltins "isinstance" = some (.builtin "isinstance") by decide +kernel) (pa_cons (pvM 0) (pa_cons (pe_ty (T := "bool") rfl T.b_bool (by decide +kernel)) pa_nil)))))))), ?_⟩
    cases v with
    | str s => (try ctx_has vcx true_and numbB); exact k
    | int i => (try ctx_has vcx true_and numbB); exact k
    | bl s => (try ctx_has vcx true_and numbB Bool.not_true); exact k
    | non => (try ctx_has vcx true_and numbB); exact k
    | ref s =>
      obtain ⟨vs, hv⟩ := ht
      (try ctx_has vcx true_and numbB hv); exact k
    | _ => exact ht.elim
theorem ok_is_name {P : Program} {w : World} {K : PySem.W.Frag} {mg : Str → Option Value} {base : Heap}  (T : Txt K mg) (L : FnL K mg "is_name" s_is_name ["thing"])  : Fn P w K mg base "is_name" 1 ["thing"] (spName) := by
  have nd := sc_is_name.nd
  refine L.ok sc_is_name (fun vs H Q E h => ?_) (fun f cdv A outer s H vs Q E hr h => ?_)
  · obtain ⟨v, rfl, ht, k⟩ := h
    rfl
  · obtain ⟨v, rfl, ht, k⟩ := h
    have hu := hu_of hr
    refine ⟨_, (pss_cons (ps_if (PW.pt (pw_or (pt_not (pt_val (pe_callB call_isB rfl T.b_isinstance (show bootBuiltins "isinstance" = some (.builtin "isinstance") by decide +kernel) (pa_cons (pvM 0) (pa_cons (pe_ty (T := "str") rfl T.b_str (by decide +kernel)) pa_nil))))) (pw_or1 (pt_not (pt_chain op_le op_le pe_int (pe_callB call_lenS rfl T.b_len PySem.boot_len (pa_cons (pvM 0) pa_nil)) (pe_cI T.c_LONGEST_NAME rfl)))))) (pss_one (ps_ret pe_bl)) pss_nil)
      (pss_one (ps_ret (pe_and (pe_cmpR op_notInM (pvM 0) (pe_cT T.c_MARKS rfl) (by with_unfolding_all rfl)) (pe_one (pe_callB (call_allL rfl) rfl T.b_all (show bootBuiltins "all" = some (.builtin "all") by decide +kernel) (pa_cons (pe_comp (N := ["sign"]) (nt := 1) (js := []) rfl (compOk_of ["thing"] (defScope s_is_name).names rfl rfl rfl (by decide +kernel)) (pi_str (pvM 0)) (fun _ _ _ _ _ _ => (pg_name (i := 0) (show List.Nodup [("sign" : Str)] by decide +kernel) rfl (Or.inl rfl))) (tgOk_name (by decide)) (fun _ _ _ _ _ _ => pts_nil) (fun _ _ _ _ _ _ => (pe_chain op_leS op_leS pe_str (pvM 0) pe_str))) pa_nil))))))), ?_⟩
    cases v with
    | str z =>
      (try ctx_has vcx true_and nameB)
      have hz : z.length ≤ 20 := ht
      simp only [nameB] at k
      refine ⟨Nat.le_of_lt (small1000 (by omega)), ?_⟩
      refine ite2 (fun h1 => ?_) (fun h1 => ?_)
      · refine ite2 (fun h2 => ?_) (fun h2 => ?_)
        · have h2 : ¬ ((z.length : Int) ≤ 8) := of_decide_eq_false h2
          rw [decide_eq_false (show ¬ z.length ≤ 8 by omega)] at k
          simpa using k H (Same.refl _)
        · have h2 : ((z.length : Int) ≤ 8) := by simpa using h2
          rw [decide_eq_true (show 1 ≤ z.length by omega), decide_eq_true (show z.length ≤ 8 by omega)] at k
          intro a ha
          refine ⟨_, ha, rfl, by decide +kernel, ?_⟩
          refine ite2 (fun h3 => ?_) (fun h3 => ?_)
          · intro D hD
            refine comp_map wlk_str (f := fun v => match v with | .str x => .bl (smallB (x.cps.getD 0 0)) | _ => .non) hD (fun _ _ => True.intro) (by simp [sgnV]; show z.length ≤ 1000; omega) ?_ ?_
            · intro x H2 Q2 hx sm q
              obtain ⟨c, hc, rfl⟩ := List.mem_map.mp hx
              (try ctx_has vcx true_and)
              rw [lt_a, lt_z]
              exact small_rd (Q := fun b => Q2 (.bl b) H2) q
            · intro H2 sm h2
              refine ⟨D, rfl, z.cps.toList.map smallB, ?_, ?_⟩
              · rw [h2]; simp [sgnV]
              · rw [h3] at k
                have := k H2 sm
                simpa using this
          · have h3 : inV (.str z) marksV = true := by simpa using h3
            rw [h3] at k
            simpa using k H (Same.refl _)
      · rw [decide_eq_false (show ¬ 1 ≤ z.length by omega)] at k
        simpa using k H (Same.refl _)
    | int i => (try ctx_has vcx true_and nameB); exact k _ (Same.refl _)
    | bl s => (try ctx_has vcx true_and nameB); exact k _ (Same.refl _)
    | non => (try ctx_has vcx true_and nameB); exact k _ (Same.refl _)
    | ref s =>
      obtain ⟨vs, hv⟩ := ht
      (try ctx_has vcx true_and nameB hv); exact k _ (Same.refl _)
    | _ => exact ht.elim
theorem ok_leads_roundB {P : Program} {w : World} {K : PySem.W.Frag} {mg : Str → Option Value} {base : Heap}  (T : Txt K mg) (L : FnL K mg "leads_round" s_leads_round ["leads", "is_one"]) (Fis_name : Fn P w K mg base "is_name" 1 ["thing"] (spName)) (Fis_number : Fn P w K mg base "is_number" 1 ["thing"] (spNumb)) : Fn P w K mg base "leads_round" 2 ["leads", "is_one"] (spLR mg) := by
  have nd := sc_leads_round.nd
  refine L.ok sc_leads_round (fun vs H Q E h => ?_) (fun f cdv A outer s H vs Q E hr h => ?_)
  · obtain ⟨nm, a, f, kvs, rfl, hf, ha, hl, ht, k⟩ := h
    rfl
  · obtain ⟨nm, a, f, kvs, rfl, hf, ha, hl, ht, k⟩ := h
    have hu := hu_of hr
    refine ⟨_, (pss_cons (ps_set (i := 2) nd rfl (by first | exact Or.inl rfl | exact Or.inr rfl) (pe_callTy (call_listD rfl) rfl T.b_list (show bootBuiltins "list" = some (.type "list") by decide +kernel) (pa_cons (pvM 0) pa_nil)))
      (pss_cons (ps_set (i := 3) nd rfl (by first | exact Or.inl rfl | exact Or.inr rfl) (pe_lvals rfl rfl T.b_list (pvM 0)))
      (pss_cons (ps_if (pt_not (pt_val (pe_callB (call_allL rfl) rfl T.b_all (show bootBuiltins "all" = some (.builtin "all") by decide +kernel) (pa_cons (pe_comp (N := ["thing", "is_one"]) (nt := 1) (js := [1]) rfl (compOk_of ["leads", "is_one", "keys", "led_to"] (defScope s_leads_round).names rfl rfl rfl (by decide +kernel)) (pi_LK (K := K) rfl (pe_op op_catL (pvM 2) (pvM 3))) (fun _ _ _ _ _ _ => (pg_name (i := 0) (show List.Nodup [("thing" : Str), ("is_one" : Str)] by decide +kernel) rfl (Or.inl rfl))) (tgOk_name (by decide)) (fun _ _ _ _ _ _ => pts_nil) (fun _ _ _ _ _ _ => (pe_callV (mg := mg) (i := 1) rfl Fis_name Fis_number (hr.mono (by first | decide | omega)) (hr.mono (by first | decide | omega)) rfl (by first | exact Or.inl rfl | exact Or.inr (Or.inl rfl) | exact Or.inr (Or.inr rfl)) (pa_cons (pvM 0) pa_nil)))) pa_nil)))) (pss_one (ps_ret pe_bl)) pss_nil)
      (pss_one (ps_ret (pe_cmpR (op_eqD (hu100 hr)) (pe_callB call_sortG rfl T.b_sorted (show bootBuiltins "sorted" = some (.builtin "sorted") by decide +kernel) (pa_cons (pvM 2) pa_nil)) (pe_callB call_sortG rfl T.b_sorted (show bootBuiltins "sorted" = some (.builtin "sorted") by decide +kernel) (pa_cons (pvM 3) pa_nil)) (nomark _))))))), ?_⟩
    (try ctx_has vcx true_and tLVals rListD ha)
    intro l1 h1
    have al := ne_of_none ha h1
    refine ⟨kvs, by rw [upd_ne al]; exact ha, fun l2 h2 => ?_⟩
    have l12 : l1 ≠ l2 := fun z => by rw [← z, upd_same] at h2; cases h2
    have s1 : Same H (upd (upd H l1 (HO.lst (kvs.map fun x => kV x.1))) l2 (HO.lst (kvs.map (·.2)))) := (Same.upd0 h1).upd_new h2
    have e1 : upd (upd H l1 (HO.lst (kvs.map fun x => kV x.1))) l2 (HO.lst (kvs.map (·.2))) l1 = some (HO.lst (kvs.map fun x => kV x.1)) := by rw [upd_ne l12]; exact upd_same
    have e2 : upd (upd H l1 (HO.lst (kvs.map fun x => kV x.1))) l2 (HO.lst (kvs.map (·.2))) l2 = some (HO.lst (kvs.map (·.2))) := upd_same
    generalize upd (upd H l1 (HO.lst (kvs.map fun x => kV x.1))) l2 (HO.lst (kvs.map (·.2))) = H1 at s1 e1 e2 ⊢
    refine ⟨_, e1, _, e2, by simp only [List.length_map]; exact Nat.le_of_lt (small1000 (by omega)), fun p hp => ⟨_, upd_same, fun D hD => ?_⟩⟩
    have s0 : Same H1 (upd H1 p (HO.lst ((kvs.map fun x => kV x.1) ++ kvs.map (·.2)))) := Same.upd0 hp
    have e3 : upd H1 p (HO.lst ((kvs.map fun x => kV x.1) ++ kvs.map (·.2))) p = some (HO.lst ((kvs.map fun x => kV x.1) ++ kvs.map (·.2))) := upd_same
    have htame : ∀ v ∈ (kvs.map fun x => kV x.1) ++ kvs.map (·.2), tameV v = true := fun v hv => by
      rcases List.mem_append.mp hv with h | h
      · obtain ⟨x, hx, rfl⟩ := List.mem_map.mp h; exact (ht x hx).1
      · obtain ⟨x, hx, rfl⟩ := List.mem_map.mp h; exact (ht x hx).2
    have hgood : Good nm kvs ↔ (∀ v ∈ (kvs.map fun x => kV x.1) ++ kvs.map (·.2), okV nm v = true) ∧ (kvs.map fun x => kV x.1).Perm (kvs.map (·.2)) := by
      unfold Good
      refine and_congr_left fun _ => ⟨fun h v hv => ?_, fun h x hx => ⟨h _ (List.mem_append_left _ (List.mem_map.mpr ⟨x, hx, rfl⟩)), h _ (List.mem_append_right _ (List.mem_map.mpr ⟨x, hx, rfl⟩))⟩⟩
      rcases List.mem_append.mp hv with q | q
      · obtain ⟨x, hx, rfl⟩ := List.mem_map.mp q; exact (h x hx).1
      · obtain ⟨x, hx, rfl⟩ := List.mem_map.mp q; exact (h x hx).2
    generalize upd H1 p (HO.lst ((kvs.map fun x => kV x.1) ++ kvs.map (·.2))) = H1' at s0 e3 hD ⊢
    refine comp_mapS wlk_list (fun v => .bl (okV nm v)) hD (fun H' s => .of (s _ _ e3)) (by simp only [List.length_append, List.length_map]; omega) ?_ ?_
    · intro x H2 Q2 hx sm q2
      exact one_rd hf (htame x hx) q2
    · intro H2 sm h2
      rw [bl_map] at h2
      have s3 := s1.trans (s0.trans sm)
      refine ⟨D, rfl, _, h2, ?_⟩
      cases hb : (((kvs.map fun x => kV x.1) ++ kvs.map (·.2)).map (okV nm)).all id with
      | false =>
        rw [if_pos rfl]
        refine k false H2 s3 ⟨(by intro z; cases z), fun z => ?_⟩
        rw [all_ok.mpr (hgood.mp z).1] at hb
        cases hb
      | true =>
        rw [if_neg (by decide)]
        have hall := all_ok.mp hb
        have st : ∀ v ∈ (kvs.map fun x => kV x.1) ++ kvs.map (·.2), stV nm v := fun v hv => ok_st (hall v hv)
        have stk : ∀ v ∈ (kvs.map fun x => kV x.1), stV nm v := fun v hv => st v (List.mem_append_left _ hv)
        have stv : ∀ v ∈ kvs.map (·.2), stV nm v := fun v hv => st v (List.mem_append_right _ hv)
        have hw : ∀ {H : Hp} {l : List V}, (∀ v ∈ l, stV nm v) → (∀ z ∈ wk l, KyV H z.1 z.2) ∧ ∀ z ∈ wk l, z.2.tag = (if nm then 0 else 1) ∧ z.2 ≠ .r [] := fun h => ⟨fun z hz => by obtain ⟨v, hv, rfl⟩ := List.mem_map.mp hz; exact (st_ky (h v hv)).1, fun z hz => by obtain ⟨v, hv, rfl⟩ := List.mem_map.mp hz; exact (st_ky (H := fun _ => none) (h v hv)).2⟩
        have g1 := (s0.trans sm) _ _ e1
        have g2 := (s0.trans sm) _ _ e2
        refine ⟨l1, rfl, wk (kvs.map fun x => kV x.1), .inl (by rw [wk_fst]; exact g1), by unfold wk; simp only [List.length_map]; omega, (hw stk).1, ⟨_, (hw (H := H) stk).2⟩, fun q1 zs1 hq1 p1 o1 => ?_⟩
        have s4 := Same.upd0 (o := HO.lst (zs1.map (·.1))) hq1
        refine ⟨l2, rfl, wk (kvs.map (·.2)), .inl (by rw [wk_fst]; exact s4 _ _ g2), by unfold wk; simp only [List.length_map]; omega, (hw stv).1, ⟨_, (hw (H := H) stv).2⟩, fun q2 zs2 hq2 p2 o2 => ?_⟩
        have s5 := s4.upd_new (o := HO.lst (zs2.map (·.1))) hq2
        obtain ⟨a1, b1⟩ := wk_of p1
        obtain ⟨a2, b2⟩ := wk_of p2
        rw [b1] at o1
        rw [b2] at o2
        have t1 : ∀ v ∈ zs1.map (·.1), stV nm v := fun v hv => stk v (a1.mem_iff.mp hv)
        have t2 : ∀ v ∈ zs2.map (·.1), stV nm v := fun v hv => stv v (a2.mem_iff.mp hv)
        have q12 : q1 ≠ q2 := fun z => by rw [← z, upd_same] at hq2; cases hq2
        refine ⟨.list ((zs1.map (·.1)).map dOf), .list ((zs2.map (·.1)).map dOf), .lst (.of (by rw [upd_ne q12]; exact upd_same)) (st_reps t1).1, .lst (.of upd_same) (st_reps t2).1, by unfold PyData.canLay0; exact (st_reps (K := K) (H := H) t1).2.1, by unfold PyData.canLay0; exact (st_reps (K := K) (H := H) t2).2.1, by unfold PyData.depth; rw [(st_reps (K := K) (H := H) t1).2.2]; decide, ?_⟩
        refine k _ _ (s3.trans s5) ?_
        have : PyData.eqv (.list ((zs1.map (·.1)).map dOf)) (.list ((zs2.map (·.1)).map dOf)) = PyData.eqvAll ((zs1.map (·.1)).map dOf) ((zs2.map (·.1)).map dOf) := by simp only [PyData.eqv]
        rw [this, st_eqv t1 t2, sorted_same stk stv a1 a2 o1 o2, hgood]
        exact ⟨fun z => ⟨hall, z⟩, fun z => z.2⟩
theorem ok_leads_roundS {P : Program} {w : World} {K : PySem.W.Frag} {mg : Str → Option Value} {base : Heap}  (T : Txt K mg) (L : FnL K mg "leads_round" s_leads_round ["leads", "is_one"]) (Fis_name : Fn P w K mg base "is_name" 1 ["thing"] (spName)) (Fis_number : Fn P w K mg base "is_number" 1 ["thing"] (spNumb)) : Fn P w K mg base "leads_round" 2 ["leads", "is_one"] (spLRA P w mg) := by
  have nd := sc_leads_round.nd
  refine L.ok sc_leads_round (fun vs H Q E h => ?_) (fun f cdv A outer s H vs Q E hr h => ?_)
  · obtain ⟨nm, a, f, o, kvs, rfl, hf, ha, hb, k⟩ := h
    rfl
  · obtain ⟨nm, a, f, o, kvs, rfl, hf, ha, hb, k⟩ := h
    have hu := hu_of hr
    refine ⟨_, (pss_cons (ps_set (i := 2) nd rfl (by first | exact Or.inl rfl | exact Or.inr rfl) (pe_callTy (call_listA rfl) rfl T.b_list (show bootBuiltins "list" = some (.type "list") by decide +kernel) (pa_cons (pvM 0) pa_nil)))
      (pss_cons (ps_set (i := 3) nd rfl (by first | exact Or.inl rfl | exact Or.inr rfl) (pe_lvalsA rfl rfl T.b_list (pvM 0)))
      (pss_cons (ps_if (pt_not (pt_val (pe_callB (call_allL rfl) rfl T.b_all (show bootBuiltins "all" = some (.builtin "all") by decide +kernel) (pa_cons (pe_comp (N := ["thing", "is_one"]) (nt := 1) (js := [1]) rfl (compOk_of ["leads", "is_one", "keys", "led_to"] (defScope s_leads_round).names rfl rfl rfl (by decide +kernel)) (pi_LK (K := K) rfl (pe_op op_catL (pvM 2) (pvM 3))) (fun _ _ _ _ _ _ => (pg_name (i := 0) (show List.Nodup [("thing" : Str), ("is_one" : Str)] by decide +kernel) rfl (Or.inl rfl))) (tgOk_name (by decide)) (fun _ _ _ _ _ _ => pts_nil) (fun _ _ _ _ _ _ => (pe_callV (mg := mg) (i := 1) rfl Fis_name Fis_number (hr.mono (by first | decide | omega)) (hr.mono (by first | decide | omega)) rfl (by first | exact Or.inl rfl | exact Or.inr (Or.inl rfl) | exact Or.inr (Or.inr rfl)) (pa_cons (pvM 0) pa_nil)))) pa_nil)))) (pss_one (ps_ret pe_bl)) pss_nil)
      (pss_one (ps_ret (pe_cmpR (op_eqD (hu100 hr)) (pe_callB call_sortG rfl T.b_sorted (show bootBuiltins "sorted" = some (.builtin "sorted") by decide +kernel) (pa_cons (pvM 2) pa_nil)) (pe_callB call_sortG rfl T.b_sorted (show bootBuiltins "sorted" = some (.builtin "sorted") by decide +kernel) (pa_cons (pvM 3) pa_nil)) (nomark _))))))), ?_⟩
    (try ctx_has vcx true_and tLValsA rListA ha)
    obtain ⟨hl, hnd, ht, hbad⟩ := hb
    refine ⟨o, kvs, rfl, fun l1 ys h1 hyl hya => ?_⟩
    have al := ne_of_none ha h1
    refine ⟨o, kvs, by rw [upd_ne al]; exact ha, fun l2 h2 => ?_⟩
    have l12 : l1 ≠ l2 := fun z => by rw [← z, upd_same] at h2; cases h2
    have s1 : Same H (upd (upd H l1 (HO.lst ys)) l2 (HO.lst (kvs.map (·.2)))) := (Same.upd0 h1).upd_new h2
    have e1 : upd (upd H l1 (HO.lst ys)) l2 (HO.lst (kvs.map (·.2))) l1 = some (HO.lst ys) := by rw [upd_ne l12]; exact upd_same
    have e2 : upd (upd H l1 (HO.lst ys)) l2 (HO.lst (kvs.map (·.2))) l2 = some (HO.lst (kvs.map (·.2))) := upd_same
    generalize upd (upd H l1 (HO.lst ys)) l2 (HO.lst (kvs.map (·.2))) = H1 at s1 e1 e2 ⊢
    refine ⟨_, e1, _, e2, by simp only [List.length_map]; exact Nat.le_of_lt (small1000 (by omega)), fun p hp => ⟨_, upd_same, fun D hD => ?_⟩⟩
    have s0 : Same H1 (upd H1 p (HO.lst (ys ++ kvs.map (·.2)))) := Same.upd0 hp
    have e3 : upd H1 p (HO.lst (ys ++ kvs.map (·.2))) p = some (HO.lst (ys ++ kvs.map (·.2))) := upd_same
    have htame : ∀ v ∈ ys ++ kvs.map (·.2), tameV v = true := fun v hv => by
      rcases List.mem_append.mp hv with h | h
      · obtain ⟨x, hx, e⟩ := hya v h; exact (ht x hx).1 v e
      · obtain ⟨x, hx, rfl⟩ := List.mem_map.mp h; exact (ht x hx).2
    generalize upd H1 p (HO.lst (ys ++ kvs.map (·.2))) = H1' at s0 e3 hD ⊢
    refine comp_mapS wlk_list (fun v => .bl (okV nm v)) hD (fun H' s => .of (s _ _ e3)) (by simp only [List.length_append, List.length_map]; omega) ?_ ?_
    · intro x H2 Q2 hx sm q2
      exact one_rd hf (htame x hx) q2
    · intro H2 sm h2
      rw [bl_map] at h2
      refine ⟨D, rfl, _, h2, ?_⟩
      have hb : ((ys ++ kvs.map (·.2)).map (okV nm)).all id = false := by
        cases hb : ((ys ++ kvs.map (·.2)).map (okV nm)).all id with
        | false => rfl
        | true =>
          obtain ⟨x, hx, e⟩ := hbad
          rw [all_ok.mp hb x.2 (List.mem_append_right _ (List.mem_map.mpr ⟨x, hx, rfl⟩))] at e
          cases e
      rw [if_pos hb]
      exact k H2 (s1.trans (s0.trans sm))
noncomputable def DK (P : Program) (w : World) (nm : Bool) (H : Hp) (a : Addr) (g : Prop) : Prop :=
  (∃ kvs, H a = some (.dK kvs) ∧ kvs.length ≤ 45 ∧ (kvs.map (·.1)).Nodup ∧ (∀ x ∈ kvs, tameV (kV x.1) = true ∧ tameV x.2 = true) ∧ (g ↔ Good nm kvs)) ∨ (∃ o kvs, H a = some (DictA P w a o kvs) ∧ BadA nm kvs ∧ ¬ g)
theorem DK.same {P : Program} {w : World} {nm : Bool} {H H' : Hp} {a : Addr} {g : Prop} (h : DK P w nm H a g) (s : Same H H') : DK P w nm H' a g := by
  rcases h with ⟨kvs, h1, h2⟩ | ⟨o, kvs, h1, h2⟩
  · exact .inl ⟨kvs, s _ _ h1, h2⟩
  · exact .inr ⟨o, kvs, s _ _ h1, h2⟩
theorem lr_rd {P : Program} {w : World} {mg : Str → Option Value} {nm : Bool} {H : Hp} {a f : Addr} {g : Prop} {Q : VK} {E : XK} (hf : mg (isN nm) = some (.ref f)) (h : DK P w nm H a g) (k : ∀ (b : Bool) H', Same H H' → (b = true ↔ g) → Q (.bl b) H') : spLR mg [.ref a, .ref f] H Q E ∨ spLRA P w mg [.ref a, .ref f] H Q E := by
  rcases h with ⟨kvs, h1, h2, h3, h4, h5⟩ | ⟨o, kvs, h1, h2, h3⟩
  · exact .inl ⟨nm, a, f, kvs, rfl, hf, h1, h2, h4, fun b H' s hb => k b H' s (hb.trans h5.symm)⟩
  · exact .inr ⟨nm, a, f, o, kvs, rfl, hf, h1, h2, fun H' s => k false H' s ⟨(by intro z; cases z), fun z => absurd z h3⟩⟩
noncomputable def spIT (P : Program) (w : World) : Sp := fun vs H Q _ => ∃ (t na va : Addr) (g1 g2 : Prop), vs = [.ref t] ∧ H t = some (.tup [.ref na, .ref va]) ∧ DK P w true H na g1 ∧ DK P w false H va g2 ∧ ∀ (b : Bool) H', Same H H' → (b = true ↔ g1 ∧ g2) → Q (.bl b) H'
noncomputable def spGood (P : Program) (w : World) : Sp := fun vs H Q _ => ∃ (nm : Bool) (a : Addr) (kvs : List (Key × V)), vs = [.ref a, .bl nm] ∧ H a = some (.dK kvs) ∧ kvs.length ≤ 45 ∧ (kvs.map (·.1)).Nodup ∧ (∀ x ∈ kvs, tameV (kV x.1) = true ∧ tameV x.2 = true) ∧ ∀ (b : Bool) H', Same H H' → (b = true ↔ Good nm kvs) → Q (.bl b) H'
noncomputable def spGoodA (P : Program) (w : World) : Sp := fun vs H Q _ => ∃ (nm : Bool) (a : Addr) (o : Obj) (kvs : List (Option Key × V)), vs = [.ref a, .bl nm] ∧ H a = some (DictA P w a o kvs) ∧ BadA nm kvs ∧ ∀ H', Same H H' → Q (.bl false) H'
theorem good_rd {P : Program} {w : World} {nm : Bool} {H : Hp} {a : Addr} {g : Prop} {Q : VK} {E : XK} (h : DK P w nm H a g) (k : ∀ (b : Bool) H', Same H H' → (b = true ↔ g) → Q (.bl b) H') : spGood P w [.ref a, .bl nm] H Q E ∨ spGoodA P w [.ref a, .bl nm] H Q E := by
  rcases h with ⟨kvs, h1, h2, h3, h4, h5⟩ | ⟨o, kvs, h1, h2, h3⟩
  · exact .inl ⟨nm, a, kvs, rfl, h1, h2, h3, h4, fun b H' s hb => k b H' s (hb.trans h5.symm)⟩
  · exact .inr ⟨nm, a, o, kvs, rfl, h1, h2, fun H' s => k false H' s ⟨(by intro z; cases z), fun z => absurd z h3⟩⟩
theorem ok_is_turning {P : Program} {w : World} {K : PySem.W.Frag} {mg : Str → Option Value} {base : Heap}  (T : Txt K mg) (L : FnL K mg "is_turning" s_is_turning ["thing"]) (Fleads_roundB : Fn P w K mg base "leads_round" 2 ["leads", "is_one"] (spLR mg)) (Fleads_roundS : Fn P w K mg base "leads_round" 2 ["leads", "is_one"] (spLRA P w mg)) : Fn P w K mg base "is_turning" 3 ["thing"] (spIT P w) := by
  have nd := sc_is_turning.nd
  refine L.ok sc_is_turning (fun vs H Q E h => ?_) (fun f cdv A outer s H vs Q E hr h => ?_)
  · obtain ⟨t, na, va, g1, g2, rfl, ht, h1, h2, k⟩ := h
    rfl
  · obtain ⟨t, na, va, g1, g2, rfl, ht, h1, h2, k⟩ := h
    have hu := hu_of hr
    refine ⟨_, (pss_one (ps_ret (pe_and (pe_callF2 Fleads_roundB Fleads_roundS (hr.mono (by first | decide | omega)) (hr.mono (by first | decide | omega)) rfl (pa_cons (pe_ix ix_T (pvM 0) pe_int (fun _ _ => rfl)) (pa_cons (pe_glob (v := .ref (clsAt mg "is_name")) rfl T.at_is_name rfl) pa_nil))) (pe_one (pe_callF2 Fleads_roundB Fleads_roundS (hr.mono (by first | decide | omega)) (hr.mono (by first | decide | omega)) rfl (pa_cons (pe_ix ix_T (pvM 0) pe_int (fun _ _ => rfl)) (pa_cons (pe_glob (v := .ref (clsAt mg "is_number")) rfl T.at_is_number rfl) pa_nil))))))), ?_⟩
    (try ctx_has vcx true_and ht)
    refine lr_rd (nm := true) T.at_is_name h1 fun b H1 s1 hb => ?_
    refine ⟨b, rfl, ?_⟩
    cases b with
    | false =>
      rw [if_neg Bool.false_ne_true]
      exact k false H1 s1 ⟨(by intro z; cases z), fun z => hb.mpr z.1⟩
    | true =>
      rw [if_pos rfl]
      refine ⟨_, s1 _ _ ht, _, atI_nat (j := 1) rfl, ?_⟩
      refine lr_rd (nm := false) T.at_is_number (h2.same s1) fun b2 H2 s2 hb2 => ?_
      exact k b2 H2 (s1.trans s2) ⟨fun z => ⟨hb.mp rfl, hb2.mp z⟩, fun z => hb2.mpr z.2⟩
theorem ok__law_is_name {P : Program} {w : World} {K : PySem.W.Frag} {mg : Str → Option Value} {base : Heap}  (T : Txt K mg) (L : FnL K mg "_law_is_name" s__law_is_name ["_law_thing"])  : Fn P w K mg base "_law_is_name" 1 ["_law_thing"] (spName) := by
  have nd := sc__law_is_name.nd
  refine L.ok sc__law_is_name (fun vs H Q E h => ?_) (fun f cdv A outer s H vs Q E hr h => ?_)
  · obtain ⟨v, rfl, ht, k⟩ := h
    rfl
  · obtain ⟨v, rfl, ht, k⟩ := h
    have hu := hu_of hr
    refine ⟨_, (pss_cons (ps_if (PW.pt (pw_or (pt_not (pt_val (pe_callB call_isB rfl T.b_isinstance (show bootBuiltins "isinstance" = some (.builtin "isinstance") by decide +kernel) (pa_cons (pvM 0) (pa_cons (pe_ty (T := "str") rfl T.b_str (by decide +kernel)) pa_nil))))) (pw_or (pt_not (pt_chain op_le op_le pe_int (pe_callB call_lenS rfl T.b_len PySem.boot_len (pa_cons (pvM 0) pa_nil)) pe_int)) (pw_or1 (pt_cmpR op_inT (pvM 0) (pe_tup (pa_cons pe_str (pa_cons pe_str (pa_cons pe_str (pa_cons pe_str pa_nil))))) (by with_unfolding_all rfl)))))) (pss_one (ps_ret pe_bl)) pss_nil)
      (pss_one (ps_ret (pe_callB (call_allL rfl) rfl T.b_all (show bootBuiltins "all" = some (.builtin "all") by decide +kernel) (pa_cons (pe_comp (N := ["_law_sign"]) (nt := 1) (js := []) rfl (compOk_of ["_law_thing"] (defScope s__law_is_name).names rfl rfl rfl (by decide +kernel)) (pi_str (pvM 0)) (fun _ _ _ _ _ _ => (pg_name (i := 0) (show List.Nodup [("_law_sign" : Str)] by decide +kernel) rfl (Or.inl rfl))) (tgOk_name (by decide)) (fun _ _ _ _ _ _ => pts_nil) (fun _ _ _ _ _ _ => (pe_cmpR op_inS (pvM 0) pe_str (by with_unfolding_all rfl)))) pa_nil))))), ?_⟩
    cases v with
    | str z =>
      (try ctx_has vcx true_and nameB)
      have hz : z.length ≤ 20 := ht
      simp only [nameB] at k
      refine ⟨Nat.le_of_lt (small1000 (by omega)), ?_⟩
      refine ite2 (fun h1 => ?_) (fun h1 => ?_)
      · refine ite2 (fun h2 => ?_) (fun h2 => ?_)
        · have h2 : ¬ ((z.length : Int) ≤ 8) := of_decide_eq_false h2
          rw [decide_eq_false (show ¬ z.length ≤ 8 by omega)] at k
          simpa using k H (Same.refl _)
        · have h2 : ((z.length : Int) ≤ 8) := by simpa using h2
          rw [decide_eq_true (show 1 ≤ z.length by omega), decide_eq_true (show z.length ≤ 8 by omega)] at k
          refine ⟨by decide, fun p hp => ⟨_, upd_same, rfl, by decide +kernel, ?_⟩⟩
          have s0 := Same.upd0 (o := HO.tup marksV) hp
          show (if inV (V.str z) marksV = true then Q (V.bl false) (upd H p (HO.tup marksV)) else _)
          refine ite2 (fun h3 => ?_) (fun h3 => ?_)
          · rw [h3] at k
            simpa using k _ s0
          · have h3 : inV (V.str z) marksV = false := by simpa using h3
            intro D hD
            refine comp_map wlk_str (f := fun v => match v with | .str x => .bl (smallB (x.cps.getD 0 0)) | _ => .non) hD (fun _ _ => True.intro) (by simp [sgnV]; show z.length ≤ 1000; omega) ?_ ?_
            · intro x H2 Q2 hx sm q
              obtain ⟨c, hc, rfl⟩ := List.mem_map.mp hx
              (try ctx_has vcx true_and)
              rw [letters_in]
              exact q
            · intro H2 sm h2
              refine ⟨D, rfl, z.cps.toList.map smallB, ?_, ?_⟩
              · rw [h2]; simp [sgnV]
              · rw [h3] at k
                have := k H2 (s0.trans sm)
                simpa using this
      · rw [decide_eq_false (show ¬ 1 ≤ z.length by omega)] at k
        simpa using k H (Same.refl _)
    | int i => (try ctx_has vcx true_and nameB); exact k _ (Same.refl _)
    | bl s => (try ctx_has vcx true_and nameB); exact k _ (Same.refl _)
    | non => (try ctx_has vcx true_and nameB); exact k _ (Same.refl _)
    | ref s =>
      obtain ⟨vs, hv⟩ := ht
      (try ctx_has vcx true_and nameB hv); exact k _ (Same.refl _)
    | _ => exact ht.elim
theorem ok__law_is_whole {P : Program} {w : World} {K : PySem.W.Frag} {mg : Str → Option Value} {base : Heap}  (T : Txt K mg) (L : FnL K mg "_law_is_whole" s__law_is_whole ["_law_thing"])  : Fn P w K mg base "_law_is_whole" 1 ["_law_thing"] (spNumb) := by
  have nd := sc__law_is_whole.nd
  refine L.ok sc__law_is_whole (fun vs H Q E h => ?_) (fun f cdv A outer s H vs Q E hr h => ?_)
  · obtain ⟨v, rfl, ht, k⟩ := h
    rfl
  · obtain ⟨v, rfl, ht, k⟩ := h
    have hu := hu_of hr
    refine ⟨_, (pss_one (ps_ret (pe_and (pe_callB call_isB rfl T.b_isinstance (show bootBuiltins "isinstance" = some (.builtin "isinstance") by decide +kernel) (pa_cons (pvM 0) (pa_cons (pe_ty (T := "int") rfl T.b_int (by decide +kernel)) pa_nil))) (pe_one (pe_not (pe_callB call_isB rfl T.b_isinstance (show bootBuiltins "isinstance" = some (.builtin "isinstance") by decide +kernel) (pa_cons (pvM 0) (pa_cons (pe_ty (T := "bool") rfl T.b_bool (by decide +kernel)) pa_nil)))))))), ?_⟩
    cases v with
    | str s => (try ctx_has vcx true_and numbB); exact k
    | int i => (try ctx_has vcx true_and numbB); exact k
    | bl s => (try ctx_has vcx true_and numbB Bool.not_true); exact k
    | non => (try ctx_has vcx true_and numbB); exact k
    | ref s =>
      obtain ⟨vs, hv⟩ := ht
      (try ctx_has vcx true_and numbB hv); exact k
    | _ => exact ht.elim
theorem st_strs : ∀ {l : List V}, (∀ u ∈ l, stV true u) → ∃ ss : List Str, l = ss.map V.str
  | [], _ => ⟨[], rfl⟩
  | u :: l, h => by
    obtain ⟨ss, rfl⟩ := st_strs (l := l) fun u hu => h u (List.mem_cons_of_mem _ hu)
    have hu := h u List.mem_cons_self
    unfold stV at hu
    rw [if_pos rfl] at hu
    obtain ⟨s, rfl, _⟩ := hu
    exact ⟨s :: ss, rfl⟩
theorem st_ints : ∀ {l : List V}, (∀ u ∈ l, stV false u) → ∃ ss : List Int, l = ss.map V.int
  | [], _ => ⟨[], rfl⟩
  | u :: l, h => by
    obtain ⟨ss, rfl⟩ := st_ints (l := l) fun u hu => h u (List.mem_cons_of_mem _ hu)
    have hu := h u List.mem_cons_self
    unfold stV at hu
    rw [if_neg Bool.false_ne_true] at hu
    obtain ⟨s, rfl⟩ := hu
    exact ⟨s :: ss, rfl⟩
theorem inV_st {nm : Bool} {v : V} {l : List V} (hv : stV nm v) (hl : ∀ u ∈ l, stV nm u) : (inV v l = true ↔ v ∈ l) ∧ flatV v = true ∧ l.all flatV = true ∧ v = kV (invK v) := by
  cases nm with
  | true =>
    obtain ⟨ss, rfl⟩ := st_strs hl
    unfold stV at hv
    rw [if_pos rfl] at hv
    obtain ⟨s, rfl, _⟩ := hv
    exact ⟨by rw [inV_strs, decide_eq_true_eq]; simp, rfl, flat_strs _, rfl⟩
  | false =>
    obtain ⟨ss, rfl⟩ := st_ints hl
    unfold stV at hv
    rw [if_neg Bool.false_ne_true] at hv
    obtain ⟨s, rfl⟩ := hv
    exact ⟨by rw [inV_ints, decide_eq_true_eq]; simp, rfl, flat_ints _, rfl⟩
theorem kV_inj' {k j : Key} (e : kV k = kV j) : k = j := by
  have := congrArg invK e
  rwa [inv_kV, inv_kV] at this
theorem keys_nd {kvs : List (Key × V)} (h : (kvs.map (·.1)).Nodup) : (kvs.map fun x => kV x.1).Nodup := by
  have : (kvs.map fun x => kV x.1) = (kvs.map (·.1)).map kV := by rw [List.map_map]; rfl
  rw [this]
  exact List.Pairwise.map _ (fun a b hab e => hab (kV_inj' e)) h
theorem val_some {kvs : List (Key × V)} {k : Key} (h : kV k ∈ kvs.map fun x => kV x.1) : (valV kvs k).isSome = true := by
  obtain ⟨x, hx, e⟩ := List.mem_map.mp h
  rw [← valV_any]
  exact List.any_eq_true.mpr ⟨x, hx, decide_eq_true (kV_inj' e)⟩
theorem two_rd {K : PySem.W.Frag} {p : Addr} {nm : Bool} {a : V} {x y : V} {v3 v4 : Option V} {D : Ends} {H1 : Hp} (hp : H1 p = none) (hx : tameV x = true) (hy : tameV y = true)
    (bad : (okV nm x && okV nm y) = false → ∀ H', Same H1 H' → D.rt (.bl false) H') (good : okV nm x = true → okV nm y = true → ∀ H' v3, Same H1 H' → D.nx [some a, some (.bl nm), some x, v3, v4] H') :
    ForG (Itl K p) (gName 3) (tIfS (tOr (tAnd (tB (tVarM 1)) (tNot (tB (tCall spName [] E0 (tCons (tVarM 3) tNil))))) (tAnd (tNot (tB (tVarM 1))) (tNot (tB (tCall spNumb [] E0 (tCons (tVarM 3) tNil)))))) (tRet (tC (V.bl false))) tNext) D [some a, some (.bl nm), some x, v3, v4] (upd H1 p (HO.lst [x, y])) := by
  have s0 : Same H1 (upd H1 p (HO.lst [x, y])) := Same.upd0 hp
  have e0 : upd H1 p (HO.lst [x, y]) p = some (HO.lst [x, y]) := upd_same
  generalize upd H1 p (HO.lst [x, y]) = H1' at s0 e0 ⊢
  refine for_g wlk_list (fun i σ H' => ∃ v3, σ = [some a, some (.bl nm), some x, v3, v4] ∧ Same H1' H' ∧ ∀ u ∈ [x, y].take i, okV nm u = true) ⟨_, rfl, Same.refl _, by simp⟩ (fun i σ H' zq45 => by obtain ⟨_, _, s, _⟩ := zq45; exact (.of (s _ _ e0))) ?_ ?_
  · rintro i z σ H2 hi hz ⟨v3, rfl, sm, hok⟩
    have hzm : z ∈ [x, y] := List.mem_of_getElem? hz
    have htz : tameV z = true := by
      simp only [List.mem_cons, List.not_mem_nil, or_false] at hzm
      rcases hzm with rfl | rfl <;> assumption
    have hno : okV nm z = false → (okV nm x && okV nm y) = false := fun h => by
      simp only [List.mem_cons, List.not_mem_nil, or_false] at hzm
      rcases hzm with rfl | rfl <;> rw [h]
      · rfl
      · exact Bool.and_false _
    have etk : ([x, y].take (i + 1)) = [x, y].take i ++ [z] := by rw [List.take_add_one, hz]; rfl
    have fin : ∀ H3, Same H2 H3 → if okV nm z = false then D.rt (.bl false) H3 else Same H1' H3 ∧ ∀ u ∈ [x, y].take (i + 1), okV nm u = true := fun H3 s3 => by
      refine ite2 (fun h => bad (hno h) H3 (s0.trans (sm.trans s3))) (fun h => ⟨sm.trans s3, fun u hu => ?_⟩)
      rw [etk] at hu
      rcases List.mem_append.mp hu with q | q
      · exact hok u q
      · rw [List.mem_singleton.mp q]; simpa using h
    cases nm with
    | true =>
      (try ctx_has vcx true_and)
      exact ⟨z, rfl, tame_thing htz, fun H3 s3 => ⟨_, rfl, fin H3 s3⟩⟩
    | false =>
      (try ctx_has vcx true_and)
      exact ⟨z, rfl, tame_thing htz, _, rfl, fin H2 (Same.refl _)⟩
  · rintro σ H2 ⟨v3, rfl, sm, hok⟩
    exact good (hok x (by simp)) (hok y (by simp)) H2 v3 (s0.trans sm)
theorem ok__law_goodB {P : Program} {w : World} {K : PySem.W.Frag} {mg : Str → Option Value} {base : Heap}  (T : Txt K mg) (L : FnL K mg "_law_good" s__law_good ["_law_leads_here", "_law_names_here"]) (F_law_is_name : Fn P w K mg base "_law_is_name" 1 ["_law_thing"] (spName)) (F_law_is_whole : Fn P w K mg base "_law_is_whole" 1 ["_law_thing"] (spNumb)) : Fn P w K mg base "_law_good" 2 ["_law_leads_here", "_law_names_here"] (spGood P w) := by
  have nd := sc__law_good.nd
  refine L.ok sc__law_good (fun vs H Q E h => ?_) (fun f cdv A outer s H vs Q E hr h => ?_)
  · obtain ⟨nm, a, kvs, rfl, ha, hl, hnd, ht, k⟩ := h
    rfl
  · obtain ⟨nm, a, kvs, rfl, ha, hl, hnd, ht, k⟩ := h
    have hu := hu_of hr
    refine ⟨_, (pss_cons (ps_thaw (ps_for PassesOwn.never rfl (pi_D (pvM 0)) (pg_name (i := 2) nd rfl (by first | exact Or.inl rfl | exact Or.inr rfl)) (pss_one (ps_for PassesOwn.never rfl (pi_LK (K := K) rfl (pe_lst (pa_cons (pvM 2) (pa_cons (pe_dgF hu (pvM 0) (pvM 2) (fun _ _ => rfl)) pa_nil)))) (pg_name (i := 3) nd rfl (by first | exact Or.inl rfl | exact Or.inr rfl)) (pss_one (ps_if (PW.pt (pw_or (PW.pt (pw_and (pt_val (pvM 1)) (pw_and1 (pt_not (pt_val (pe_callF F_law_is_name (hr.mono (by first | decide | omega)) rfl (pa_cons (pvM 3) pa_nil))))))) (pw_or1 (PW.pt (pw_and (pt_not (pt_val (pvM 1))) (pw_and1 (pt_not (pt_val (pe_callF F_law_is_whole (hr.mono (by first | decide | omega)) rfl (pa_cons (pvM 3) pa_nil)))))))))) (pss_one (ps_ret pe_bl)) pss_nil))))))
      (pss_cons (ps_set (i := 4) nd rfl (by first | exact Or.inl rfl | exact Or.inr rfl) (pe_lvals rfl rfl T.b_list (pvM 0)))
      (pss_one (ps_ret (pe_and (pe_callB (call_allL rfl) rfl T.b_all (show bootBuiltins "all" = some (.builtin "all") by decide +kernel) (pa_cons (pe_thaw (pe_comp (N := ["_law_key", "_law_others"]) (nt := 1) (js := [4]) rfl (compOk_of ["_law_leads_here", "_law_names_here", "_law_key", "_law_thing", "_law_others"] (defScope s__law_good).names rfl rfl rfl (by decide +kernel)) (pi_D (pvM 0)) (fun _ _ _ _ _ _ => (pg_name (i := 0) (show List.Nodup [("_law_key" : Str), ("_law_others" : Str)] by decide +kernel) rfl (Or.inl rfl))) (tgOk_name (by decide)) (fun _ _ _ _ _ _ => pts_nil) (fun _ _ _ _ _ _ => (pe_cmpR op_inL (pvM 0) (pvM 1) (by with_unfolding_all rfl))))) pa_nil)) (pe_one (pe_callB (call_allL rfl) rfl T.b_all (show bootBuiltins "all" = some (.builtin "all") by decide +kernel) (pa_cons (pe_comp (N := ["_law_other", "_law_leads_here"]) (nt := 1) (js := [0]) rfl (compOk_of ["_law_leads_here", "_law_names_here", "_law_key", "_law_thing", "_law_others"] (defScope s__law_good).names rfl rfl rfl (by decide +kernel)) (pi_LK (K := K) rfl (pvM 4)) (fun _ _ _ _ _ _ => (pg_name (i := 0) (show List.Nodup [("_law_other" : Str), ("_law_leads_here" : Str)] by decide +kernel) rfl (Or.inl rfl))) (tgOk_name (by decide)) (fun _ _ _ _ _ _ => pts_nil) (fun _ _ _ _ _ _ => (pe_cmp (pc_dinS hu (pvM 0) (pvM 1))))) pa_nil)))))))), ?_⟩
    (try ctx_has vcx true_and tThaw ha)
    refine ⟨a, kvs, ha, fun o => ?_⟩
    refine for_g wlk_dk (fun i σ H' => ∃ v2 v3, σ = [some (.ref a), some (.bl nm), v2, v3, none] ∧ H' a = some (.frz o (.dK kvs)) ∧ (∀ b u, b ≠ a → H b = some u → H' b = some u) ∧ ∀ x ∈ kvs.take i, okV nm (kV x.1) = true ∧ okV nm x.2 = true)
      ⟨_, _, rfl, upd_same, fun b u hb e => by rw [upd_ne hb]; exact e, by simp⟩ (fun i σ H' zq46 => by obtain ⟨_, _, _, h, _⟩ := zq46; exact (h)) ?_ ?_
    · rintro i z σ H2 hi hz ⟨v2, v3, rfl, h2a, k2, hok⟩
      obtain ⟨y, hy, rfl⟩ : ∃ y, kvs[i]? = some y ∧ kV y.1 = z := by
        rw [List.getElem?_map] at hz
        cases e : kvs[i]? with
        | none => rw [e] at hz; cases hz
        | some nm => rw [e] at hz; exact ⟨nm, rfl, Option.some.inj hz⟩
      have hym := List.mem_of_getElem? hy
      (try ctx_has vcx true_and tDGF)
      refine ⟨y.1, rfl, o, _, h2a, _, valV_mem hnd hym, by decide, fun p hp => ⟨_, upd_same, ?_⟩⟩
      refine two_rd hp (ht y hym).1 (ht y hym).2 (fun hbad H' s => ?_) (fun g1 g2 H' v3 s => ?_)
      · refine ⟨⟨o, s _ _ h2a⟩, ?_⟩
        refine k false _ (fun b u e => ?_) ⟨(by intro z; cases z), fun z => ?_⟩
        · by_cases hb : b = a
          · subst hb; rw [upd_same, ← e, ha]
          · rw [upd_ne hb]; exact s _ _ (k2 b u hb e)
        · rw [(z.1 y hym).1, (z.1 y hym).2] at hbad
          cases hbad
      · refine ⟨_, _, rfl, s _ _ h2a, fun b u hb e => s _ _ (k2 b u hb e), fun x hx => ?_⟩
        rw [List.take_add_one, hy] at hx
        rcases List.mem_append.mp hx with q | q
        · exact hok x q
        · rw [show x = y by simpa using q]; exact ⟨g1, g2⟩
    · rintro σ H2 ⟨v2, v3, rfl, h2a, k2, hok⟩
      rw [List.length_map, List.take_length] at hok
      refine ⟨⟨o, h2a⟩, ?_⟩
      have h3 : upd H2 a (HO.dK kvs) a = some (HO.dK kvs) := upd_same
      have s3 : Same H (upd H2 a (HO.dK kvs)) := fun b u e => by
        by_cases hb : b = a
        · subst hb; rw [upd_same, ← e, ha]
        · rw [upd_ne hb]; exact k2 b u hb e
      generalize upd H2 a (HO.dK kvs) = H3 at h3 s3 ⊢
      (try ctx_has vcx true_and tLVals h3)
      intro l hl
      have al : a ≠ l := ne_of_none h3 hl
      have s4 : Same H3 (upd H3 l (HO.lst (kvs.map (·.2)))) := Same.upd0 hl
      have e4 : upd H3 l (HO.lst (kvs.map (·.2))) l = some (HO.lst (kvs.map (·.2))) := upd_same
      generalize upd H3 l (HO.lst (kvs.map (·.2))) = H4 at s4 e4 ⊢
      have h4 := s4 _ _ h3
      have stk : ∀ v ∈ (kvs.map fun x => kV x.1), stV nm v := fun v hv => by obtain ⟨x, hx, rfl⟩ := List.mem_map.mp hv; exact ok_st (hok x hx).1
      have stv : ∀ v ∈ kvs.map (·.2), stV nm v := fun v hv => by obtain ⟨x, hx, rfl⟩ := List.mem_map.mp hv; exact ok_st (hok x hx).2
      refine ⟨a, kvs, h4, a, rfl, kvs, h4, fun o2 D hD => ?_⟩
      have hD4 : H4 D = none ∧ D ≠ a := by
        have : D ≠ a := fun z => by rw [z, upd_same] at hD; cases hD
        exact ⟨by rwa [upd_ne this] at hD, this⟩
      refine comp_map wlk_dk (f := fun v => .bl (inV v (kvs.map (·.2)))) hD (fun H' s => s _ _ upd_same) (by simp only [List.length_map]; omega) ?_ ?_
      · intro x H5 Q5 hx s5 q5
        have e5 := s5 l _ (by rw [upd_ne al.symm]; exact e4)
        have hh := inV_st (stk x hx) stv
        (try ctx_has vcx true_and e5)
        exact ⟨hh.2.1, hh.2.2.1, q5⟩
      · intro H5 s5 h5
        refine ⟨⟨o2, s5 _ _ upd_same⟩, D, rfl, (kvs.map fun x => kV x.1).map (fun v => inV v (kvs.map (·.2))), by rw [upd_ne hD4.2, h5]; simp only [List.map_map]; rfl, ?_⟩
        have s6 : Same H4 (upd H5 a (HO.dK kvs)) := fun b u e => by
          by_cases hb : b = a
          · subst hb; rw [upd_same, ← e, h4]
          · rw [upd_ne hb]; exact s5 _ _ (by rw [upd_ne hb]; exact e)
        have e6 := s6 _ _ e4
        have h6 := s6 _ _ h4
        generalize upd H5 a (HO.dK kvs) = H6 at s6 e6 h6 ⊢
        refine ite2 (fun h1 => ?_) (fun h1 => ?_)
        · rw [List.all_map, List.all_eq_true] at h1
          have hpm : (kvs.map fun x => kV x.1).Perm (kvs.map (·.2)) := by
            haveI : DecidableEq V := fun a b => Classical.propDecidable (a = b)
            exact perm_nd (keys_nd hnd) (fun v hv => (inV_st (stk v hv) stv).1.mp (h1 v hv)) (by simp)
          refine ⟨_, e6, fun D2 hD2 => ?_⟩
          refine comp_map wlk_list (f := fun v => .bl (valV kvs (invK v)).isSome) hD2 (fun H' s => .of (s _ _ e6)) (by simp only [List.length_map]; omega) ?_ ?_
          · intro x H7 Q7 hx s7 q7
            have e7 := s7 _ _ h6
            have hh := (inV_st (stv x hx) stv).2.2.2
            (try ctx_has vcx true_and tDI e7)
            exact ⟨invK x, hh, q7⟩
          · intro H7 s7 h7
            refine ⟨D2, rfl, (kvs.map (·.2)).map (fun v => (valV kvs (invK v)).isSome), by rw [h7]; simp only [List.map_map]; rfl, ?_⟩
            refine k _ H7 (s3.trans (s4.trans (s6.trans s7))) ⟨fun _ => ⟨hok, hpm⟩, fun _ => ?_⟩
            rw [List.all_map, List.all_eq_true]
            intro v hv
            refine val_some ?_
            rw [← (inV_st (stv v hv) stv).2.2.2]
            exact hpm.mem_iff.mpr hv
        · refine k false H6 (s3.trans (s4.trans s6)) ⟨(by intro z; cases z), fun z => absurd ?_ h1⟩
          rw [List.all_map, List.all_eq_true]
          intro v hv
          exact (inV_st (stk v hv) stv).1.mpr (z.2.mem_iff.mp hv)
theorem ok__law_goodS {P : Program} {w : World} {K : PySem.W.Frag} {mg : Str → Option Value} {base : Heap}  (T : Txt K mg) (L : FnL K mg "_law_good" s__law_good ["_law_leads_here", "_law_names_here"]) (F_law_is_name : Fn P w K mg base "_law_is_name" 1 ["_law_thing"] (spName)) (F_law_is_whole : Fn P w K mg base "_law_is_whole" 1 ["_law_thing"] (spNumb)) : Fn P w K mg base "_law_good" 2 ["_law_leads_here", "_law_names_here"] (spGoodA P w) := by
  have nd := sc__law_good.nd
  refine L.ok sc__law_good (fun vs H Q E h => ?_) (fun f cdv A outer s H vs Q E hr h => ?_)
  · obtain ⟨nm, a, o, kvs, rfl, ha, hb, k⟩ := h
    rfl
  · obtain ⟨nm, a, o, kvs, rfl, ha, hb, k⟩ := h
    have hu := hu_of hr
    refine ⟨_, (pss_cons (ps_for PassesOwn.never rfl (pi_A (pvM 0)) (pg_name (i := 2) nd rfl (by first | exact Or.inl rfl | exact Or.inr rfl)) (pss_one (ps_for PassesOwn.never rfl (pi_LK (K := K) rfl (pe_lst (pa_cons (pvM 2) (pa_cons (pe_dgA (pvM 0) (pvM 2) (fun _ _ => rfl)) pa_nil)))) (pg_name (i := 3) nd rfl (by first | exact Or.inl rfl | exact Or.inr rfl)) (pss_one (ps_if (PW.pt (pw_or (PW.pt (pw_and (pt_val (pvM 1)) (pw_and1 (pt_not (pt_val (pe_callF F_law_is_name (hr.mono (by first | decide | omega)) rfl (pa_cons (pvM 3) pa_nil))))))) (pw_or1 (PW.pt (pw_and (pt_not (pt_val (pvM 1))) (pw_and1 (pt_not (pt_val (pe_callF F_law_is_whole (hr.mono (by first | decide | omega)) rfl (pa_cons (pvM 3) pa_nil)))))))))) (pss_one (ps_ret pe_bl)) pss_nil)))))
      (pss_cons ps_never
      (pss_one ps_never))), ?_⟩
    (try ctx_has vcx true_and iA ha)
    refine ⟨o, kvs, rfl, ?_⟩
    obtain ⟨hl, hnd, ht, hbad⟩ := hb
    refine for_A (fun i σ H' => ∃ v2 v3, σ = [some (.ref a), some (.bl nm), v2, v3, none] ∧ Same H H' ∧ ∀ x ∈ kvs.take i, okV nm x.2 = true) ⟨_, _, rfl, Same.refl _, by simp⟩ (fun i σ H' zq47 => by obtain ⟨_, _, _, s, _⟩ := zq47; exact (s _ _ ha)) ?_ ?_
    · rintro i kk v x σ H2 hi hav ⟨v2, v3, rfl, s2, hok⟩
      have h2a := s2 _ _ ha
      have hym := List.mem_of_getElem? hi
      (try ctx_has vcx true_and tDGA)
      refine ⟨o, kvs, h2a, kk, hav, v, valV_mem hnd hym, by decide, fun p hp => ⟨_, upd_same, ?_⟩⟩
      refine two_rd hp ((ht _ hym).1 x hav) (ht _ hym).2 (fun hbad H' s => ?_) (fun g1 g2 H' v3 s => ?_)
      · exact k _ (s2.trans s)
      · refine ⟨_, _, rfl, s2.trans s, fun x hx => ?_⟩
        rw [List.take_add_one, hi] at hx
        rcases List.mem_append.mp hx with q | q
        · exact hok x q
        · rw [show x = (kk, v) by simpa using q]; exact g2
    · rintro σ H2 ⟨v2, v3, rfl, s2, hok⟩
      rw [List.take_length] at hok
      obtain ⟨x, hx, e⟩ := hbad
      rw [hok x hx] at e
      cases e
theorem nd_put {κ : Type} [DecidableEq κ] {kvs : List (κ × V)} {k : κ} {v : V} (h : (kvs.map (·.1)).Nodup) : ((putK kvs k v).map (·.1)).Nodup := by
  by_cases hk : k ∈ kvs.map (·.1)
  · rw [keys_old hk]; exact h
  · refine nd_putK v h ?_
    cases e : valV kvs k with
    | none => rfl
    | some u =>
      refine absurd ?_ hk
      have : (kvs.any fun kv => decide (kv.1 = k)) = true := by rw [valV_any, e]; rfl
      obtain ⟨x, hx, h2⟩ := List.any_eq_true.mp this
      exact List.mem_map.mpr ⟨x, hx, of_decide_eq_true h2⟩
theorem mem_put {κ : Type} [DecidableEq κ] {kvs : List (κ × V)} {k : κ} {v : V} {x : κ × V} (h : x ∈ putK kvs k v) : x ∈ kvs ∨ x = (k, v) := by
  unfold putK at h
  split at h
  · obtain ⟨y, hy, e⟩ := List.mem_map.mp h
    by_cases q : y.1 = k
    · rw [if_pos q, q] at e; exact .inr e.symm
    · rw [if_neg q] at e; exact .inl (e ▸ hy)
  · rcases List.mem_append.mp h with q | q
    · exact .inl q
    · exact .inr (List.mem_singleton.mp q)
theorem put_mem {κ : Type} [DecidableEq κ] {kvs : List (κ × V)} {k : κ} {v : V} : (k, v) ∈ putK kvs k v := by
  unfold putK
  split
  · rename_i h
    obtain ⟨x, hx, e⟩ := List.any_eq_true.mp h
    have e := of_decide_eq_true e
    exact List.mem_map.mpr ⟨x, hx, by rw [if_pos e, e]⟩
  · simp
noncomputable def TmK (kvs : List (Key × V)) : Prop := ∀ x ∈ kvs, tameV (kV x.1) = true ∧ tameV x.2 = true
theorem tm_put {kvs : List (Key × V)} {k : Key} {v : V} (h : TmK kvs) (hk : tameV (kV k) = true) (hv : tameV v = true) : TmK (putK kvs k v) := fun x hx => by
  rcases mem_put hx with q | rfl
  · exact h x q
  · exact ⟨hk, hv⟩
theorem ne_nil {K : PySem.W.Frag} {H : Hp} {q p : Addr} {nm : Bool} {ks : List V} {Q : VK} (hst : ∀ v ∈ ks, stV nm v) (hq : H q = some (.lst ks)) (hp : H p = none) (h : ∀ H', Same H H' → Q (.bl (!ks.isEmpty)) H') : rNeD K (.ref q) (.ref p) (upd H p (.lst [])) Q := by
  refine ⟨.list (ks.map dOf), .list [], .lst (.of ((Same.upd0 hp) _ _ hq)) (st_reps hst).1, .lst (.of upd_same) .nil, by unfold PyData.canLay0; exact (st_reps (K := K) (H := H) hst).2.1, rfl, by unfold PyData.depth; rw [(st_reps (K := K) (H := H) hst).2.2]; decide, ?_⟩
  have : PyData.eqv (.list (ks.map dOf)) (.list []) = ks.isEmpty := by cases ks <;> simp [PyData.eqv, PyData.eqvAll]
  rw [this]
  exact h _ (Same.upd0 hp)
theorem at_key {kvs : List (Key × V)} {i : Int} (h0 : 0 ≤ i) (h1 : i < (kvs.length : Int)) : ∃ y ∈ kvs, atI (kvs.map fun x => kV x.1) i = some (kV y.1) := by
  obtain ⟨v, e, hv⟩ := atI_mem (xs := kvs.map fun x => kV x.1) h0 (by rw [List.length_map]; exact h1)
  obtain ⟨y, hy, rfl⟩ := List.mem_map.mp hv
  exact ⟨y, hy, e⟩
theorem at_prev {kvs : List (Key × V)} {i : Int} (h0 : 0 ≤ i) (h1 : i < (kvs.length : Int)) : ∃ y ∈ kvs, atI (kvs.map fun x => kV x.1) (i - 1) = some (kV y.1) := by
  by_cases h : 1 ≤ i
  · exact at_key (by omega) (by omega)
  · obtain rfl : i = 0 := by omega
    rcases List.eq_nil_or_concat kvs with rfl | ⟨ys, z, rfl⟩
    · simp at h1
    · refine ⟨z, by simp, ?_⟩
      rw [List.concat_eq_append, List.map_append]
      exact atI_last _ _
noncomputable def spSpoilt (P : Program) (w : World) : Sp := fun vs H Q _ => ∃ (nm : Bool) (d l a : Addr) (kvs : List (Key × V)) (fr : Key) (od : V) (ok : Option Key), vs = [.ref d, .ref a, kV fr, od] ∧ DealAt H d l ∧ H a = some (.dK kvs) ∧ kvs.length ≤ 40 ∧ (kvs.map (·.1)).Nodup ∧ TmK kvs ∧ (∀ x ∈ kvs, stV nm (kV x.1)) ∧ tameV (kV fr) = true ∧ tameV od = true ∧ okV nm od = false ∧ AV ok od ∧ tameA ok ∧
  ∀ (r : Addr) (g : Prop) H', H r = none → DK P w nm H' r g → DealAt H' d l → But d l H H' → Q (.ref r) H'
theorem ok__law_spoilt {P : Program} {w : World} {K : PySem.W.Frag} {mg : Str → Option Value} {base : Heap}  (T : Txt K mg) (L : FnL K mg "_law_spoilt" s__law_spoilt ["_law_deal_here", "_law_leads_here", "_law_fresh", "_law_odd"]) (F_law_draw : Fn P w K mg base "_law_draw" 1 ["_law_deal_here", "_law_many"] (spDraw)) : Fn P w K mg base "_law_spoilt" 2 ["_law_deal_here", "_law_leads_here", "_law_fresh", "_law_odd"] (spSpoilt P w) := by
  have nd := sc__law_spoilt.nd
  refine L.ok sc__law_spoilt (fun vs H Q E h => ?_) (fun f cdv A outer s H vs Q E hr h => ?_)
  · obtain ⟨nm, d, l, a, kvs, fr, od, ok, rfl, D, ha, hl, hnd, htm, hst, hfr, hod, hbad, hav, hta, k⟩ := h
    rfl
  · obtain ⟨nm, d, l, a, kvs, fr, od, ok, rfl, D, ha, hl, hnd, htm, hst, hfr, hod, hbad, hav, hta, k⟩ := h
    have hu := hu_of hr
    refine ⟨_, (pss_cons (ps_set (i := 4) nd rfl (by first | exact Or.inl rfl | exact Or.inr rfl) (pe_callTy call_dictD rfl T.b_dict (show bootBuiltins "dict" = some (.type "dict") by decide +kernel) (pa_cons (pvM 1) pa_nil)))
      (pss_cons (ps_set (i := 5) nd rfl (by first | exact Or.inl rfl | exact Or.inr rfl) (pe_callTy (call_listD rfl) rfl T.b_list (show bootBuiltins "list" = some (.type "list") by decide +kernel) (pa_cons (pvM 4) pa_nil)))
      (pss_cons (ps_set (i := 6) nd rfl (by first | exact Or.inl rfl | exact Or.inr rfl) (pe_callF F_law_draw (hr.mono (by first | decide | omega)) rfl (pa_cons (pvM 0) (pa_cons pe_int pa_nil))))
      (pss_cons (ps_set (i := 7) nd rfl (by first | exact Or.inl rfl | exact Or.inr rfl) (pe_callF F_law_draw (hr.mono (by first | decide | omega)) rfl (pa_cons (pvM 0) (pa_cons (pe_callB (call_max2 rfl) rfl T.b_max (show bootBuiltins "max" = some (.builtin "max") by decide +kernel) (pa_cons pe_int (pa_cons (pe_callB call_lenL rfl T.b_len PySem.boot_len (pa_cons (pvM 5) pa_nil)) pa_nil))) pa_nil))))
      (pss_cons (ps_if (PW.pt (pw_and (pt_cmpR op_eq (pvM 6) pe_int (nomark _)) (pw_and1 (pt_cmpR (op_neDK (K := K) rfl (hu100 hr)) (pvM 5) (pe_lst pa_nil) (nomark _))))) (pss_one (ps_expr (pe_dpop1 (pvM 4) (pe_ix ix_L (pvM 5) (pvM 7) (fun _ _ => rfl)) ⟨rfl, rfl, rfl, rfl⟩))) (pss_one (ps_if (PW.pt (pw_and (pt_cmpR op_eq (pvM 6) pe_int (nomark _)) (pw_and1 (pt_cmpR op_gt (pe_callB call_lenL rfl T.b_len PySem.boot_len (pa_cons (pvM 5) pa_nil)) pe_int (nomark _))))) (pss_one (ps_dp hu (pvM 4) (pe_ix ix_L (pvM 5) (pvM 7) (fun _ _ => rfl)) (pe_dg hu (pvM 4) (pe_ix ix_L (pvM 5) (pe_op op_sub (pvM 7) pe_int) (fun _ _ => rfl)) (fun _ _ => rfl)) rfl)) (pss_one (ps_if (PW.pt (pw_and (pt_cmpR op_eq (pvM 6) pe_int (nomark _)) (pw_and1 (pt_cmpR (op_neDK (K := K) rfl (hu100 hr)) (pvM 5) (pe_lst pa_nil) (nomark _))))) (pss_one (ps_dp hu (pvM 4) (pe_ix ix_L (pvM 5) (pvM 7) (fun _ _ => rfl)) (pvM 2) rfl)) (pss_one (ps_if (pt_cmpR op_eq (pvM 6) pe_int (nomark _)) (pss_one (ps_dp hu (pvM 4) (pvM 2) (pvM 3) rfl)) (pss_one (ps_dpX hu (pvM 4) (pvM 3) (pvM 3) rfl)))))))))
      (pss_one (ps_ret (pvM 4)))))))), ?_⟩
    (try ctx_has vcx true_and rListD ha)
    intro r hr
    refine ⟨_, upd_same, fun q hq => ?_⟩
    have rq : r ≠ q := fun z => by rw [← z, upd_same] at hq; cases hq
    have nr := D.ne hr
    have s0 : Same H (upd (upd H r (.dK kvs)) q (HO.lst (kvs.map fun x => kV x.1))) := (Same.upd0 hr).upd_new hq
    have D0 := D.same s0
    have er : upd (upd H r (.dK kvs)) q (HO.lst (kvs.map fun x => kV x.1)) r = some (.dK kvs) := by rw [upd_ne rq]; exact upd_same
    have eq : upd (upd H r (.dK kvs)) q (HO.lst (kvs.map fun x => kV x.1)) q = some (HO.lst (kvs.map fun x => kV x.1)) := upd_same
    have B0 : But d l H (upd (upd H r (.dK kvs)) q (HO.lst (kvs.map fun x => kV x.1))) := Same.but s0
    have nq : q ≠ d ∧ q ≠ l := by
      have := (D.same (Same.upd0 (o := .dK kvs) hr)).ne hq
      exact this
    generalize upd (upd H r (.dK kvs)) q (HO.lst (kvs.map fun x => kV x.1)) = H0 at s0 D0 er eq B0 ⊢
    have hstk : ∀ v ∈ (kvs.map fun x => kV x.1), stV nm v := fun v hv => by obtain ⟨x, hx, rfl⟩ := List.mem_map.mp hv; exact hst x hx
    have fin1 : ∀ H' kvs', DealAt H' d l → But d l H H' → kvs'.length ≤ 45 → (kvs'.map (·.1)).Nodup → TmK kvs' → Q (.ref r) (upd H' r (.dK kvs')) := fun H' kvs' D' B' h1 h2 h3 =>
      k r (Good nm kvs') _ hr (.inl ⟨kvs', upd_same, h1, h2, h3, Iff.rfl⟩) (D'.put nr.1 nr.2) (B'.put hr)
    have fin2 : ∀ H' o, DealAt H' d l → But d l H H' → Q (.ref r) (upd H' r (DictA P w r o (putK (upA kvs) ok od))) := fun H' o D' B' => by
      refine k r False _ hr (.inr ⟨o, _, upd_same, ⟨?_, ?_, ?_, (ok, od), put_mem, hbad⟩, id⟩) (D'.put nr.1 nr.2) (B'.put hr)
      · have := putA_len (kvs := upA kvs) (k := ok) (v := od)
        have h2 : (upA kvs).length = kvs.length := by unfold upA; simp
        omega
      · refine nd_put ?_
        unfold upA
        rw [List.map_map]
        have : (fun x : Option Key × V => x.1) ∘ (fun x : Key × V => (some x.1, x.2)) = some ∘ (·.1) := rfl
        rw [this, ← List.map_map]
        exact List.Pairwise.map _ (fun a b hab e => hab (Option.some.inj e)) hnd
      · intro x hx
        rcases mem_put hx with q | rfl
        · obtain ⟨y, hy, rfl⟩ := List.mem_map.mp q
          refine ⟨fun v hv => ?_, (htm y hy).2⟩
          have h1 := (htm y hy).1
          obtain ⟨y1, y2⟩ := y
          cases y1 with
          | inl i =>
            rcases hv with rfl | ⟨b, rfl, _⟩
            · exact h1
            · rfl
          | inr x => cases (show v = .str x from hv); exact h1
        · exact ⟨hta, hod⟩
    have hX : ∀ H', H' r = some (.dK kvs) → DealAt H' d l → But d l H H' → ∃ kvs_1, H' r = some (HO.dK kvs_1) ∧ kvs_1.length < 900 ∧ ((∃ k, od = kV k ∧ Q (V.ref r) (upd H' r (HO.dK (putK kvs_1 k od)))) ∨ ∃ k, AV k od ∧ ∀ (o : Obj), Q (V.ref r) (upd H' r (DictA P w r o (putK (upA kvs_1) k od)))) := fun H' h1 h2 h3 =>
      ⟨kvs, h1, by omega, .inr ⟨ok, hav, fun o => fin2 H' o h2 h3⟩⟩
    refine draw_rd D0 (by decide) (by decide) fun way H1 w0 w1 D1 B1 => ?_
    have eq1 := B1 q _ nq.1 nq.2 eq
    have er1 := B1 r _ nr.1 nr.2 er
    obtain rfl | rfl | rfl | rfl | rfl : way = 0 ∨ way = 1 ∨ way = 2 ∨ way = 3 ∨ way = 4 := by omega
    · (try ctx_has vcx true_and eq1 Int.reduceEq List.length_map)
      refine draw_rd D1 (by split <;> omega) (by split <;> omega) fun at' H2 a0 a1 D2 B2 => ?_
      have eq2 := B2 q _ nq.1 nq.2 eq1
      have er2 := B2 r _ nr.1 nr.2 er1
      have B2' := B0.trans (B1.trans B2)
      refine ⟨Nat.zero_le _, fun p hp => ne_nil hstk eq2 hp fun H3 s3 => ⟨_, rfl, ?_⟩⟩
      have D3 := D2.same s3
      have B3 := B2'.same s3
      have er3 := s3 _ _ er2
      have eq3 := s3 _ _ eq2
      cases hE : (kvs.map fun x => kV x.1).isEmpty with
      | true =>
        rw [if_neg (by decide)]
        exact ⟨r, rfl, hX H3 er3 D3 B3⟩
      | false =>
        rw [if_pos (show (!false) = true by decide)]
        have hpos : 0 < kvs.length := by
          cases kvs with
          | nil => cases hE
          | cons _ _ => simp
        have a1' : at' < (kvs.length : Int) := by
          revert a1
          split <;> intro a1 <;> omega
        obtain ⟨y, hy, ey⟩ := at_key a0 a1'
        refine ⟨r, rfl, .inl ⟨_, .inl er3⟩, q, rfl, at', rfl, _, eq3, _, ey, kvs, y.1, y.2, er3, rfl, valV_mem hnd hy, ?_⟩
        have hle := dropK_le kvs y.1
        exact fin1 H3 _ D3 B3 (by omega) ((List.filter_sublist.map _).nodup hnd) fun x hx => htm x (dropK_mem hx)
    · (try ctx_has vcx true_and eq1 Int.reduceEq List.length_map)
      refine draw_rd D1 (by split <;> omega) (by split <;> omega) fun at' H2 a0 a1 D2 B2 => ?_
      have eq2 := B2 q _ nq.1 nq.2 eq1
      have er2 := B2 r _ nr.1 nr.2 er1
      have B2' := B0.trans (B1.trans B2)
      refine ⟨_, eq2, ?_⟩
      rw [List.length_map]
      refine ite2 (fun h => ?_) (fun h => ⟨r, rfl, hX H2 er2 D2 B2'⟩)
      have a1' : at' < (kvs.length : Int) := by
        revert a1
        split <;> intro a1 <;> omega
      obtain ⟨y, hy, ey⟩ := at_key a0 a1'
      obtain ⟨z, hz, ez⟩ := at_prev a0 a1'
      have hle := length_putK kvs y.1 z.2
      exact ⟨at', rfl, _, eq2, _, ez, z.1, rfl, kvs, er2, z.2, valV_mem hnd hz, at', rfl, _, eq2, _, ey, y.1, rfl, kvs, er2, small1000 (by omega), fin1 H2 _ D2 B2' (by omega) (nd_put hnd) (tm_put htm (htm y hy).1 (htm z hz).2)⟩
    · (try ctx_has vcx true_and eq1 Int.reduceEq List.length_map)
      refine draw_rd D1 (by split <;> omega) (by split <;> omega) fun at' H2 a0 a1 D2 B2 => ?_
      have eq2 := B2 q _ nq.1 nq.2 eq1
      have er2 := B2 r _ nr.1 nr.2 er1
      have B2' := B0.trans (B1.trans B2)
      refine ⟨Nat.zero_le _, fun p hp => ne_nil hstk eq2 hp fun H3 s3 => ⟨_, rfl, ?_⟩⟩
      have D3 := D2.same s3
      have B3 := B2'.same s3
      have er3 := s3 _ _ er2
      have eq3 := s3 _ _ eq2
      cases hE : (kvs.map fun x => kV x.1).isEmpty with
      | true =>
        rw [if_neg (by decide)]
        exact ⟨r, rfl, hX H3 er3 D3 B3⟩
      | false =>
        rw [if_pos (show (!false) = true by decide)]
        have hpos : 0 < kvs.length := by
          cases kvs with
          | nil => cases hE
          | cons _ _ => simp
        have a1' : at' < (kvs.length : Int) := by
          revert a1
          split <;> intro a1 <;> omega
        obtain ⟨y, hy, ey⟩ := at_key a0 a1'
        have hle := length_putK kvs y.1 (kV fr)
        exact ⟨at', rfl, _, eq3, _, ey, y.1, rfl, kvs, er3, small1000 (by omega), fin1 H3 _ D3 B3 (by omega) (nd_put hnd) (tm_put htm (htm y hy).1 hfr)⟩
    · (try ctx_has vcx true_and eq1 Int.reduceEq List.length_map)
      refine draw_rd D1 (by split <;> omega) (by split <;> omega) fun at' H2 a0 a1 D2 B2 => ?_
      have eq2 := B2 q _ nq.1 nq.2 eq1
      have er2 := B2 r _ nr.1 nr.2 er1
      have B2' := B0.trans (B1.trans B2)
      have hle := length_putK kvs fr od
      exact ⟨fr, rfl, kvs, er2, small1000 (by omega), fin1 H2 _ D2 B2' (by omega) (nd_put hnd) (tm_put htm hfr hod)⟩
    · (try ctx_has vcx true_and eq1 Int.reduceEq List.length_map)
      refine draw_rd D1 (by split <;> omega) (by split <;> omega) fun at' H2 a0 a1 D2 B2 => ?_
      have eq2 := B2 q _ nq.1 nq.2 eq1
      have er2 := B2 r _ nr.1 nr.2 er1
      have B2' := B0.trans (B1.trans B2)
      exact ⟨r, rfl, hX H2 er2 D2 B2'⟩
noncomputable def kvR (xs : List (Str × Addr × List Int)) : List (Key × V) := xs.map fun x => (Sum.inr x.1, .ref x.2.1)
noncomputable def RmT (H : Hp) (xs : List (Str × Addr × List Int)) : Prop := ∀ x ∈ xs, H x.2.1 = some (.tup (x.2.2.map V.int))
noncomputable def dat (xs : List (Str × Addr × List Int)) : List (Str × List Int) := xs.map fun x => (x.1, x.2.2)
noncomputable def srt (l : List Int) : List Int := l.mergeSort fun a b => decide (a ≤ b)
theorem srt_perm (l : List Int) : (srt l).Perm l := List.mergeSort_perm _ _
theorem srt_srt (l : List Int) : (srt l).Pairwise (· ≤ ·) := by
  have := List.pairwise_mergeSort (le := fun a b : Int => decide (a ≤ b)) (fun a b c h g => by simp only [decide_eq_true_eq] at *; omega) (fun a b => by simp only [Bool.or_eq_true, decide_eq_true_eq]; omega) l
  exact this.imp fun h => of_decide_eq_true h
theorem srt_eq : ∀ {l m : List Int}, l.Perm m → l.Pairwise (· ≤ ·) → m.Pairwise (· ≤ ·) → l = m
  | [], m, hp, _, _ => (List.Perm.eq_nil hp.symm).symm
  | a :: l, [], hp, _, _ => absurd (List.Perm.eq_nil hp) (by simp)
  | a :: l, b :: m, hp, h1, h2 => by
    rw [List.pairwise_cons] at h1 h2
    have hab : a = b := by
      have ha : a ∈ b :: m := hp.mem_iff.mp List.mem_cons_self
      have hb : b ∈ a :: l := hp.mem_iff.mpr List.mem_cons_self
      rcases List.mem_cons.mp ha with e | ha
      · exact e
      · rcases List.mem_cons.mp hb with e | hb
        · exact e.symm
        · exact Int.le_antisymm (h1.1 b hb) (h2.1 a ha)
    subst hab
    rw [srt_eq ((List.perm_cons a).mp hp) h1.2 h2.2]
theorem srt_of {l m : List Int} (h : m.Perm l) (hs : m.Pairwise (· ≤ ·)) : m = srt l := srt_eq (h.trans (srt_perm l).symm) hs (srt_srt l)
noncomputable def turnR (mS : List (Str × Str)) (mI : List (Int × Int)) (x : Str × List Int) : Str × List Int := (ld mS x.1, srt (x.2.map (ld mI)))
noncomputable def spTR : Sp := fun vs H Q _ => ∃ (t na va f : Addr) (mS : List (Str × Str)) (mI : List (Int × Int)) (xs : List (Str × Addr × List Int)), vs = [.ref t, .ref f] ∧ TurnAt H t na va mS mI ∧ (f ≠ na ∧ f ≠ va) ∧ H f = some (.dK (kvR xs)) ∧ RmT H xs ∧ (xs.map (·.1)).Nodup ∧ xs.length ≤ 40 ∧ (∀ x ∈ xs, x.2.2.length ≤ 60) ∧
  ∀ p ys H', H p = none → Same H H' → H' p = some (.dK (kvR ys)) → RmT H' ys → dat ys = (dat xs).map (turnR mS mI) → Q (.ref p) H'
theorem ok_turned_rooms {P : Program} {w : World} {K : PySem.W.Frag} {mg : Str → Option Value} {base : Heap}  (T : Txt K mg) (L : FnL K mg "turned_rooms" s_turned_rooms ["turning", "rooms"]) (Fled : Fn P w K mg base "led" 1 ["leads", "thing"] (spLed)) (Fall_led : Fn P w K mg base "all_led" 2 ["leads", "things"] (spAllLed)) : Fn P w K mg base "turned_rooms" 3 ["turning", "rooms"] (spTR) := by
  have nd := sc_turned_rooms.nd
  refine L.ok sc_turned_rooms (fun vs H Q E h => ?_) (fun f cdv A outer s H vs Q E hr h => ?_)
  · obtain ⟨t, na, va, f, mS, mI, xs, rfl, T0, nf, hf, hrt, hnd, hl, h60, k⟩ := h
    rfl
  · obtain ⟨t, na, va, f, mS, mI, xs, rfl, T0, nf, hf, hrt, hnd, hl, h60, k⟩ := h
    have hu := hu_of hr
    refine ⟨_, (pss_one (ps_ret (pe_callTy (call_dictP rfl) rfl T.b_dict (show bootBuiltins "dict" = some (.type "dict") by decide +kernel) (pa_cons (pe_thaw (pe_comp (N := ["cell", "room", "turning"]) (nt := 2) (js := [0]) rfl (compOk_of ["turning", "rooms"] (defScope s_turned_rooms).names rfl rfl rfl (by decide +kernel)) (pi_items (pvM 1)) (fun _ _ _ _ _ _ => (pg_tupT (n := 2) rfl (pgs_cons (pg_name (i := 0) (show List.Nodup [("cell" : Str), ("room" : Str), ("turning" : Str)] by decide +kernel) rfl (Or.inl rfl)) (pgs_cons (pg_name (i := 1) (show List.Nodup [("cell" : Str), ("room" : Str), ("turning" : Str)] by decide +kernel) rfl (Or.inl rfl)) pgs_nil)))) (tgOk_tupT2 (by decide) (by decide) (by decide)) (fun _ _ _ _ _ _ => pts_nil) (fun _ _ _ _ _ _ => (pe_tup (pa_cons (pe_callF Fled (hr.mono (by first | decide | omega)) rfl (pa_cons (pe_ix ix_T (pvM 2) pe_int (fun _ _ => rfl)) (pa_cons (pvM 0) pa_nil))) (pa_cons (pe_callTy call_tupL rfl T.b_tuple (show bootBuiltins "tuple" = some (.type "tuple") by decide +kernel) (pa_cons (pe_callB call_sortedT rfl T.b_sorted (show bootBuiltins "sorted" = some (.builtin "sorted") by decide +kernel) (pa_cons (pe_callF Fall_led (hr.mono (by first | decide | omega)) rfl (pa_cons (pe_ix ix_T (pvM 2) pe_int (fun _ _ => rfl)) (pa_cons (pvM 1) pa_nil))) pa_nil)) pa_nil)) pa_nil)))))) pa_nil)))), ?_⟩
    have e1 := T0.ht
    (try ctx_has vcx true_and tThawV iI hf rDictP)
    refine ⟨f, _, hf, fun o D hD => ?_⟩
    have fD : D ≠ f := fun z => by rw [z, upd_same] at hD; cases hD
    have hD0 : H D = none := by rw [upd_ne fD] at hD; exact hD
    refine comp_ig (fun j ys H' => ∃ bs : List (Addr × Str × Addr × List Int), ys = bs.map (fun x => V.ref x.1) ∧ dat (bs.map (·.2)) = (dat (xs.take j)).map (turnR mS mI) ∧ (∀ x ∈ bs, H' x.1 = some (.tup [.str x.2.1, .ref x.2.2.1])) ∧ RmT H' (bs.map (·.2)) ∧ H' D = some (.lst ys) ∧ H' f = some (.frz o (.dK (kvR xs))) ∧ ∀ b u, b ≠ f → H b = some u → H' b = some u)
      ⟨[], rfl, rfl, by simp, by unfold RmT; simp, upd_same, by rw [upd_ne fD.symm]; exact upd_same, fun b u hb e => by rw [upd_ne (ne_of_none e hD0), upd_ne hb]; exact e⟩ (fun j ys H' zq48 => by obtain ⟨_, _, _, _, _, _, h, _⟩ := zq48; exact (h)) ?_ ?_
    · rintro j kk x ys H2 tt hj ⟨bs, rfl, hb, hbt, hbr, h2D, h2f, k2⟩ htt
      obtain ⟨y, hy, e⟩ : ∃ y, xs[j]? = some y ∧ (Sum.inr y.1, V.ref y.2.1) = (kk, x) := by
        unfold kvR at hj
        rw [List.getElem?_map] at hj
        cases e : xs[j]? with
        | none => rw [e] at hj; cases hj
        | some nm => rw [e] at hj; exact ⟨nm, rfl, Option.some.inj hj⟩
      cases e
      have hjl : j < xs.length := (List.getElem?_eq_some_iff.mp hy).1
      have hym := List.mem_of_getElem? hy
      have s3 := Same.upd0 (o := .tup [.str y.1, .ref y.2.1]) htt
      have k3 : ∀ b u, b ≠ f → H b = some u → upd H2 tt (.tup [.str y.1, .ref y.2.1]) b = some u := fun b u hb e => s3 _ _ (k2 b u hb e)
      have e3 := k3 t _ (ne_of e1 hf (by intro z; cases z)) e1
      have hna := k3 na _ nf.1.symm T0.hn
      have hva := k3 va _ nf.2.symm T0.hv
      have hyt := k3 y.2.1 _ (ne_of (hrt y hym) hf (by intro z; cases z)) (hrt y hym)
      have hbl : bs.length ≤ j := by
        have := congrArg List.length hb
        unfold dat at this
        rw [List.length_map, List.length_map, List.length_map, List.length_map] at this
        rw [this]
        exact List.length_take_le _ _
      (try ctx_has vcx true_and upd_same kV e3)
      refine led_str hna ?_
      refine ⟨_, e3, _, atI_nat (j := 1) rfl, ?_⟩
      refine all_int hva hyt (h60 y hym) fun p H4 s4 hp => ?_
      (try ctx_has vcx true_and hp)
      refine ⟨_, rfl, by rw [List.length_map]; have := h60 y hym; omega, fun q ms hq hpm hso l hl => ⟨by decide, fun p2 hp2 => ?_⟩⟩
      have s5 := ((Same.upd0 (o := HO.lst (ms.map V.int)) hq).upd_new (o := HO.tup (ms.map V.int)) hl).upd_new (o := HO.tup [.str (ld mS y.1), .ref l]) hp2
      have lp : l ≠ p2 := fun z => by rw [← z, upd_same] at hp2; cases hp2
      have e5 : upd (upd (upd H4 q (HO.lst (ms.map V.int))) l (HO.tup (ms.map V.int))) p2 (HO.tup [.str (ld mS y.1), .ref l]) l = some (HO.tup (ms.map V.int)) := by rw [upd_ne lp]; exact upd_same
      have e6 : upd (upd (upd H4 q (HO.lst (ms.map V.int))) l (HO.tup (ms.map V.int))) p2 (HO.tup [.str (ld mS y.1), .ref l]) p2 = some (HO.tup [.str (ld mS y.1), .ref l]) := upd_same
      generalize upd (upd (upd H4 q (HO.lst (ms.map V.int))) l (HO.tup (ms.map V.int))) p2 (HO.tup [.str (ld mS y.1), .ref l]) = H5 at s5 e5 e6 ⊢
      have sA := s3.trans (s4.trans s5)
      have h5D := sA _ _ h2D
      have kt : ∀ b vs, H5 b = some (.tup vs) → upd H5 D (.lst (bs.map (fun x => V.ref x.1) ++ [.ref p2])) b = some (.tup vs) := fun b vs q => by rw [upd_ne (ne_of q h5D (by intro z; cases z))]; exact q
      refine ⟨h5D, by rw [List.length_map]; exact small1000 (by omega), bs ++ [(p2, ld mS y.1, l, ms)], by simp, ?_, fun x hx => ?_, fun x hx => ?_, ?_, fun b u hb e => ?_⟩
      · have et : xs.take (j + 1) = xs.take j ++ [y] := by rw [List.take_add_one, hy]; rfl
        rw [et]
        unfold dat at hb ⊢
        rw [List.map_append, List.map_append, hb, List.map_append, List.map_append]
        show _ ++ [(ld mS y.1, ms)] = _ ++ [(ld mS y.1, srt (y.2.2.map (ld mI)))]
        rw [srt_of hpm hso]
      · rcases List.mem_append.mp hx with q | q
        · exact kt _ _ (sA _ _ (hbt x q))
        · rw [List.mem_singleton.mp q]; exact kt _ _ e6
      · rw [List.map_append] at hx
        rcases List.mem_append.mp hx with q | q
        · exact kt _ _ (sA _ _ (hbr x q))
        · rw [show x = (ld mS y.1, l, ms) by simpa using q]; exact kt _ _ e5
      · rw [upd_ne fD.symm]; exact sA _ _ h2f
      · rw [upd_ne (ne_of_none e hD0)]; exact sA _ _ (k2 b u hb e)
    · rintro ys H2 ⟨bs, rfl, hb, hbt, hbr, h2D, h2f, k2⟩
      have hl2 : (kvR xs).length = xs.length := by unfold kvR; rw [List.length_map]
      rw [hl2, List.take_length] at hb
      have s3 : Same H (upd H2 f (.dK (kvR xs))) := fun b u e => by
        by_cases hb : b = f
        · subst hb; rw [upd_same, ← e, hf]
        · rw [upd_ne hb]; exact k2 b u hb e
      have hbl : bs.length = xs.length := by have := congrArg List.length hb; unfold dat at this; simpa using this
      refine ⟨⟨o, h2f⟩, D, rfl, _, .inr (by rw [upd_ne fD]; exact h2D), kvR (bs.map (·.2)), ⟨bs.map fun x => (x.1, Sum.inr x.2.1, .ref x.2.2.1), by rw [List.map_map]; rfl, by unfold kvR; rw [List.map_map, List.map_map]; rfl, fun x hx => ?_⟩, by unfold kvR; rw [List.length_map, List.length_map]; exact Nat.le_of_lt (small1000 (by omega)), fun p hp => ?_⟩
      · obtain ⟨y, hy, rfl⟩ := List.mem_map.mp hx
        rw [upd_ne (ne_of (hbt y hy) h2f (by intro z; cases z))]
        exact hbt y hy
      · rw [merge_nodup _ [] ?_]
        · refine k p _ _ (s3.free hp) (s3.upd_new hp) upd_same (fun x hx => ?_) hb
          rw [upd_ne (ne_of_none (show upd H2 f (HO.dK (kvR xs)) x.2.1 = some (.tup (x.2.2.map V.int)) by rw [upd_ne (ne_of (hbr x hx) h2f (by intro z; cases z))]; exact hbr x hx) hp), upd_ne (ne_of (hbr x hx) h2f (by intro z; cases z))]
          exact hbr x hx
        · have hk := congrArg (List.map fun x : Str × List Int => (Sum.inr x.1 : Key)) hb
          have e1 : (kvR (bs.map (·.2))).map (·.1) = (dat (bs.map (·.2))).map fun x => (Sum.inr x.1 : Key) := by unfold kvR dat; simp only [List.map_map]; rfl
          have e2 : ((dat xs).map (turnR mS mI)).map (fun x => (Sum.inr x.1 : Key)) = (xs.map (·.1)).map fun s => Sum.inr (ld mS s) := by unfold dat; simp only [List.map_map]; rfl
          rw [List.nil_append, e1, hk, e2]
          exact List.Pairwise.map _ (fun a b hab e => hab (ld_inj T0.ps (Sum.inr.inj e))) hnd
theorem put_snoc {kvs : List (Key × V)} {k : Key} {v : V} (h : k ∉ kvs.map (·.1)) : putK kvs k v = kvs ++ [(k, v)] := putK_new _ (valV_nokey h)
theorem kvF_keys (kf : List (Str × Int)) : (kvF kf).map (·.1) = kf.map fun x => (Sum.inr x.1 : Key) := by unfold kvF; rw [List.map_map]; rfl
theorem kvR_keys (xs : List (Str × Addr × List Int)) : (kvR xs).map (·.1) = xs.map fun x => (Sum.inr x.1 : Key) := by unfold kvR; rw [List.map_map]; rfl
theorem led_new {α : Type} {f : α → Str} {mS : List (Str × Str)} (hp : PM mS) {xs : List α} {i : Nat} {y : α} (hn : (xs.map f).Nodup) (hy : xs[i]? = some y) : (Sum.inr (ld mS (f y)) : Key) ∉ (xs.take i).map fun x => (Sum.inr (ld mS (f x)) : Key) := by
  intro hm
  obtain ⟨z, hz, e⟩ := List.mem_map.mp hm
  have e := ld_inj hp (Sum.inr.inj e)
  have hn2 := hn.sublist ((List.take_sublist (i + 1) xs).map f)
  rw [List.take_add_one, hy, List.map_append, List.nodup_append] at hn2
  exact hn2.2.2 _ (List.mem_map.mpr ⟨z, hz, rfl⟩) _ (by simp) e
theorem ok__law_turned {P : Program} {w : World} {K : PySem.W.Frag} {mg : Str → Option Value} {base : Heap}  (T : Txt K mg) (L : FnL K mg "_law_turned" s__law_turned ["_law_turning", "_law_filling"])  : Fn P w K mg base "_law_turned" 2 ["_law_turning", "_law_filling"] (spTF) := by
  have nd := sc__law_turned.nd
  refine L.ok sc__law_turned (fun vs H Q E h => ?_) (fun f cdv A outer s H vs Q E hr h => ?_)
  · obtain ⟨t, na, va, f, mS, mI, kf, rfl, T0, nf, hf, hnd, hl, k⟩ := h
    rfl
  · obtain ⟨t, na, va, f, mS, mI, kf, rfl, T0, nf, hf, hnd, hl, k⟩ := h
    have hu := hu_of hr
    refine ⟨_, (pss_cons (ps_set (i := 2) nd rfl (by first | exact Or.inl rfl | exact Or.inr rfl) pe_dnewK)
      (pss_cons (ps_thaw (ps_for PassesOwn.never rfl (pi_D (pvM 1)) (pg_name (i := 3) nd rfl (by first | exact Or.inl rfl | exact Or.inr rfl)) (pss_cons (ps_set (i := 4) nd rfl (by first | exact Or.inl rfl | exact Or.inr rfl) (pe_dgF hu (pvM 1) (pvM 3) (fun _ _ => rfl)))
      (pss_one (ps_dp hu (pvM 2) (pe_dget2 hu (pe_ix ix_T (pvM 0) pe_int (fun _ _ => rfl)) (pvM 3) (pvM 3) ⟨rfl, rfl, rfl, rfl⟩) (pe_dget2 hu (pe_ix ix_T (pvM 0) pe_int (fun _ _ => rfl)) (pvM 4) (pvM 4) ⟨rfl, rfl, rfl, rfl⟩) rfl)))))
      (pss_one (ps_ret (pvM 2))))), ?_⟩
    have e1 := T0.ht
    (try ctx_has vcx true_and tThaw hf)
    intro r hr
    have fr : f ≠ r := ne_of_none hf hr
    refine ⟨f, _, (Same.upd0 hr) _ _ hf, _, (Same.upd0 hr) _ _ hf, fun o => ?_⟩
    refine for_g wlk_dk (fun i σ H' => ∃ v3 v4, σ = [some (.ref t), some (.ref f), some (.ref r), v3, v4] ∧ H' r = some (.dK (kvF ((kf.take i).map fun x => (ld mS x.1, ld mI x.2)))) ∧ H' f = some (.frz o (.dK (kvF kf))) ∧ ∀ b u, b ≠ f → H b = some u → H' b = some u)
      ⟨_, _, rfl, by rw [upd_ne fr.symm]; exact upd_same, upd_same, fun b u hb e => by rw [upd_ne hb]; exact (Same.upd0 hr) _ _ e⟩ (fun i σ H' zq49 => by obtain ⟨_, _, _, _, h, _⟩ := zq49; exact (h)) ?_ ?_
    · rintro i x σ H2 hi hx ⟨v3, v4, rfl, h2r, h2f, k2⟩
      obtain ⟨y, hy, rfl⟩ : ∃ y, kf[i]? = some y ∧ V.str y.1 = x := by
        unfold kvF at hx
        rw [List.map_map, List.getElem?_map] at hx
        cases e : kf[i]? with
        | none => rw [e] at hx; cases hx
        | some nm => rw [e] at hx; exact ⟨nm, rfl, Option.some.inj hx⟩
      have hym := List.mem_of_getElem? hy
      have hil : i < kf.length := (List.getElem?_eq_some_iff.mp hy).1
      have e3 := k2 t _ (ne_of e1 hf (by intro z; cases z)) e1
      have hna := k2 na _ nf.1.symm T0.hn
      have hva := k2 va _ nf.2.symm T0.hv
      (try ctx_has vcx true_and tDGF tDGet2 e3)
      have hlt : (kvF ((kf.take i).map fun x => (ld mS x.1, ld mI x.2))).length < sizeLine := by
        unfold kvF
        rw [List.length_map, List.length_map, List.length_take]
        exact small1000 (by omega)
      refine ⟨o, _, h2f, _, valF hnd hym, .inl ⟨_, .inl hva⟩, _, .inl ⟨_, Sum.inl y.2, .inl hva, rfl, rfl⟩, .inl ⟨_, .inl hna⟩, _, .inl ⟨_, Sum.inr y.1, .inl hna, rfl, rfl⟩, Sum.inr (ld mS y.1), by rw [valS]; rfl, _, h2r, hlt, ?_, ?_, fun b u hb e => ?_⟩
      · rw [upd_same, valI, put_snoc (by rw [kvF_keys, List.map_map]; exact led_new (f := fun x : Str × Int => x.1) T0.ps hnd hy), List.take_add_one, hy]
        unfold kvF
        rw [List.map_append, List.map_append]
        rfl
      · rw [upd_ne fr]; exact h2f
      · rw [upd_ne (ne_of_none e hr)]; exact k2 b u hb e
    · rintro σ H2 ⟨v3, v4, rfl, h2r, h2f, k2⟩
      have hl2 : ((kvF kf).map fun x => kV x.1).length = kf.length := by unfold kvF; simp
      rw [hl2, List.take_length] at h2r
      refine ⟨⟨o, h2f⟩, ?_⟩
      (try ctx_has vcx true_and)
      refine k r _ hr (fun b u e => ?_) (by rw [upd_ne fr.symm]; exact h2r)
      by_cases hb : b = f
      · subst hb; rw [upd_same, ← e, hf]
      · rw [upd_ne hb]; exact k2 b u hb e
theorem ok__law_turned_rooms {P : Program} {w : World} {K : PySem.W.Frag} {mg : Str → Option Value} {base : Heap}  (T : Txt K mg) (L : FnL K mg "_law_turned_rooms" s__law_turned_rooms ["_law_turning", "_law_rooms_here"])  : Fn P w K mg base "_law_turned_rooms" 2 ["_law_turning", "_law_rooms_here"] (spTR) := by
  have nd := sc__law_turned_rooms.nd
  refine L.ok sc__law_turned_rooms (fun vs H Q E h => ?_) (fun f cdv A outer s H vs Q E hr h => ?_)
  · obtain ⟨t, na, va, f, mS, mI, xs, rfl, T0, nf, hf, hrt, hnd, hl, h60, k⟩ := h
    rfl
  · obtain ⟨t, na, va, f, mS, mI, xs, rfl, T0, nf, hf, hrt, hnd, hl, h60, k⟩ := h
    have hu := hu_of hr
    refine ⟨_, (pss_cons (ps_set (i := 2) nd rfl (by first | exact Or.inl rfl | exact Or.inr rfl) pe_dnewK)
      (pss_cons (ps_thaw (ps_for PassesOwn.never rfl (pi_D (pvM 1)) (pg_name (i := 3) nd rfl (by first | exact Or.inl rfl | exact Or.inr rfl)) (pss_cons (ps_setC (i := 4) (N := ["_law_value", "_law_turning"]) (nt := 1) (js := [0]) nd rfl (by first | exact Or.inl rfl | exact Or.inr rfl) rfl (compOk_of ["_law_turning", "_law_rooms_here", "_law_found", "_law_name", "_law_values"] (defScope s__law_turned_rooms).names rfl rfl rfl (by decide +kernel)) (pi_TK (K := K) rfl (pe_dgF hu (pvM 1) (pvM 3) (fun _ _ => rfl))) (fun _ _ _ _ _ _ => (pg_name (i := 0) (show List.Nodup [("_law_value" : Str), ("_law_turning" : Str)] by decide +kernel) rfl (Or.inl rfl))) (tgOk_name (by decide)) (fun _ _ _ _ _ _ => pts_nil) (fun _ _ _ _ _ _ => (pe_dget2 hu (pe_ix ix_T (pvM 1) pe_int (fun _ _ => rfl)) (pvM 0) (pvM 0) ⟨rfl, rfl, rfl, rfl⟩)))
      (pss_one (ps_dp hu (pvM 2) (pe_dget2 hu (pe_ix ix_T (pvM 0) pe_int (fun _ _ => rfl)) (pvM 3) (pvM 3) ⟨rfl, rfl, rfl, rfl⟩) (pe_callTy call_tupL rfl T.b_tuple (show bootBuiltins "tuple" = some (.type "tuple") by decide +kernel) (pa_cons (pe_callB call_sorted rfl T.b_sorted (show bootBuiltins "sorted" = some (.builtin "sorted") by decide +kernel) (pa_cons (pvM 4) pa_nil)) pa_nil)) rfl)))))
      (pss_one (ps_ret (pvM 2))))), ?_⟩
    have e1 := T0.ht
    (try ctx_has vcx true_and tThaw hf)
    intro r hr
    have fr : f ≠ r := ne_of_none hf hr
    refine ⟨f, _, (Same.upd0 hr) _ _ hf, _, (Same.upd0 hr) _ _ hf, fun o => ?_⟩
    refine for_g wlk_dk (fun i σ H' => ∃ v3 v4 ys, σ = [some (.ref t), some (.ref f), some (.ref r), v3, v4] ∧ H' r = some (.dK (kvR ys)) ∧ RmT H' ys ∧ dat ys = (dat (xs.take i)).map (turnR mS mI) ∧ H' f = some (.frz o (.dK (kvR xs))) ∧ ∀ b u, b ≠ f → H b = some u → H' b = some u)
      ⟨_, _, [], rfl, by rw [upd_ne fr.symm]; exact upd_same, by unfold RmT; simp, rfl, upd_same, fun b u hb e => by rw [upd_ne hb]; exact (Same.upd0 hr) _ _ e⟩ (fun i σ H' zq50 => by obtain ⟨_, _, _, _, _, _, _, h, _⟩ := zq50; exact (h)) ?_ ?_
    · rintro i x σ H2 hi hx ⟨v3, v4, ys, rfl, h2r, h2y, h2d, h2f, k2⟩
      obtain ⟨y, hy, rfl⟩ : ∃ y, xs[i]? = some y ∧ V.str y.1 = x := by
        unfold kvR at hx
        rw [List.map_map, List.getElem?_map] at hx
        cases e : xs[i]? with
        | none => rw [e] at hx; cases hx
        | some nm => rw [e] at hx; exact ⟨nm, rfl, Option.some.inj hx⟩
      have hym := List.mem_of_getElem? hy
      have hil : i < xs.length := (List.getElem?_eq_some_iff.mp hy).1
      have e3 := k2 t _ (ne_of e1 hf (by intro z; cases z)) e1
      have hna := k2 na _ nf.1.symm T0.hn
      have hva := k2 va _ nf.2.symm T0.hv
      have hyt := k2 y.2.1 _ (ne_of (hrt y hym) hf (by intro z; cases z)) (hrt y hym)
      (try ctx_has vcx true_and tDGF e3)
      have hkn : ((kvR xs).map (·.1)).Nodup := by
        rw [kvR_keys]
        have : (xs.map fun x => (Sum.inr x.1 : Key)) = (xs.map (·.1)).map Sum.inr := by rw [List.map_map]; rfl
        rw [this]
        exact List.Pairwise.map _ (fun a b hab e => hab (Sum.inr.inj e)) hnd
      have h60y := h60 y hym
      have hys : ys.length = i := by
        have := congrArg List.length h2d
        unfold dat at this
        rw [List.length_map, List.length_map, List.length_map, List.length_take] at this
        omega
      refine ⟨o, _, h2f, .ref y.2.1, valV_mem hkn (List.mem_map.mpr ⟨y, hym, rfl⟩), y.2.1, rfl, _, hyt, fun D hD => ?_⟩
      refine comp_map wlk_tup (f := fun v => match v with | .int c => .int (ld mI c) | _ => .non) hD (fun H' s => .of (s _ _ hyt)) (by rw [List.length_map]; omega) ?_ ?_
      · intro x H3 Q3 hx s3 q3
        obtain ⟨c, hc, rfl⟩ := List.mem_map.mp hx
        have e33 := s3 _ _ e3
        have hva3 := s3 _ _ hva
        refine ⟨t, rfl, 1, rfl, _, e33, _, atI_nat (j := 1) rfl, va, rfl, .inl ⟨_, .inl hva3⟩, _, .inl ⟨_, Sum.inl c, .inl hva3, rfl, rfl⟩, ?_⟩
        rw [valI]
        exact q3
      · intro H3 s3 h3
        refine ⟨D, rfl, y.2.2.map (ld mI), by rw [h3, List.map_map, List.map_map]; rfl, by rw [List.length_map]; omega, fun q ms hq hpm hso => ⟨_, upd_same, fun l hl => ?_⟩⟩
        have s5 := (Same.upd0 (o := HO.lst (ms.map V.int)) hq).upd_new (o := HO.tup (ms.map V.int)) hl
        have e5 : upd (upd H3 q (HO.lst (ms.map V.int))) l (HO.tup (ms.map V.int)) l = some (HO.tup (ms.map V.int)) := upd_same
        generalize upd (upd H3 q (HO.lst (ms.map V.int))) l (HO.tup (ms.map V.int)) = H5 at s5 e5 ⊢
        have sA := s3.trans s5
        have e35 := sA _ _ e3
        have hna5 := sA _ _ hna
        have h5r := sA _ _ h2r
        have hlt : (kvR ys).length < sizeLine := by unfold kvR; rw [List.length_map]; exact small1000 (by omega)
        have kt : ∀ b vs, H5 b = some (.tup vs) → upd H5 r (.dK (kvR (ys ++ [(ld mS y.1, l, ms)]))) b = some (.tup vs) := fun b vs q => by rw [upd_ne (ne_of q h5r (by intro z; cases z))]; exact q
        have hput : putK (kvR ys) (Sum.inr (ld mS y.1)) (.ref l) = kvR (ys ++ [(ld mS y.1, l, ms)]) := by
          rw [put_snoc]
          · unfold kvR; rw [List.map_append]; rfl
          · have e7 : ys.map (fun x => (Sum.inr x.1 : Key)) = (xs.take i).map fun x => (Sum.inr (ld mS x.1) : Key) := by
              have := congrArg (List.map fun x : Str × List Int => (Sum.inr x.1 : Key)) h2d
              unfold dat at this
              simp only [List.map_map] at this
              exact this
            rw [kvR_keys, e7]
            exact led_new (f := fun x : Str × Addr × List Int => x.1) T0.ps hnd hy
        refine ⟨t, rfl, 0, rfl, _, e35, _, atI_nat (j := 0) rfl, na, rfl, .inl ⟨_, .inl hna5⟩, _, .inl ⟨_, Sum.inr y.1, .inl hna5, rfl, rfl⟩, Sum.inr (ld mS y.1), by rw [valS]; rfl, _, h5r, hlt, ys ++ [(ld mS y.1, l, ms)], ?_⟩
        rw [hput]
        refine ⟨upd_same, fun x hx => ?_, ?_, by rw [upd_ne fr]; exact sA _ _ h2f, fun b u hb e => by rw [upd_ne (ne_of_none e hr)]; exact sA _ _ (k2 b u hb e)⟩
        · rcases List.mem_append.mp hx with q | q
          · exact kt _ _ (sA _ _ (h2y x q))
          · rw [List.mem_singleton.mp q]; exact kt _ _ e5
        · have et : xs.take (i + 1) = xs.take i ++ [y] := by rw [List.take_add_one, hy]; rfl
          rw [et]
          unfold dat at h2d ⊢
          rw [List.map_append, h2d, List.map_append, List.map_append]
          show _ ++ [(ld mS y.1, ms)] = _ ++ [(ld mS y.1, srt (y.2.2.map (ld mI)))]
          rw [srt_of hpm hso]
    · rintro σ H2 ⟨v3, v4, ys, rfl, h2r, h2y, h2d, h2f, k2⟩
      have hl2 : ((kvR xs).map fun x => kV x.1).length = xs.length := by unfold kvR; simp
      rw [hl2, List.take_length] at h2d
      refine ⟨⟨o, h2f⟩, ?_⟩
      (try ctx_has vcx true_and)
      refine k r ys _ hr (fun b u e => ?_) (by rw [upd_ne fr.symm]; exact h2r) (fun x hx => ?_) h2d
      · by_cases hb : b = f
        · subst hb; rw [upd_same, ← e, hf]
        · rw [upd_ne hb]; exact k2 b u hb e
      · rw [upd_ne (ne_of (h2y x hx) h2f (by intro z; cases z))]; exact h2y x hx
theorem op_neDAK {X : Cx} {K : PySem.W.Frag} (hK : X.K = K) (hu : X.A.units + 102 < cLine) : OpR X (compareOp .NotEq) (rEqDA K false) := by
  subst hK
  exact op_neDA hu
theorem hu10 {A : Around} {k : Nat} (hr : Room k A) : A.units + 10 < cLine := by have := hr.un; omega
theorem swp_S (m : List (Str × Str)) : kvK (swp (upS m)) = kvS (swp m) := by unfold kvK swp upS kvS; simp only [List.map_map]; rfl
theorem swp_I (m : List (Int × Int)) : kvK (swp (upI m)) = kvI (swp m) := by unfold kvK swp upI kvI; simp only [List.map_map]; rfl
theorem up_nd {m : List (Str × Str)} (h : PM m) : ((upS m).map (·.1)).Nodup ∧ ((upS m).map (·.2)).Nodup := by
  unfold upS
  simp only [List.map_map]
  have e1 : (m.map ((fun x : Key × Key => x.1) ∘ fun x => (Sum.inr x.1, Sum.inr x.2))) = (m.map (·.1)).map Sum.inr := by rw [List.map_map]; rfl
  have e2 : (m.map ((fun x : Key × Key => x.2) ∘ fun x => (Sum.inr x.1, Sum.inr x.2))) = (m.map (·.2)).map Sum.inr := by rw [List.map_map]; rfl
  rw [e1, e2]
  exact ⟨List.Pairwise.map _ (fun a b hab e => hab (Sum.inr.inj e)) h.1, List.Pairwise.map _ (fun a b hab e => hab (Sum.inr.inj e)) (h.2.nodup_iff.mpr h.1)⟩
theorem up_ndI {m : List (Int × Int)} (h : PM m) : ((upI m).map (·.1)).Nodup ∧ ((upI m).map (·.2)).Nodup := by
  unfold upI
  simp only [List.map_map]
  have e1 : (m.map ((fun x : Key × Key => x.1) ∘ fun x => (Sum.inl x.1, Sum.inl x.2))) = (m.map (·.1)).map Sum.inl := by rw [List.map_map]; rfl
  have e2 : (m.map ((fun x : Key × Key => x.2) ∘ fun x => (Sum.inl x.1, Sum.inl x.2))) = (m.map (·.2)).map Sum.inl := by rw [List.map_map]; rfl
  rw [e1, e2]
  exact ⟨List.Pairwise.map _ (fun a b hab e => hab (Sum.inl.inj e)) h.1, List.Pairwise.map _ (fun a b hab e => hab (Sum.inl.inj e)) (h.2.nodup_iff.mpr h.1)⟩
theorem kvF_plain {kf : List (Str × Int)} : ∀ p ∈ kvF kf, plainV p.2 = true := fun p hp => by obtain ⟨x, _, rfl⟩ := List.mem_map.mp hp; rfl
theorem kvR_plain {xs : List (Str × Addr × List Int)} : ∀ p ∈ kvR xs, plainV p.2 = true := fun p hp => by obtain ⟨x, _, rfl⟩ := List.mem_map.mp hp; rfl
theorem kvR_nd {xs : List (Str × Addr × List Int)} (h : (xs.map (·.1)).Nodup) : ((kvR xs).map (·.1)).Nodup := by
  rw [kvR_keys]
  have : (xs.map fun x => (Sum.inr x.1 : Key)) = (xs.map (·.1)).map Sum.inr := by rw [List.map_map]; rfl
  rw [this]
  exact List.Pairwise.map _ (fun a b hab e => hab (Sum.inr.inj e)) h
theorem dat_fst (xs : List (Str × Addr × List Int)) : (dat xs).map (·.1) = xs.map (·.1) := by unfold dat; rw [List.map_map]; rfl
theorem alike_R {K : PySem.W.Frag} {H : Hp} {ys zs : List (Str × Addr × List Int)} (h : dat ys = dat zs) (hn : (zs.map (·.1)).Nodup) (hy : RmT H ys) (hz : RmT H zs) : (kvR ys).length = (kvR zs).length ∧ AlikeD K H (kvR ys) (kvR zs) := by
  constructor
  · have := congrArg List.length h
    unfold dat at this
    unfold kvR
    rw [List.length_map, List.length_map] at *
    exact this
  · intro p hp
    obtain ⟨y, hym, rfl⟩ := List.mem_map.mp hp
    have : (y.1, y.2.2) ∈ dat zs := by rw [← h]; exact List.mem_map.mpr ⟨y, hym, rfl⟩
    obtain ⟨z, hzm, e⟩ := List.mem_map.mp this
    simp only [Prod.mk.injEq] at e
    refine ⟨.ref z.2.1, ?_, .tuple (y.2.2.map PyData.int), .tup (.of (hy y hym)) (Reps.ints _), ?_, ?_, ?_, ?_⟩
    · exact valV_mem (kvR_nd hn) (List.mem_map.mpr ⟨z, hzm, by rw [← e.1]⟩)
    · rw [← e.2]; exact .tup (.of (hz z hzm)) (Reps.ints _)
    · unfold PyData.canLay0; exact lay_ints _
    · unfold PyData.depth; rw [depth_ints]; decide
    · exact PySem.SeqAt.eqv_refl _ (by unfold PyData.canLay0; exact lay_ints _)
theorem turnR_back {mS : List (Str × Str)} {mI : List (Int × Int)} (hs : PM mS) (hi : PM mI) {x : Str × List Int} (hx : x.2.Pairwise (· ≤ ·)) : turnR (swp mS) (swp mI) (turnR mS mI x) = x := by
  unfold turnR
  refine Prod.ext (ld_back hs x.1) ?_
  show srt ((srt (x.2.map (ld mI))).map (ld (swp mI))) = x.2
  refine (srt_of ?_ hx).symm
  refine (List.Perm.symm ?_)
  have := (srt_perm (x.2.map (ld mI))).map (ld (swp mI))
  rw [List.map_map] at this
  have e : x.2.map (ld (swp mI) ∘ ld mI) = x.2 := by
    conv => rhs; rw [← List.map_id x.2]
    exact List.map_congr_left fun a _ => ld_back hi a
  rwa [e] at this
theorem turnR_nd {mS : List (Str × Str)} {mI : List (Int × Int)} (hs : PM mS) {ds : List (Str × List Int)} (h : (ds.map (·.1)).Nodup) : ((ds.map (turnR mS mI)).map (·.1)).Nodup := by
  rw [List.map_map]
  have : ds.map ((fun x : Str × List Int => x.1) ∘ turnR mS mI) = (ds.map (·.1)).map (ld mS) := by rw [List.map_map]; rfl
  rw [this]
  exact List.Pairwise.map _ (fun a b hab e => hab (ld_inj hs e)) h
theorem RmT.same {H H' : Hp} {xs : List (Str × Addr × List Int)} (h : RmT H xs) (s : Same H H') : RmT H' xs := fun x hx => s _ _ (h x hx)
noncomputable def spRight : Sp := fun vs H Q _ => ∃ (t na va f r : Addr) (mS : List (Str × Str)) (mI : List (Int × Int)) (kf : List (Str × Int)) (xs : List (Str × Addr × List Int)), vs = [.ref t, .ref f, .ref r] ∧ TurnAt H t na va mS mI ∧ (f ≠ na ∧ f ≠ va) ∧ (r ≠ na ∧ r ≠ va) ∧ H f = some (.dK (kvF kf)) ∧ (kf.map (·.1)).Nodup ∧ kf.length ≤ 40 ∧ H r = some (.dK (kvR xs)) ∧ RmT H xs ∧ (xs.map (·.1)).Nodup ∧ xs.length ≤ 40 ∧ (∀ x ∈ xs, x.2.2.length ≤ 60 ∧ x.2.2.Pairwise (· ≤ ·)) ∧ ∀ H', Same H H' → Q (.bl true) H'
theorem ok__law_led_right {P : Program} {w : World} {K : PySem.W.Frag} {mg : Str → Option Value} {base : Heap}  (T : Txt K mg) (L : FnL K mg "_law_led_right" s__law_led_right ["_law_turning", "_law_filling", "_law_rooms_here"]) (F_law_back : Fn P w K mg base "_law_back" 1 ["_law_leads_here"] (spBack)) (Fturned_filling : Fn P w K mg base "turned_filling" 2 ["turning", "filling"] (spTF)) (Fturned_rooms : Fn P w K mg base "turned_rooms" 3 ["turning", "rooms"] (spTR)) (F_law_turned : Fn P w K mg base "_law_turned" 2 ["_law_turning", "_law_filling"] (spTF)) (F_law_turned_rooms : Fn P w K mg base "_law_turned_rooms" 2 ["_law_turning", "_law_rooms_here"] (spTR)) : Fn P w K mg base "_law_led_right" 4 ["_law_turning", "_law_filling", "_law_rooms_here"] (spRight) := by
  have nd := sc__law_led_right.nd
  refine L.ok sc__law_led_right (fun vs H Q E h => ?_) (fun f cdv A outer s H vs Q E hr h => ?_)
  · obtain ⟨t, na, va, f, r, mS, mI, kf, xs, rfl, T0, nf, nr, hf, hfn, hfl, hr0, hrt, hrn, hrl, hx60, k⟩ := h
    rfl
  · obtain ⟨t, na, va, f, r, mS, mI, kf, xs, rfl, T0, nf, nr, hf, hfn, hfl, hr0, hrt, hrn, hrl, hx60, k⟩ := h
    have hu := hu_of hr
    refine ⟨_, (pss_cons (ps_set (i := 3) nd rfl (by first | exact Or.inl rfl | exact Or.inr rfl) (pe_tup (pa_cons (pe_callF F_law_back (hr.mono (by first | decide | omega)) rfl (pa_cons (pe_ix ix_T (pvM 0) pe_int (fun _ _ => rfl)) pa_nil)) (pa_cons (pe_callF F_law_back (hr.mono (by first | decide | omega)) rfl (pa_cons (pe_ix ix_T (pvM 0) pe_int (fun _ _ => rfl)) pa_nil)) pa_nil))))
      (pss_cons (ps_set (i := 4) nd rfl (by first | exact Or.inl rfl | exact Or.inr rfl) (pe_tup (pa_cons (pe_callTy call_dictD rfl T.b_dict (show bootBuiltins "dict" = some (.type "dict") by decide +kernel) (pa_cons (pvM 1) pa_nil)) (pa_cons (pe_callTy call_dictD rfl T.b_dict (show bootBuiltins "dict" = some (.type "dict") by decide +kernel) (pa_cons (pvM 2) pa_nil)) pa_nil))))
      (pss_cons (ps_set (i := 5) nd rfl (by first | exact Or.inl rfl | exact Or.inr rfl) (pe_callF Fturned_filling (hr.mono (by first | decide | omega)) rfl (pa_cons (pvM 0) (pa_cons (pe_ix ix_T (pvM 4) pe_int (fun _ _ => rfl)) pa_nil))))
      (pss_cons (ps_set (i := 6) nd rfl (by first | exact Or.inl rfl | exact Or.inr rfl) (pe_callF Fturned_rooms (hr.mono (by first | decide | omega)) rfl (pa_cons (pvM 0) (pa_cons (pe_ix ix_T (pvM 4) pe_int (fun _ _ => rfl)) pa_nil))))
      (pss_cons (ps_if (PW.pt (pw_or (pt_not (pt_val (pe_callB call_isDk rfl T.b_isinstance (show bootBuiltins "isinstance" = some (.builtin "isinstance") by decide +kernel) (pa_cons (pvM 5) (pa_cons (pe_ty (T := "dict") rfl T.b_dict (by decide +kernel)) pa_nil))))) (pw_or1 (pt_cmpR (op_neDD (Nat.lt_of_succ_lt hu)) (pvM 5) (pe_callF F_law_turned (hr.mono (by first | decide | omega)) rfl (pa_cons (pvM 0) (pa_cons (pvM 1) pa_nil))) (nomark _))))) (pss_one (ps_ret pe_bl)) pss_nil)
      (pss_cons (ps_if (PW.pt (pw_or (pt_not (pt_val (pe_callB call_isDk rfl T.b_isinstance (show bootBuiltins "isinstance" = some (.builtin "isinstance") by decide +kernel) (pa_cons (pvM 6) (pa_cons (pe_ty (T := "dict") rfl T.b_dict (by decide +kernel)) pa_nil))))) (pw_or1 (pt_cmpR (op_neDAK (K := K) rfl (hu102 hr)) (pvM 6) (pe_callF F_law_turned_rooms (hr.mono (by first | decide | omega)) rfl (pa_cons (pvM 0) (pa_cons (pvM 2) pa_nil))) (nomark _))))) (pss_one (ps_ret pe_bl)) pss_nil)
      (pss_cons (ps_if (PW.pt (pw_or (pt_val (pe_callB (call_anyL rfl) rfl T.b_any (show bootBuiltins "any" = some (.builtin "any") by decide +kernel) (pa_cons (pe_thaw (pe_comp (N := ["_law_room"]) (nt := 1) (js := []) rfl (compOk_of ["_law_turning", "_law_filling", "_law_rooms_here", "_law_back_here", "_law_handed", "_law_found", "_law_some_here"] (defScope s__law_led_right).names rfl rfl rfl (by decide +kernel)) (pi_vals (pvM 6)) (fun _ _ _ _ _ _ => (pg_name (i := 0) (show List.Nodup [("_law_room" : Str)] by decide +kernel) rfl (Or.inl rfl))) (tgOk_name (by decide)) (fun _ _ _ _ _ _ => pts_nil) (fun _ _ _ _ _ _ => (pe_not (pe_callB call_isB rfl T.b_isinstance (show bootBuiltins "isinstance" = some (.builtin "isinstance") by decide +kernel) (pa_cons (pvM 0) (pa_cons (pe_ty (T := "tuple") rfl T.b_tuple (by decide +kernel)) pa_nil))))))) pa_nil))) (pw_or1 (pt_cmpR (op_nePDD (hu10 hr)) (pvM 4) (pe_tup (pa_cons (pvM 1) (pa_cons (pvM 2) pa_nil))) (nomark _))))) (pss_one (ps_ret pe_bl)) pss_nil)
      (pss_cons (ps_if (PW.pt (pw_or (pt_cmpR (op_neDD (Nat.lt_of_succ_lt hu)) (pe_callF Fturned_filling (hr.mono (by first | decide | omega)) rfl (pa_cons (pvM 3) (pa_cons (pvM 5) pa_nil))) (pvM 1) (nomark _)) (pw_or1 (pt_cmpR (op_neDAK (K := K) rfl (hu102 hr)) (pe_callF Fturned_rooms (hr.mono (by first | decide | omega)) rfl (pa_cons (pvM 3) (pa_cons (pvM 6) pa_nil))) (pvM 2) (nomark _))))) (pss_one (ps_ret pe_bl)) pss_nil)
      (pss_cons (ps_expr (pe_dclear (pvM 5)))
      (pss_one (ps_ret (pe_cmpR (op_eqDD (Nat.lt_of_succ_lt hu)) (pe_callF Fturned_filling (hr.mono (by first | decide | omega)) rfl (pa_cons (pvM 0) (pa_cons (pe_ix ix_T (pvM 4) pe_int (fun _ _ => rfl)) pa_nil))) (pe_callF F_law_turned (hr.mono (by first | decide | omega)) rfl (pa_cons (pvM 0) (pa_cons (pvM 1) pa_nil))) (nomark _))))))))))))), ?_⟩
    have e1 := T0.ht
    (try ctx_has vcx true_and e1)
    refine ⟨na, upS mS, rfl, by rw [kvK_S]; exact T0.hn, (up_nd T0.ps).1, (up_nd T0.ps).2, by unfold upS; rw [List.length_map]; exact T0.ls, fun ba H1 hba s1 h1 => ?_⟩
    rw [swp_S] at h1
    have T1 := T0.same s1
    refine ⟨_, T1.ht, _, atI_nat (j := 1) rfl, va, upI mI, rfl, by rw [kvK_I]; exact T1.hv, (up_ndI T0.pi).1, (up_ndI T0.pi).2, by unfold upI; rw [List.length_map]; exact T0.li, fun bb H2 hbb s2 h2 => ?_⟩
    rw [swp_I] at h2
    have T2 := T1.same s2
    refine ⟨by decide, fun bk hbk => ?_⟩
    have s3 := Same.upd0 (o := HO.tup [.ref ba, .ref bb]) hbk
    have TB : TurnAt (upd H2 bk (HO.tup [.ref ba, .ref bb])) bk ba bb (swp mS) (swp mI) := ⟨upd_same, s3 _ _ (s2 _ _ h1), s3 _ _ h2, swp_pm T0.ps, swp_pm T0.pi, by unfold swp; rw [List.length_map]; exact T0.ls, by unfold swp; rw [List.length_map]; exact T0.li⟩
    have sA := s1.trans (s2.trans s3)
    generalize upd H2 bk (HO.tup [.ref ba, .ref bb]) = H3 at s3 TB sA ⊢
    have T3 := T0.same sA
    refine ⟨_, sA _ _ hf, fun g0 hg0 => ?_⟩
    have s4 := Same.upd0 (o := HO.dK (kvF kf)) hg0
    refine ⟨_, s4 _ _ (sA _ _ hr0), fun g1 hg1 => ⟨by decide, fun hd hhd => ⟨_, upd_same, _, atI_nat (j := 0) rfl, ?_⟩⟩⟩
    have s5 := (s4.upd_new (o := HO.dK (kvR xs)) hg1).upd_new (o := HO.tup [.ref g0, .ref g1]) hhd
    have n01 : g0 ≠ g1 := fun z => by rw [← z, upd_same] at hg1; cases hg1
    have n0h : g0 ≠ hd := fun z => by rw [← z, upd_ne n01, upd_same] at hhd; cases hhd
    have n1h : g1 ≠ hd := fun z => by rw [← z, upd_same] at hhd; cases hhd
    have e50 : upd (upd (upd H3 g0 (HO.dK (kvF kf))) g1 (HO.dK (kvR xs))) hd (HO.tup [.ref g0, .ref g1]) g0 = some (HO.dK (kvF kf)) := by rw [upd_ne n0h, upd_ne n01]; exact upd_same
    have e51 : upd (upd (upd H3 g0 (HO.dK (kvF kf))) g1 (HO.dK (kvR xs))) hd (HO.tup [.ref g0, .ref g1]) g1 = some (HO.dK (kvR xs)) := by rw [upd_ne n1h]; exact upd_same
    have e5h : upd (upd (upd H3 g0 (HO.dK (kvF kf))) g1 (HO.dK (kvR xs))) hd (HO.tup [.ref g0, .ref g1]) hd = some (HO.tup [.ref g0, .ref g1]) := upd_same
    have hg13 : H3 g1 = none := by rwa [upd_ne n01.symm] at hg1
    generalize upd (upd (upd H3 g0 (HO.dK (kvF kf))) g1 (HO.dK (kvR xs))) hd (HO.tup [.ref g0, .ref g1]) = H5 at s5 e50 e51 e5h ⊢
    have sB := sA.trans s5
    have T5 := T0.same sB
    have ng0 : g0 ≠ na ∧ g0 ≠ va := ⟨(ne_of_none T3.hn hg0).symm, (ne_of_none T3.hv hg0).symm⟩
    have ng1 : g1 ≠ na ∧ g1 ≠ va := ⟨(ne_of_none T3.hn hg13).symm, (ne_of_none T3.hv hg13).symm⟩
    refine ⟨t, na, va, g0, mS, mI, kf, rfl, T5, ng0, e50, hfn, hfl, fun p1 H6 hp1 s6 h6 => ?_⟩
    refine ⟨_, s6 _ _ e5h, _, atI_nat (j := 1) rfl, t, na, va, g1, mS, mI, xs, rfl, T5.same s6, ng1, s6 _ _ e51, hrt.same (sB.trans s6), hrn, hrl, fun x hx => (hx60 x hx).1, fun p2 ys H7 hp2 s7 h7 h7r h7d => ?_⟩
    have sC := sB.trans (s6.trans s7)
    have h7p := s7 _ _ h6
    refine ⟨p1, rfl, _, h7p, true, rfl, ?_⟩
    rw [if_neg (by decide)]
    refine ⟨t, na, va, f, mS, mI, kf, rfl, T0.same sC, nf, sC _ _ hf, hfn, hfl, fun p3 H8 hp3 s8 h8 => ?_⟩
    have h8p := s8 _ _ h7p
    (try ctx_has vcx true_and rNeDD h8p h8)
    refine ⟨kvF_plain, p2, rfl, _, s8 _ _ h7, true, rfl, ?_⟩
    rw [if_neg (by decide)]
    have sD := sC.trans s8
    refine ⟨t, na, va, r, mS, mI, xs, rfl, T0.same sD, nr, sD _ _ hr0, hrt.same sD, hrn, hrl, fun x hx => (hx60 x hx).1, fun p4 zs H9 hp4 s9 h9 h9r h9d => ?_⟩
    have hzn : (zs.map (·.1)).Nodup := by rw [← dat_fst, h9d]; exact turnR_nd T0.ps (by rw [dat_fst]; exact hrn)
    have hyn : (ys.map (·.1)).Nodup := by rw [← dat_fst, h7d]; exact turnR_nd T0.ps (by rw [dat_fst]; exact hrn)
    have h9y := h7r.same (s8.trans s9)
    obtain ⟨la, al⟩ := alike_R (K := K) (H := H9) (h7d.trans h9d.symm) hzn h9y h9r
    have h9p2 := s9 _ _ (s8 _ _ h7)
    refine ⟨p2, rfl, p4, rfl, _, _, h9p2, h9, la, al, false, rfl, ?_⟩
    rw [if_neg (by decide)]
    refine ⟨p2, _, h9p2, p2, rfl, _, h9p2, fun o D hD => ?_⟩
    have hDp : D ≠ p2 := fun z => by rw [z, upd_same] at hD; cases hD
    have hyl : ys.length = xs.length := by have := congrArg List.length h7d; unfold dat at this; simpa using this
    refine comp_map wlk_vals (f := fun _ => .bl false) hD (fun H' s => s _ _ upd_same) (by unfold kvR; rw [List.length_map, List.length_map]; omega) ?_ ?_
    · intro x H10 Q10 hx s10 q10
      obtain ⟨y, hy, rfl⟩ : ∃ y ∈ ys, V.ref y.2.1 = x := by
        unfold kvR at hx
        rw [List.map_map] at hx
        obtain ⟨y, hy, e⟩ := List.mem_map.mp hx
        exact ⟨y, hy, e⟩
      have hy10 := s10 y.2.1 _ (by rw [upd_ne (ne_of (h9y y hy) h9p2 (by intro z; cases z))]; exact h9y y hy)
      (try ctx_has vcx true_and hy10 Bool.not_true)
      exact q10
    · intro H10 s10 h10
      refine ⟨⟨o, s10 _ _ upd_same⟩, D, rfl, ((kvR ys).map (·.2)).map (fun _ => false), by rw [upd_ne hDp, h10]; simp only [List.map_map]; rfl, ?_⟩
      rw [if_neg (by simp)]
      have s11 : Same H9 (upd H10 p2 (HO.dK (kvR ys))) := fun b u e => by
        by_cases hb : b = p2
        · subst hb; rw [upd_same, ← e, h9p2]
        · rw [upd_ne hb]; exact s10 _ _ (by rw [upd_ne hb]; exact e)
      generalize upd H10 p2 (HO.dK (kvR ys)) = H11 at s11 ⊢
      have sE := sD.trans (s9.trans s11)
      have s5E := s6.trans (s7.trans (s8.trans (s9.trans s11)))
      refine ⟨by decide, fun pp hpp => ?_⟩
      have s12 := Same.upd0 (o := HO.tup [.ref f, .ref r]) hpp
      refine ⟨hd, rfl, pp, rfl, g0, g1, s12 _ _ (s5E _ _ e5h), f, r, upd_same, kvF kf, s12 _ _ (s5E _ _ e50), s12 _ _ (sE _ _ hf), kvF_plain, kvR xs, s12 _ _ (s5E _ _ e51), s12 _ _ (sE _ _ hr0), kvR_plain, false, rfl, ?_⟩
      rw [if_neg (by decide)]
      generalize upd H11 pp (HO.tup [.ref f, .ref r]) = H12 at s12 ⊢
      have TB5 := TB.same s5
      have n1 : p1 ≠ ba ∧ p1 ≠ bb := ⟨(ne_of_none TB5.hn hp1).symm, (ne_of_none TB5.hv hp1).symm⟩
      have TB6 := TB5.same s6
      have n2 : p2 ≠ ba ∧ p2 ≠ bb := ⟨(ne_of_none TB6.hn hp2).symm, (ne_of_none TB6.hv hp2).symm⟩
      have s6E : Same H6 H12 := s7.trans (s8.trans (s9.trans (s11.trans s12)))
      refine ⟨bk, ba, bb, p1, swp mS, swp mI, kf.map fun x => (ld mS x.1, ld mI x.2), rfl, TB6.same s6E, n1, s6E _ _ h6, ?_, by rw [List.length_map]; exact hfl, fun p5 H13 hp5 s13 h13 => ?_⟩
      · rw [List.map_map]
        have : kf.map ((fun x : Str × Int => x.1) ∘ fun x => (ld mS x.1, ld mI x.2)) = (kf.map (·.1)).map (ld mS) := by rw [List.map_map]; rfl
        rw [this]
        exact List.Pairwise.map _ (fun a b hab e => hab (ld_inj T0.ps e)) hfn
      have ebk : (kf.map fun x => (ld mS x.1, ld mI x.2)).map (fun x => (ld (swp mS) x.1, ld (swp mI) x.2)) = kf := by
        rw [List.map_map]
        conv => rhs; rw [← List.map_id kf]
        refine List.map_congr_left fun x _ => ?_
        show (ld (swp mS) (ld mS x.1), ld (swp mI) (ld mI x.2)) = x
        rw [ld_back T0.ps, ld_back T0.pi]
      rw [ebk] at h13
      have s13E : Same H6 H13 := s6E.trans s13
      have sF := sE.trans (s12.trans s13)
      have h13y := h9y.same (s11.trans (s12.trans s13))
      have h13p2 := s13 _ _ (s12 _ _ (s11 _ _ h9p2))
      refine ⟨p5, rfl, _, h13, sF _ _ hf, kvF_plain, ?_⟩
      refine ⟨bk, ba, bb, p2, swp mS, swp mI, ys, rfl, TB6.same s13E, n2, h13p2, h13y, hyn, by omega, fun y hy => ?_, fun p6 ws H14 hp6 s14 h14 h14r h14d => ?_⟩
      · have : (y.1, y.2.2) ∈ dat ys := List.mem_map.mpr ⟨y, hy, rfl⟩
        rw [h7d] at this
        obtain ⟨z, hz, e⟩ := List.mem_map.mp this
        obtain ⟨x, hx, rfl⟩ := List.mem_map.mp hz
        have e2 : srt (x.2.2.map (ld mI)) = y.2.2 := congrArg Prod.snd e
        rw [← e2, (srt_perm _).length_eq, List.length_map]
        exact (hx60 x hx).1
      have hws : dat ws = dat xs := by
        rw [h14d, h7d, List.map_map]
        conv => rhs; rw [← List.map_id (dat xs)]
        refine List.map_congr_left fun x hx => ?_
        obtain ⟨y, hy, rfl⟩ := List.mem_map.mp hx
        exact turnR_back T0.ps T0.pi (hx60 y hy).2
      have sG := sF.trans s14
      obtain ⟨la2, al2⟩ := alike_R (K := K) (H := H14) hws hrn h14r (hrt.same sG)
      refine ⟨p6, rfl, r, rfl, _, _, h14, sG _ _ hr0, la2, al2, false, rfl, ?_⟩
      rw [if_neg (by decide)]
      have s14E : Same H6 H14 := s13E.trans s14
      have keep : Same H5 (upd H14 p1 (HO.dK [])) := fun b u e => by rw [upd_ne (ne_of_none e hp1)]; exact s14E _ _ (s6 _ _ e)
      refine ⟨_, s14E _ _ h6, _, keep _ _ e5h, _, atI_nat (j := 0) rfl, t, na, va, g0, mS, mI, kf, rfl, T5.same keep, ng0, keep _ _ e50, hfn, hfl, fun p7 H15 hp7 s15 h15 => ?_⟩
      exact ⟨t, na, va, f, mS, mI, kf, rfl, (T5.same keep).same s15, nf, s15 _ _ (keep _ _ (sB _ _ hf)), hfn, hfl, fun p8 H16 hp8 s16 h16 => ⟨p7, rfl, p8, rfl, _, s16 _ _ h15, h16, kvF_plain, k H16 (sB.trans (keep.trans (s15.trans s16)))⟩⟩
noncomputable def tCut (t u : TS) : TS := fun D σ H => ∃ R : St → Hp → Prop, t { D with nx := R } σ H ∧ ∀ σ H, R σ H → u D σ H
theorem pss_cut {X : Cx} {st : Stmt} {rest : List Stmt} {t u : TS} (h1 : PS X st t) (h2 : PSs X rest u) : PSs X (st :: rest) (tCut t u) := by
  intro pins s σ H D I h
  obtain ⟨R, h, hR⟩ := h
  refine wpAny_execs_cons (thn (h1 pins s σ H { D with nx := R } I h) fun f s1 q => ?_)
  cases f with
  | next =>
    obtain ⟨σ', H', I', q⟩ := q
    exact h2 pins s1 σ' H' D I' (hR _ _ q)
  | ret v => exact q
  | brk => exact q
  | cont => exact q
theorem for_sq {K : PySem.W.Frag} {a : Addr} {xs : List V} {H0 : Hp} {g : TG} {tb : TS} {D : Ends} {σ : St} (sq : sqOf H0 a xs) (h : ∀ J C o, H0 a = some o → Wlk J xs C → (∀ H', H' a = some o → C H') → ForG J g tb D σ H0) : ∃ ys, (H0 a = some (.lst ys) ∧ ForG (Itl K a) g tb D σ H0) ∨ (H0 a = some (.tup ys) ∧ ForG (Itt K a) g tb D σ H0) := by
  rcases sq with q | q
  · exact ⟨xs, .inl ⟨q, h _ _ _ q wlk_list (fun H' e => .of e)⟩⟩
  · exact ⟨xs, .inr ⟨q, h _ _ _ q wlk_tup (fun H' e => .of e)⟩⟩
noncomputable def spLaw (K : PySem.W.Frag) : Sp := fun vs H Q _ => ∃ (a : Addr) (ns : List Int), vs = [.ref a] ∧ SqL K H a (ns.map V.int) ∧ ns.length ≤ 63 ∧ ∀ H', Q (.bl true) H'
structure LF (ws : List Str) (ps : List Int) (mS : List (Str × Str)) : Prop where
  nok : NamesOk ws
  w1 : 1 ≤ ws.length
  w6 : ws.length ≤ 6
  p5 : ps.length = 5
  pw : ps.Pairwise (· < ·)
  pb : ∀ x ∈ ps, -1000000 ≤ x ∧ x ≤ 1000000
  ms : ∀ x ∈ mS, x.1 ∈ ws
structure LW (H : Hp) (d l na pa tu ta tb : Addr) (ws : List Str) (ps : List Int) (mS : List (Str × Str)) (mI : List (Int × Int)) : Prop where
  D : DealAt H d l
  hn : H na = some (.lst (ws.map V.str))
  hp : H pa = some (.lst (ps.map V.int))
  T : TurnAt H tu ta tb mS mI
  ne : (na ≠ d ∧ na ≠ l) ∧ (pa ≠ d ∧ pa ≠ l) ∧ (tu ≠ d ∧ tu ≠ l) ∧ (ta ≠ d ∧ ta ≠ l) ∧ (tb ≠ d ∧ tb ≠ l)
theorem LW.but {H H' : Hp} {d l na pa tu ta tb : Addr} {ws : List Str} {ps : List Int} {mS : List (Str × Str)} {mI : List (Int × Int)} (h : LW H d l na pa tu ta tb ws ps mS mI) (D' : DealAt H' d l) (B : But d l H H') : LW H' d l na pa tu ta tb ws ps mS mI :=
  ⟨D', B _ _ h.ne.1.1 h.ne.1.2 h.hn, B _ _ h.ne.2.1.1 h.ne.2.1.2 h.hp, ⟨B _ _ h.ne.2.2.1.1 h.ne.2.2.1.2 h.T.ht, B _ _ h.ne.2.2.2.1.1 h.ne.2.2.2.1.2 h.T.hn, B _ _ h.ne.2.2.2.2.1 h.ne.2.2.2.2.2 h.T.hv, h.T.ps, h.T.pi, h.T.ls, h.T.li⟩, h.ne⟩
theorem LW.same {H H' : Hp} {d l na pa tu ta tb : Addr} {ws : List Str} {ps : List Int} {mS : List (Str × Str)} {mI : List (Int × Int)} (h : LW H d l na pa tu ta tb ws ps mS mI) (s : Same H H') : LW H' d l na pa tu ta tb ws ps mS mI := h.but (h.D.same s) (Same.but s)
theorem LW.put {H : Hp} {d l na pa tu ta tb p : Addr} {o : HO} {ws : List Str} {ps : List Int} {mS : List (Str × Str)} {mI : List (Int × Int)} (h : LW H d l na pa tu ta tb ws ps mS mI) (n1 : p ≠ d ∧ p ≠ l) (n2 : na ≠ p ∧ pa ≠ p ∧ tu ≠ p ∧ ta ≠ p ∧ tb ≠ p) : LW (upd H p o) d l na pa tu ta tb ws ps mS mI :=
  ⟨h.D.put n1.1 n1.2, by rw [upd_ne n2.1]; exact h.hn, by rw [upd_ne n2.2.1]; exact h.hp, ⟨by rw [upd_ne n2.2.2.1]; exact h.T.ht, by rw [upd_ne n2.2.2.2.1]; exact h.T.hn, by rw [upd_ne n2.2.2.2.2]; exact h.T.hv, h.T.ps, h.T.pi, h.T.ls, h.T.li⟩, h.ne⟩
theorem LW.free {H : Hp} {d l na pa tu ta tb p : Addr} {ws : List Str} {ps : List Int} {mS : List (Str × Str)} {mI : List (Int × Int)} (h : LW H d l na pa tu ta tb ws ps mS mI) (hp : H p = none) : na ≠ p ∧ pa ≠ p ∧ tu ≠ p ∧ ta ≠ p ∧ tb ≠ p :=
  ⟨ne_of_none h.hn hp, ne_of_none h.hp hp, ne_of_none h.T.ht hp, ne_of_none h.T.hn hp, ne_of_none h.T.hv hp⟩
theorem DK.put {P : Program} {w : World} {nm : Bool} {H : Hp} {a p : Addr} {o : HO} {g : Prop} (h : DK P w nm H a g) (n : a ≠ p) : DK P w nm (upd H p o) a g := by
  rcases h with ⟨kvs, h1, h2⟩ | ⟨o', kvs, h1, h2⟩
  · exact .inl ⟨kvs, by rw [upd_ne n]; exact h1, h2⟩
  · exact .inr ⟨o', kvs, by rw [upd_ne n]; exact h1, h2⟩
theorem DK.but {P : Program} {w : World} {nm : Bool} {H H' : Hp} {d l a : Addr} {g : Prop} (h : DK P w nm H a g) (n : a ≠ d ∧ a ≠ l) (B : But d l H H') : DK P w nm H' a g := by
  rcases h with ⟨kvs, h1, h2⟩ | ⟨o, kvs, h1, h2⟩
  · exact .inl ⟨kvs, B _ _ n.1 n.2 h1, h2⟩
  · exact .inr ⟨o, kvs, B _ _ n.1 n.2 h1, h2⟩
theorem name_ok {ws : List Str} (h : NamesOk ws) {x : Str} (hx : x ∈ ws) : nameB (.str x) = true := by
  have n := h.nm x hx
  have hm : inV (.str x) marksV = false := by
    have := inV_strs x marks4
    rw [decide_eq_false (h.nomark x hx)] at this
    exact this
  show (decide (1 ≤ x.length) && decide (x.length ≤ 8) && !inV (.str x) marksV && x.cps.toList.all smallB) = true
  rw [decide_eq_true n.pos, decide_eq_true n.le, hm, List.all_eq_true.mpr n.small]
  rfl
theorem S_tame {ws : List Str} {ps : List Int} {mS : List (Str × Str)} (F : LF ws ps mS) (p : PM mS) : ∀ x ∈ mS, x.1 ∈ ws ∧ x.2 ∈ ws := fun x hx => by
  refine ⟨F.ms x hx, ?_⟩
  have := p.2.mem_iff.mp (List.mem_map.mpr ⟨x, hx, rfl⟩)
  obtain ⟨y, hy, e⟩ := List.mem_map.mp this
  rw [← e]
  exact F.ms y hy
theorem tame_nm {x : Str} (h : IsNm x) : tameV (.str x) = true := decide_eq_true (Nat.le_trans h.le (by decide))
theorem S_facts {ws : List Str} {ps : List Int} {mS : List (Str × Str)} (F : LF ws ps mS) (p : PM mS) : ((kvS mS).map (·.1)).Nodup ∧ TmK (kvS mS) ∧ (∀ x ∈ kvS mS, stV true (kV x.1)) ∧ Good true (kvS mS) := by
  have ht := S_tame F p
  refine ⟨?_, ?_, ?_, ?_, ?_⟩
  · have : (kvS mS).map (·.1) = (mS.map (·.1)).map Sum.inr := by unfold kvS; simp only [List.map_map]; rfl
    rw [this]
    exact List.Pairwise.map _ (fun a b hab e => hab (Sum.inr.inj e)) p.1
  · intro x hx
    obtain ⟨y, hy, rfl⟩ := List.mem_map.mp hx
    exact ⟨tame_nm (F.nok.nm _ (ht y hy).1), tame_nm (F.nok.nm _ (ht y hy).2)⟩
  · intro x hx
    obtain ⟨y, hy, rfl⟩ := List.mem_map.mp hx
    exact ok_st (nm := true) (name_ok F.nok (ht y hy).1)
  · intro x hx
    obtain ⟨y, hy, rfl⟩ := List.mem_map.mp hx
    exact ⟨name_ok F.nok (ht y hy).1, name_ok F.nok (ht y hy).2⟩
  · have e1 : (kvS mS).map (fun x => kV x.1) = (mS.map (·.1)).map V.str := by unfold kvS; simp only [List.map_map]; rfl
    have e2 : (kvS mS).map (·.2) = (mS.map (·.2)).map V.str := by unfold kvS; simp only [List.map_map]; rfl
    rw [e1, e2]
    exact p.2.symm.map _
theorem I_facts {mI : List (Int × Int)} (p : PM mI) : ((kvI mI).map (·.1)).Nodup ∧ TmK (kvI mI) ∧ (∀ x ∈ kvI mI, stV false (kV x.1)) ∧ Good false (kvI mI) := by
  refine ⟨?_, ?_, ?_, ?_, ?_⟩
  · have : (kvI mI).map (·.1) = (mI.map (·.1)).map Sum.inl := by unfold kvI; simp only [List.map_map]; rfl
    rw [this]
    exact List.Pairwise.map _ (fun a b hab e => hab (Sum.inl.inj e)) p.1
  · intro x hx
    obtain ⟨y, hy, rfl⟩ := List.mem_map.mp hx
    exact ⟨rfl, rfl⟩
  · intro x hx
    obtain ⟨y, hy, rfl⟩ := List.mem_map.mp hx
    exact ⟨_, rfl⟩
  · intro x hx
    obtain ⟨y, hy, rfl⟩ := List.mem_map.mp hx
    exact ⟨rfl, rfl⟩
  · have e1 : (kvI mI).map (fun x => kV x.1) = (mI.map (·.1)).map V.int := by unfold kvI; simp only [List.map_map]; rfl
    have e2 : (kvI mI).map (·.2) = (mI.map (·.2)).map V.int := by unfold kvI; simp only [List.map_map]; rfl
    rw [e1, e2]
    exact p.2.symm.map _
theorem S_DK {P : Program} {w : World} {H : Hp} {a : Addr} {ws : List Str} {ps : List Int} {mS : List (Str × Str)} (F : LF ws ps mS) (p : PM mS) (hl : mS.length ≤ 40) (h : H a = some (.dK (kvS mS))) : DK P w true H a (Good true (kvS mS)) :=
  .inl ⟨_, h, by unfold kvS; rw [List.length_map]; omega, (S_facts F p).1, (S_facts F p).2.1, Iff.rfl⟩
theorem I_DK {P : Program} {w : World} {H : Hp} {a : Addr} {mI : List (Int × Int)} (p : PM mI) (hl : mI.length ≤ 40) (h : H a = some (.dK (kvI mI))) : DK P w false H a (Good false (kvI mI)) :=
  .inl ⟨_, h, by unfold kvI; rw [List.length_map]; omega, (I_facts p).1, (I_facts p).2.1, Iff.rfl⟩
theorem it_rd {P : Program} {w : World} {H : Hp} {tu ta tb : Addr} {ws : List Str} {ps : List Int} {mS : List (Str × Str)} {mI : List (Int × Int)} {Q : VK} {E : XK} (F : LF ws ps mS) (T : TurnAt H tu ta tb mS mI) (k : ∀ H', Same H H' → Q (.bl true) H') : spIT P w [.ref tu] H Q E :=
  ⟨tu, ta, tb, _, _, rfl, T.ht, S_DK F T.ps T.ls T.hn, I_DK T.pi T.li T.hv, fun b H' s hb => by
    have : b = true := hb.mpr ⟨(S_facts F T.ps).2.2.2, (I_facts T.pi).2.2.2⟩
    rw [this]
    exact k H' s⟩
theorem tameA_s {x : Str} (h : x.length ≤ 20) : tameA (some (Sum.inr x)) := fun y hy => by
  cases (show y = .str x from hy)
  exact decide_eq_true h
theorem tameA_i {i : Int} : tameA (some (Sum.inl i)) := fun y hy => by
  rcases hy with rfl | ⟨b, rfl, _⟩ <;> rfl
theorem tameA_n : tameA none := fun y hy => by
  cases (show y = .non from hy)
  rfl
theorem odd_S {v : V} (h : v ∈ [V.str (Str.ofString "in"), .str (Str.ofString "Ab"), .str (Str.ofString "abcdefghi"), .str (Str.ofString ""), .str (Str.ofString "a1"), .int 5, .non]) : tameV v = true ∧ okV true v = false ∧ ∃ ok, AV ok v ∧ tameA ok := by
  simp only [List.mem_cons, List.not_mem_nil, or_false] at h
  rcases h with rfl | rfl | rfl | rfl | rfl | rfl | rfl
  · exact ⟨by decide +kernel, by decide +kernel, some (Sum.inr _), rfl, tameA_s (by decide +kernel)⟩
  · exact ⟨by decide +kernel, by decide +kernel, some (Sum.inr _), rfl, tameA_s (by decide +kernel)⟩
  · exact ⟨by decide +kernel, by decide +kernel, some (Sum.inr _), rfl, tameA_s (by decide +kernel)⟩
  · exact ⟨by decide +kernel, by decide +kernel, some (Sum.inr _), rfl, tameA_s (by decide +kernel)⟩
  · exact ⟨by decide +kernel, by decide +kernel, some (Sum.inr _), rfl, tameA_s (by decide +kernel)⟩
  · exact ⟨rfl, rfl, some (Sum.inl 5), .inl rfl, tameA_i⟩
  · exact ⟨rfl, rfl, none, rfl, tameA_n⟩
theorem odd_I {v : V} (h : v ∈ [V.bl true, .non, .str (Str.ofString "a"), .str (Str.ofString "1"), .bl false]) : tameV v = true ∧ okV false v = false ∧ ∃ ok, AV ok v ∧ tameA ok := by
  simp only [List.mem_cons, List.not_mem_nil, or_false] at h
  rcases h with rfl | rfl | rfl | rfl | rfl
  · exact ⟨rfl, rfl, some (Sum.inl 1), .inr ⟨true, rfl, rfl⟩, tameA_i⟩
  · exact ⟨rfl, rfl, none, rfl, tameA_n⟩
  · exact ⟨by decide +kernel, rfl, some (Sum.inr _), rfl, tameA_s (by decide +kernel)⟩
  · exact ⟨by decide +kernel, rfl, some (Sum.inr _), rfl, tameA_s (by decide +kernel)⟩
  · exact ⟨rfl, rfl, some (Sum.inl 0), .inr ⟨false, rfl, rfl⟩, tameA_i⟩
theorem rooms_xs {H : Hp} {kvs : List (Key × V)} {cs : List Str} {rm : Str → List Int} (rf : RoomsFor H kvs cs rm) (hk : kvs.map (·.1) = cs.map Sum.inr) (hn : cs.Nodup) : ∃ xs : List (Str × Addr × List Int), kvs = kvR xs ∧ RmT H xs ∧ xs.map (·.1) = cs ∧ ∀ x ∈ xs, x.2.2 = rm x.1 := by
  have hkn : (kvs.map (·.1)).Nodup := by rw [hk]; exact List.Pairwise.map _ (fun a b hab e => hab (Sum.inr.inj e)) hn
  have each : ∀ p ∈ kvs, ∃ c ∈ cs, ∃ a, p = (Sum.inr c, .ref a) ∧ H a = some (.tup ((rm c).map V.int)) := fun p hp => by
    have : p.1 ∈ cs.map Sum.inr := by rw [← hk]; exact List.mem_map.mpr ⟨p, hp, rfl⟩
    obtain ⟨c, hc, e⟩ := List.mem_map.mp this
    obtain ⟨a, h1, h2⟩ := rf c hc
    have h3 := valV_mem hkn (show (p.1, p.2) ∈ kvs from hp)
    rw [← e, h1] at h3
    exact ⟨c, hc, a, Prod.ext e.symm (Option.some.inj h3).symm, h2⟩
  clear hkn rf
  induction kvs generalizing cs with
  | nil =>
    have : cs = [] := by
      cases cs with
      | nil => rfl
      | cons _ _ => cases hk
    rw [this]
    exact ⟨[], rfl, by unfold RmT; simp, rfl, by simp⟩
  | cons p kvs ih =>
    cases cs with
    | nil => cases hk
    | cons c cs =>
      simp only [List.map_cons, List.cons.injEq] at hk
      rw [List.nodup_cons] at hn
      have heach : ∀ q ∈ kvs, ∃ c ∈ cs, ∃ a, q = (Sum.inr c, .ref a) ∧ H a = some (.tup ((rm c).map V.int)) := fun q hq => by
        obtain ⟨c', hc', a, e, h⟩ := each q (List.mem_cons_of_mem _ hq)
        have : q.1 ∈ cs.map Sum.inr := by rw [← hk.2]; exact List.mem_map.mpr ⟨q, hq, rfl⟩
        obtain ⟨c2, hc2, e2⟩ := List.mem_map.mp this
        have e3 : q.1 = Sum.inr c' := congrArg Prod.fst e
        rw [e3] at e2
        rw [Sum.inr.inj e2] at hc2
        exact ⟨c', hc2, a, e, h⟩
      obtain ⟨xs, e1, e2, e3, e4⟩ := ih hk.2 hn.2 heach
      obtain ⟨c', hc', a, e, h⟩ := each p List.mem_cons_self
      have ec : c' = c := by
        have e3 : p.1 = Sum.inr c' := congrArg Prod.fst e
        rw [e3] at hk
        exact Sum.inr.inj hk.1
      subst ec
      refine ⟨(c', a, rm c') :: xs, ?_, ?_, ?_, ?_⟩
      · rw [e, e1]; rfl
      · intro x hx
        rcases List.mem_cons.mp hx with rfl | hx
        · exact h
        · exact e2 x hx
      · rw [List.map_cons, e3]
      · intro x hx
        rcases List.mem_cons.mp hx with rfl | hx
        · rfl
        · exact e4 x hx
theorem ok_law {P : Program} {w : World} {K : PySem.W.Frag} {mg : Str → Option Value} {base : Heap} {f : Addr} {fd : FuncData} (T : Txt K mg) (L : Fun K "law" "law" s_law f fd) (F_law_deal : Fn P w K mg base "_law_deal" 1 ["_law_script", "_law_start"] (spDeal K)) (F_law_draw : Fn P w K mg base "_law_draw" 1 ["_law_deal_here", "_law_many"] (spDraw)) (F_law_names : Fn P w K mg base "_law_names" 2 ["_law_deal_here", "_law_many"] (spNames)) (F_law_pool : Fn P w K mg base "_law_pool" 2 ["_law_deal_here"] (spPool5)) (F_law_leads : Fn P w K mg base "_law_leads" 3 ["_law_deal_here", "_law_things"] (spLeads)) (F_law_some : Fn P w K mg base "_law_some" 2 ["_law_deal_here", "_law_things", "_law_least"] (spSome)) (F_law_rooms : Fn P w K mg base "_law_rooms" 2 ["_law_deal_here", "_law_names_here", "_law_pool_here", "_law_most"] (spRoomsQ)) (Fis_turning : Fn P w K mg base "is_turning" 3 ["thing"] (spIT P w)) (F_law_led_right : Fn P w K mg base "_law_led_right" 4 ["_law_turning", "_law_filling", "_law_rooms_here"] (spRight)) (F_law_spoilt : Fn P w K mg base "_law_spoilt" 2 ["_law_deal_here", "_law_leads_here", "_law_fresh", "_law_odd"] (spSpoilt P w)) (F_law_goodB : Fn P w K mg base "_law_good" 2 ["_law_leads_here", "_law_names_here"] (spGood P w)) (F_law_goodS : Fn P w K mg base "_law_good" 2 ["_law_leads_here", "_law_names_here"] (spGoodA P w)) : FnOk P w K mg base CX0 20 f fd ["_law_script"] (spLaw K) := by
  have nd := sc_law.nd
  refine L.ok sc_law (fun vs H Q E h => ?_) (fun cdv A outer s H vs Q E hr h => ?_)
  · obtain ⟨a, ns, rfl, hS, hlen, k⟩ := h
    rfl
  · obtain ⟨a, ns, rfl, hS, hlen, k⟩ := h
    have hu := hu_of hr
    refine ⟨_, (pss_cons (ps_set (i := 1) nd rfl (by first | exact Or.inl rfl | exact Or.inr rfl) (pe_callF F_law_deal (hr.mono (by first | decide | omega)) rfl (pa_cons (pvM 0) (pa_cons pe_int pa_nil))))
      (pss_cons (ps_set (i := 2) nd rfl (by first | exact Or.inl rfl | exact Or.inr rfl) (pe_callF F_law_names (hr.mono (by first | decide | omega)) rfl (pa_cons (pvM 1) (pa_cons (pe_op op_add pe_int (pe_callF F_law_draw (hr.mono (by first | decide | omega)) rfl (pa_cons (pvM 1) (pa_cons pe_int pa_nil)))) pa_nil))))
      (pss_cons (ps_set (i := 3) nd rfl (by first | exact Or.inl rfl | exact Or.inr rfl) (pe_callF F_law_pool (hr.mono (by first | decide | omega)) rfl (pa_cons (pvM 1) pa_nil)))
      (pss_cons (ps_set (i := 4) nd rfl (by first | exact Or.inl rfl | exact Or.inr rfl) (pe_tup (pa_cons (pe_callF F_law_leads (hr.mono (by first | decide | omega)) rfl (pa_cons (pvM 1) (pa_cons (pvM 2) pa_nil))) (pa_cons (pe_callF F_law_leads (hr.mono (by first | decide | omega)) rfl (pa_cons (pvM 1) (pa_cons (pvM 3) pa_nil))) pa_nil))))
      (pss_cons (ps_set (i := 5) nd rfl (by first | exact Or.inl rfl | exact Or.inr rfl) (pvM 2))
      (pss_cut (ps_if (pt_cmpR op_eq (pe_callF F_law_draw (hr.mono (by first | decide | omega)) rfl (pa_cons (pvM 1) (pa_cons pe_int pa_nil))) pe_int (nomark _)) (pss_one (ps_set (i := 5) nd rfl (by first | exact Or.inl rfl | exact Or.inr rfl) (pe_callF F_law_some (hr.mono (by first | decide | omega)) rfl (pa_cons (pvM 1) (pa_cons (pvM 2) (pa_cons pe_int pa_nil)))))) pss_nil)
      (pss_cons (ps_set (i := 6) nd rfl (by first | exact Or.inl rfl | exact Or.inr rfl) (pe_callF F_law_rooms (hr.mono (by first | decide | omega)) rfl (pa_cons (pvM 1) (pa_cons (pvM 5) (pa_cons (pvM 3) (pa_cons pe_int pa_nil))))))
      (pss_cons (ps_set (i := 7) nd rfl (by first | exact Or.inl rfl | exact Or.inr rfl) pe_dnewK)
      (pss_cons (ps_for PassesOwn.never rfl (pi_S (K := K) rfl (pvM 5)) (pg_name (i := 8) nd rfl (by first | exact Or.inl rfl | exact Or.inr rfl)) (pss_one (ps_dp hu (pvM 7) (pvM 8) (pe_op op_add (pe_ix ix_L (pvM 3) (pe_callF F_law_draw (hr.mono (by first | decide | omega)) rfl (pa_cons (pvM 1) (pa_cons pe_int pa_nil))) (fun _ _ => rfl)) (pe_op op_mul (pe_op op_pow pe_int pe_int) (pe_callF F_law_draw (hr.mono (by first | decide | omega)) rfl (pa_cons (pvM 1) (pa_cons pe_int pa_nil))))) rfl)))
      (pss_cons (ps_if (PW.pt (pw_or (pt_cmpR op_notBl (pe_callF Fis_turning (hr.mono (by first | decide | omega)) rfl (pa_cons (pvM 4) pa_nil)) pe_bl (nomark _)) (pw_or1 (pt_not (pt_val (pe_callF F_law_led_right (hr.mono (by first | decide | omega)) rfl (pa_cons (pvM 4) (pa_cons (pvM 7) (pa_cons (pvM 6) pa_nil))))))))) (pss_one (ps_ret pe_bl)) pss_nil)
      (pss_cons (ps_set (i := 9) nd rfl (by first | exact Or.inl rfl | exact Or.inr rfl) (pe_callF F_law_draw (hr.mono (by first | decide | omega)) rfl (pa_cons (pvM 1) (pa_cons pe_int pa_nil))))
      (pss_cons (ps_set (i := 5) nd rfl (by first | exact Or.inl rfl | exact Or.inr rfl) (pe_lst (pa_cons (pe_callTy call_dictD rfl T.b_dict (show bootBuiltins "dict" = some (.type "dict") by decide +kernel) (pa_cons (pe_ix ix_T (pvM 4) pe_int (fun _ _ => rfl)) pa_nil)) (pa_cons (pe_callTy call_dictD rfl T.b_dict (show bootBuiltins "dict" = some (.type "dict") by decide +kernel) (pa_cons (pe_ix ix_T (pvM 4) pe_int (fun _ _ => rfl)) pa_nil)) pa_nil))))
      (pss_cut (ps_if (pt_cmpR op_eq (pvM 9) pe_int (nomark _)) (pss_cons (ps_set (i := 10) nd rfl (by first | exact Or.inl rfl | exact Or.inr rfl) (pe_ix ix_L (pe_lst (pa_cons pe_str (pa_cons pe_str (pa_cons pe_str (pa_cons pe_str (pa_cons pe_str (pa_cons pe_int (pa_cons pe_non pa_nil)))))))) (pe_callF F_law_draw (hr.mono (by first | decide | omega)) rfl (pa_cons (pvM 1) (pa_cons pe_int pa_nil))) (fun _ _ => rfl)))
      (pss_one (ps_asg (pe_callF F_law_spoilt (hr.mono (by first | decide | omega)) rfl (pa_cons (pvM 1) (pa_cons (pe_ix ix_L (pvM 5) pe_int (fun _ _ => rfl)) (pa_cons (pe_op op_catS pe_str (pe_slice sl_str (pe_ix ix_L (pvM 2) pe_int (fun _ _ => rfl)) po_none (po_some pe_int))) (pa_cons (pvM 10) pa_nil))))) (pg_sub (pvM 5) pe_int set_L)))) pss_nil)
      (pss_cut (ps_if (pt_cmpR op_eq (pvM 9) pe_int (nomark _)) (pss_cons (ps_set (i := 10) nd rfl (by first | exact Or.inl rfl | exact Or.inr rfl) (pe_ix ix_L (pe_lst (pa_cons pe_bl (pa_cons pe_non (pa_cons pe_str (pa_cons pe_str (pa_cons pe_bl pa_nil)))))) (pe_callF F_law_draw (hr.mono (by first | decide | omega)) rfl (pa_cons (pvM 1) (pa_cons pe_int pa_nil))) (fun _ _ => rfl)))
      (pss_one (ps_asg (pe_callF F_law_spoilt (hr.mono (by first | decide | omega)) rfl (pa_cons (pvM 1) (pa_cons (pe_ix ix_L (pvM 5) pe_int (fun _ _ => rfl)) (pa_cons (pe_op op_add (pe_op op_add (pe_ix ix_L (pvM 3) pe_int (fun _ _ => rfl)) pe_int) (pe_callF F_law_draw (hr.mono (by first | decide | omega)) rfl (pa_cons (pvM 1) (pa_cons (pe_op op_pow pe_int pe_int) pa_nil)))) (pa_cons (pvM 10) pa_nil))))) (pg_sub (pvM 5) pe_int set_L)))) pss_nil)
      (pss_cons (ps_set (i := 11) nd rfl (by first | exact Or.inl rfl | exact Or.inr rfl) (pe_and (pe_callF2 F_law_goodB F_law_goodS (hr.mono (by first | decide | omega)) (hr.mono (by first | decide | omega)) rfl (pa_cons (pe_ix ix_L (pvM 5) pe_int (fun _ _ => rfl)) (pa_cons pe_bl pa_nil))) (pe_one (pe_callF2 F_law_goodB F_law_goodS (hr.mono (by first | decide | omega)) (hr.mono (by first | decide | omega)) rfl (pa_cons (pe_ix ix_L (pvM 5) pe_int (fun _ _ => rfl)) (pa_cons pe_bl pa_nil))))))
      (pss_cons (ps_set (i := 12) nd rfl (by first | exact Or.inl rfl | exact Or.inr rfl) (pe_callF Fis_turning (hr.mono (by first | decide | omega)) rfl (pa_cons (pe_tup (pa_cons (pe_ix ix_L (pvM 5) pe_int (fun _ _ => rfl)) (pa_cons (pe_ix ix_L (pvM 5) pe_int (fun _ _ => rfl)) pa_nil))) pa_nil)))
      (pss_one (ps_ret (pe_and (pe_callB call_isB rfl T.b_isinstance (show bootBuiltins "isinstance" = some (.builtin "isinstance") by decide +kernel) (pa_cons (pvM 12) (pa_cons (pe_ty (T := "bool") rfl T.b_bool (by decide +kernel)) pa_nil))) (pe_and (pe_cmpR op_eq (pvM 12) (pvM 11) (nomark _)) (pe_one (pe_cmpR op_isBl (pe_callF Fis_turning (hr.mono (by first | decide | omega)) rfl (pa_cons (pvM 4) pa_nil)) pe_bl (nomark _))))))))))))))))))))))), ?_⟩
    (try ctx_has vcx true_and)
    refine ⟨a, ns, 1, rfl, hS, hlen, by decide, by decide, fun d l H1 hd hl D1 sm1 => ?_⟩
    (try ctx_has vcx true_and)
    refine draw_rd D1 (by decide) (by decide) fun r6 H2 r60 r61 D2 B2 => ?_
    refine ⟨_, rfl, d, l, 1 + r6, rfl, D2, by omega, by omega, fun na ws H3 hna nok hwl h3 D3 B3 => ?_⟩
    have nna := D2.ne hna
    refine ⟨d, l, rfl, D3, fun pa ps H4 hpa hp5 hpw hpb h4 D4 B4 => ?_⟩
    have npa := D3.ne hpa
    have h4n := B4 na _ nna.1 nna.2 h3
    refine ⟨d, l, na, ws.map Sum.inr, rfl, D4, .inl (by rw [h4n, List.map_map]; rfl), List.Pairwise.map _ (fun a b hab e => hab (Sum.inr.inj e)) nok.nd, by rw [List.length_map]; omega, fun ta m1 H5 hta h5 pm1 hk1 l1 D5 B5 => ?_⟩
    have nta := D4.ne hta
    have h5p := B5 pa _ npa.1 npa.2 h4
    have hpn : ps.Nodup := hpw.imp fun h e => by omega
    refine ⟨d, l, pa, ps.map Sum.inl, rfl, D5, .inl (by rw [h5p, List.map_map]; rfl), List.Pairwise.map _ (fun a b hab e => hab (Sum.inl.inj e)) hpn, by rw [List.length_map]; omega, fun tb m2 H6 htb h6 pm2 hk2 l2 D6 B6 => ?_⟩
    have ntb := D5.ne htb
    obtain ⟨mS, rfl, pS⟩ := pm_S pm1 fun x hx => by obtain ⟨s, _, e⟩ := List.mem_map.mp (hk1 x hx); exact ⟨s, e.symm⟩
    obtain ⟨mI, rfl, pI⟩ := pm_I pm2 fun x hx => by obtain ⟨s, _, e⟩ := List.mem_map.mp (hk2 x hx); exact ⟨s, e.symm⟩
    rw [kvK_S] at h5
    rw [kvK_I] at h6
    refine ⟨by decide, fun tu htu => ?_⟩
    have ntu := D6.ne htu
    have F : LF ws ps mS := ⟨nok, by omega, by omega, hp5, hpw, hpb, fun x hx => by
      have : (Sum.inr x.1 : Key) ∈ ws.map Sum.inr := hk1 (Sum.inr x.1, Sum.inr x.2) (List.mem_map.mpr ⟨x, hx, rfl⟩)
      obtain ⟨s, hs, e⟩ := List.mem_map.mp this
      rw [← Sum.inr.inj e]
      exact hs⟩
    have s7 := Same.upd0 (o := HO.tup [.ref ta, .ref tb]) htu
    have W7 : LW (upd H6 tu (HO.tup [.ref ta, .ref tb])) d l na pa tu ta tb ws ps mS mI := ⟨D6.same s7, s7 _ _ (B6 _ _ nna.1 nna.2 (B5 _ _ nna.1 nna.2 h4n)), s7 _ _ (B6 _ _ npa.1 npa.2 h5p), ⟨upd_same, s7 _ _ (B6 _ _ nta.1 nta.2 h5), s7 _ _ h6, pS, pI, by unfold upS at l1; rw [List.length_map] at l1; exact l1, by unfold upI at l2; rw [List.length_map] at l2; exact l2⟩, nna, npa, ntu, nta, ntb⟩
    generalize upd H6 tu (HO.tup [.ref ta, .ref tb]) = H7 at s7 W7 ⊢
    refine ⟨fun σ H' => ∃ (sa : Addr) (cs : List Str), σ = [some (.ref a), some (.ref d), some (.ref na), some (.ref pa), some (.ref tu), some (.ref sa), none, none, none, none, none, none, none] ∧ LW H' d l na pa tu ta tb ws ps mS mI ∧ sqOf H' sa (cs.map V.str) ∧ (sa ≠ d ∧ sa ≠ l) ∧ cs.Nodup ∧ cs.length ≤ 6, ?_, ?_⟩
    · (try ctx_has vcx true_and)
      refine draw_rd W7.D (by decide) (by decide) fun r8 H8 r80 r81 D8 B8 => ?_
      have W8 := W7.but D8 B8
      (try ctx_has vcx true_and)
      refine ite2 (fun h => ?_) (fun h => ?_)
      · refine ⟨d, l, na, 0, ws.map V.str, rfl, D8, .inl W8.hn, by decide, by simp, by rw [List.length_map]; omega, fun sa got rest H9 fsa hpm _ h9s D9 B9 => ?_⟩
        obtain ⟨cs, zs, rfl, hp⟩ := perm_inv V.str invS (fun _ => rfl) hpm
        have hcn : cs.Nodup := (List.nodup_append.mp (hp.nodup_iff.mpr nok.nd)).1
        have hcl : cs.length ≤ ws.length := by have := hp.length_eq; rw [List.length_append] at this; omega
        exact ⟨sa, rfl, W8.but D9 B9, cs, .inr h9s, (D8.ne fsa).1, (D8.ne fsa).2, hcn, by omega⟩
      · exact ⟨W8, ws, .inl W8.hn, nna.1, nna.2, nok.nd, by omega⟩
    · rintro σ H8 ⟨sa, cs, rfl, W8, sq, nsa, hcn, hcl⟩
      (try ctx_has vcx true_and)
      refine ⟨d, l, sa, pa, cs, ps, 5, rfl, W8.D, nsa, npa, sq, hcn, by omega, W8.hp, hp5, hpw, by decide, by decide, fun ra kvs rm H9 hra h9 rf gd pl hkeys D9 B9 => ?_⟩
      have nra := W8.D.ne hra
      have W9 := W8.but D9 B9
      have sq9 : sqOf H9 sa (cs.map V.str) := sq.imp (fun h => B9 _ _ nsa.1 nsa.2 h) (fun h => B9 _ _ nsa.1 nsa.2 h)
      intro fi hfi
      have nfi := D9.ne hfi
      have sfi : sa ≠ fi := by rcases sq9 with q | q <;> exact ne_of_none q hfi
      have s10 := Same.upd0 (o := HO.dK []) hfi
      refine for_sq (sq9.imp (fun h => s10 _ _ h) (fun h => s10 _ _ h)) fun J C o ho wk hC => ?_
      have ho : H9 sa = some o := by rwa [upd_ne sfi] at ho
      refine for_g wk (fun i σ H' => ∃ (kf : List (Str × Int)) (v8 : Option V), σ = [some (.ref a), some (.ref d), some (.ref na), some (.ref pa), some (.ref tu), some (.ref sa), some (.ref ra), some (.ref fi), v8, none, none, none, none] ∧ H' fi = some (.dK (kvF kf)) ∧ kf.map (·.1) = cs.take i ∧ DealAt H' d l ∧ But d l H9 H')
        ⟨[], _, rfl, upd_same, rfl, D9.new hfi, (But.refl _).new hfi⟩ (fun i σ H' zq51 => by obtain ⟨_, _, _, _, _, _, B⟩ := zq51; exact (hC _ (B sa _ nsa.1 nsa.2 ho))) ?_ ?_
      · rintro i x σ H11 hi hx ⟨kf, v8, rfl, h11, hk, D11, B11⟩
        obtain ⟨c, hc, rfl⟩ : ∃ c, cs[i]? = some c ∧ V.str c = x := by
          rw [List.getElem?_map] at hx
          cases e : cs[i]? with
          | none => rw [e] at hx; cases hx
          | some nm => rw [e] at hx; exact ⟨nm, rfl, Option.some.inj hx⟩
        have W11 := W9.but D11 B11
        (try ctx_has vcx true_and)
        have hkl : kf.length ≤ 6 := by
          have := congrArg List.length hk
          rw [List.length_map, List.length_take] at this
          omega
        refine draw_rd D11 (by decide) (by decide) fun r12 H12 r120 r121 D12 B12 => ?_
        have W12 := W11.but D12 B12
        obtain ⟨v, hv, hvm⟩ := atI_mem (xs := ps.map V.int) r120 (by rw [List.length_map]; omega)
        obtain ⟨z, hz, rfl⟩ := List.mem_map.mp hvm
        refine ⟨r12, rfl, _, W12.hp, _, hv, ⟨by decide, by decide, by decide⟩, ?_⟩
        refine draw_rd D12 (by decide) (by decide) fun r13 H13 r130 r131 D13 B13 => ?_
        refine ⟨r13, rfl, .inr ⟨by omega, by omega⟩, z, rfl, _, B13 _ _ nfi.1 nfi.2 (B12 _ _ nfi.1 nfi.2 h11), by unfold kvF; rw [List.length_map]; exact small1000 (by omega), kf ++ [(c, z + 10 ^ Int.toNat 12 * r13)], ?_, ?_, D13.put nfi.1 nfi.2, ((B11.trans B12).trans B13).put hfi⟩
        · rw [upd_same, put_snoc ?_]
          · unfold kvF; rw [List.map_append]; rfl
          · rw [kvF_keys]
            have e1 : (kf.map fun x => (Sum.inr x.1 : Key)) = (kf.map (·.1)).map Sum.inr := by rw [List.map_map]; rfl
            rw [e1, hk]
            intro hm
            obtain ⟨y, hy, e⟩ := List.mem_map.mp hm
            have e := Sum.inr.inj e
            subst e
            have hn2 := hcn.sublist (List.take_sublist (i + 1) cs)
            rw [List.take_add_one, hc, List.nodup_append] at hn2
            exact hn2.2.2 _ hy _ (by simp) rfl
        · rw [List.map_append, hk, List.take_add_one, hc]; rfl
      · rintro σ H11 ⟨kf, v8, rfl, h11, hk, D11, B11⟩
        rw [List.length_map, List.take_length] at hk
        have W11 := W9.but D11 B11
        obtain ⟨xs, rfl, hrt, hxc, hxr⟩ := rooms_xs rf hkeys hcn
        have h11r := B11 _ _ nra.1 nra.2 h9
        have hrt11 : RmT H11 xs := fun x hx => B11.tup D9 (hrt x hx)
        (try ctx_has vcx true_and)
        refine it_rd F W11.T fun H12 s12 => ?_
        have W12 := W11.same s12
        refine ⟨true, rfl, true, rfl, _, rfl, ?_⟩
        rw [if_neg (by decide)]
        have hkl : kf.length ≤ 6 := by
          have := congrArg List.length hk
          rw [List.length_map] at this
          omega
        have hxl : xs.length ≤ 6 := by
          have := congrArg List.length hxc
          rw [List.length_map] at this
          omega
        refine ⟨tu, ta, tb, fi, ra, mS, mI, kf, xs, rfl, W12.T, ⟨(ne_of_none W9.T.hn hfi).symm, (ne_of_none W9.T.hv hfi).symm⟩, ⟨(ne_of_none W8.T.hn hra).symm, (ne_of_none W8.T.hv hra).symm⟩, s12 _ _ h11, by rw [hk]; exact hcn, by omega, s12 _ _ h11r, hrt11.same s12, by rw [hxc]; exact hcn, by omega, fun x hx => ?_, fun H13 s13 => ?_⟩
        · have hc : x.1 ∈ cs := by rw [← hxc]; exact List.mem_map.mpr ⟨x, hx, rfl⟩
          obtain ⟨_, g2, g3, _⟩ := gd x.1 hc
          rw [hxr x hx]
          exact ⟨by omega, g3.imp fun h => by omega⟩
        refine ⟨true, rfl, ?_⟩
        rw [if_neg (by decide)]
        have W13 := W12.same s13
        refine draw_rd W13.D (by decide) (by decide) fun way H14 w0 w1 D14 B14 => ?_
        have W14 := W13.but D14 B14
        refine ⟨_, W14.T.ht, _, atI_nat (j := 0) rfl, ta, rfl, _, W14.T.hn, fun c0 hc0 => ?_⟩
        have s15 := Same.upd0 (o := HO.dK (kvS mS)) hc0
        refine ⟨_, s15 _ _ W14.T.ht, _, atI_nat (j := 1) rfl, tb, rfl, _, s15 _ _ W14.T.hv, fun c1 hc1 => ⟨by decide, fun so hso => ?_⟩⟩
        have n01 : c0 ≠ c1 := fun z => by rw [← z, upd_same] at hc1; cases hc1
        have n0s : c0 ≠ so := fun z => by rw [← z, upd_ne n01, upd_same] at hso; cases hso
        have n1s : c1 ≠ so := fun z => by rw [← z, upd_same] at hso; cases hso
        have nc0 := D14.ne hc0
        have nc1 := (D14.same s15).ne hc1
        have s16 := s15.upd_new (o := HO.dK (kvI mI)) hc1
        have nso := (D14.same s16).ne hso
        have nsA := (W14.same s16).free hso
        have s17 := s16.upd_new (o := HO.lst [.ref c0, .ref c1]) hso
        have W17 := W14.same s17
        have e170 : upd (upd (upd H14 c0 (HO.dK (kvS mS))) c1 (HO.dK (kvI mI))) so (HO.lst [.ref c0, .ref c1]) c0 = some (HO.dK (kvS mS)) := by rw [upd_ne n0s, upd_ne n01]; exact upd_same
        have e171 : upd (upd (upd H14 c0 (HO.dK (kvS mS))) c1 (HO.dK (kvI mI))) so (HO.lst [.ref c0, .ref c1]) c1 = some (HO.dK (kvI mI)) := by rw [upd_ne n1s]; exact upd_same
        have e17s : upd (upd (upd H14 c0 (HO.dK (kvS mS))) c1 (HO.dK (kvI mI))) so (HO.lst [.ref c0, .ref c1]) so = some (HO.lst [.ref c0, .ref c1]) := upd_same
        generalize upd (upd (upd H14 c0 (HO.dK (kvS mS))) c1 (HO.dK (kvI mI))) so (HO.lst [.ref c0, .ref c1]) = H17 at s17 W17 e170 e171 e17s ⊢
        clear hc0 hc1 hso s15 s16 s17 W14 W13 W12 W11 W9 W8 W7 hrt11 h11r h11 s12 s13 B14 D14
        refine ⟨fun σ H' => ∃ (c0 : Addr) (g0 : Prop) (v10 : Option V), σ = [some (.ref a), some (.ref d), some (.ref na), some (.ref pa), some (.ref tu), some (.ref so), some (.ref ra), some (.ref fi), v8, some (.int way), v10, none, none] ∧ LW H' d l na pa tu ta tb ws ps mS mI ∧ H' so = some (.lst [.ref c0, .ref c1]) ∧ (c0 ≠ d ∧ c0 ≠ l) ∧ c0 ≠ so ∧ DK P w true H' c0 g0 ∧ H' c1 = some (.dK (kvI mI)), ?_, ?_⟩
        · (try ctx_has vcx true_and)
          refine ite2 (fun hw => ?_) (fun hw => ?_)
          · refine ⟨by decide, fun p hp => ?_⟩
            refine draw_of W17.D hp (by decide) (by decide) rfl fun r v H18 hv ha D18 B18 h18 => ?_
            have W18 := W17.but D18 B18
            obtain ⟨wd, ws', ew⟩ : ∃ wd ws', ws = wd :: ws' := by
              have := F.w1
              cases ws with
              | nil => simp at this
              | cons x y => exact ⟨x, y, rfl⟩
            have nw : IsNm wd := nok.nm wd (by rw [ew]; simp)
            have l1 := nw.le
            have l2 := Txt.slice_le wd none (some 6)
            have lz : (Str.ofString "zz").length = 2 := by decide +kernel
            have h18s := B18 so _ nso.1 nso.2 e17s
            obtain ⟨o1, o2, ok, o3, o4⟩ := odd_S hv
            refine ⟨r, rfl, _, h18, v, ha, _, h18s, _, atI_nat (j := 0) rfl, _, W18.hn, V.str wd, by rw [ew]; exact atI_nat (j := 0) rfl, wd, rfl, Nat.le_of_lt (small1000 (by omega)), Nat.le_of_lt (small1000 (by omega)), ?_⟩
            refine ⟨true, d, l, c0, kvS mS, Sum.inr (Str.ofString "zz" ++ Txt.slice wd none (some 6)), v, ok, rfl, D18, B18 c0 _ nc0.1 nc0.2 e170, by unfold kvS; rw [List.length_map]; exact W17.T.ls, (S_facts F pS).1, (S_facts F pS).2.1, (S_facts F pS).2.2.1, decide_eq_true (by rw [str_len_append]; omega), o1, o2, o3, o4, fun r' g H19 hr' K19 D19 B19 => ?_⟩
            have nr' := D18.ne hr'
            have nrs : r' ≠ so := (ne_of_none h18s hr').symm
            have h19s := B19 so _ nso.1 nso.2 h18s
            exact ⟨_, h19s, by decide, by simp, (W18.but D19 B19).put nso nsA, r', upd_same, nr'.1, nr'.2, nrs, g, K19.put nrs, by rw [upd_ne n1s]; exact B19 c1 _ nc1.1 nc1.2 (B18 c1 _ nc1.1 nc1.2 e171)⟩
          · exact ⟨W17, c0, e17s, nc0.1, nc0.2, n0s, _, S_DK F pS W17.T.ls e170, e171⟩
        · rintro σ H18 ⟨c0, g0, v10, rfl, W18, h18s, nc0, n0s, K0, h18c⟩
          refine ⟨fun σ H' => ∃ (c1 : Addr) (g0 g1 : Prop) (v10 : Option V), σ = [some (.ref a), some (.ref d), some (.ref na), some (.ref pa), some (.ref tu), some (.ref so), some (.ref ra), some (.ref fi), v8, some (.int way), v10, none, none] ∧ LW H' d l na pa tu ta tb ws ps mS mI ∧ H' so = some (.lst [.ref c0, .ref c1]) ∧ (c1 ≠ d ∧ c1 ≠ l) ∧ DK P w true H' c0 g0 ∧ DK P w false H' c1 g1, ?_, ?_⟩
          · (try ctx_has vcx true_and)
            refine ite2 (fun hw => ?_) (fun hw => ?_)
            · refine ⟨by decide, fun p hp => ?_⟩
              refine draw_of W18.D hp (by decide) (by decide) rfl fun r v H19 hv ha D19 B19 h19 => ?_
              have W19 := W18.but D19 B19
              have h19s := B19 so _ nso.1 nso.2 h18s
              obtain ⟨o1, o2, ok, o3, o4⟩ := odd_I hv
              obtain ⟨u, hu4, hum⟩ := atI_mem (xs := ps.map V.int) (i := 4) (by decide) (by rw [List.length_map, hp5]; decide)
              obtain ⟨z, hz, rfl⟩ := List.mem_map.mp hum
              refine ⟨r, rfl, _, h19, v, ha, _, h19s, _, atI_nat (j := 1) rfl, _, W19.hp, _, hu4, z, rfl, ⟨by decide, by decide, by decide⟩, ?_⟩
              refine draw_rd D19 (by decide) (by decide) fun r2 H20 r20 r21 D20 B20 => ?_
              have h20s := B20 so _ nso.1 nso.2 h19s
              refine ⟨r2, rfl, ?_⟩
              refine ⟨false, d, l, c1, kvI mI, Sum.inl (z + 1 + r2), v, ok, rfl, D20, B20 c1 _ nc1.1 nc1.2 (B19 c1 _ nc1.1 nc1.2 h18c), by unfold kvI; rw [List.length_map]; exact W18.T.li, (I_facts pI).1, (I_facts pI).2.1, (I_facts pI).2.2.1, rfl, o1, o2, o3, o4, fun r' g H21 hr' K21 D21 B21 => ?_⟩
              have nr' := D20.ne hr'
              have nrs : r' ≠ so := (ne_of_none h20s hr').symm
              have h21s := B21 so _ nso.1 nso.2 h20s
              have BB := (B19.trans B20).trans B21
              exact ⟨_, h21s, by decide, by simp, (W18.but D21 BB).put nso nsA, r', upd_same, nr'.1, nr'.2, g0, (K0.but nc0 BB).put n0s, g, K21.put nrs⟩
            · exact ⟨W18, c1, h18s, nc1.1, nc1.2, g0, K0, _, I_DK pI W18.T.li h18c⟩
          · rintro σ H19 ⟨c1, g0, g1, v10, rfl, W19, h19s, nc1, K0, K1⟩
            (try ctx_has vcx true_and h19s)
            refine good_rd K0 fun b H1 s1 hb => ⟨b, rfl, ?_⟩
            cases b with
            | true =>
              rw [if_pos rfl]
              refine ⟨_, s1 _ _ h19s, _, atI_nat (j := 1) rfl, ?_⟩
              refine good_rd (K1.same s1) fun b H2 s2 hb2 => ?_
              have s12 := s1.trans s2
              refine ⟨_, s12 _ _ h19s, _, atI_nat (j := 0) rfl, _, s12 _ _ h19s, _, atI_nat (j := 1) rfl, by decide, fun p hp => ?_⟩
              have s3 := s12.upd_new (o := HO.tup [.ref c0, .ref c1]) hp
              refine ⟨p, c0, c1, g0, g1, rfl, upd_same, K0.same s3, K1.same s3, fun b2 H4 s4 hb4 => ?_⟩
              have e : b2 = b := Bool.eq_iff_iff.mpr (hb4.trans ⟨fun z => hb2.mpr z.2, fun z => ⟨hb.mp rfl, hb2.mp z⟩⟩)
              subst e
              refine ⟨true, rfl, ?_⟩
              rw [if_pos rfl, if_pos rfl]
              exact ⟨by cases b2 <;> rfl, it_rd F (W19.same (s3.trans s4)).T fun H5 s5 => ⟨true, rfl, true, rfl, k H5⟩⟩
            | false =>
              rw [if_neg Bool.false_ne_true]
              refine ⟨_, s1 _ _ h19s, _, atI_nat (j := 0) rfl, _, s1 _ _ h19s, _, atI_nat (j := 1) rfl, by decide, fun p hp => ?_⟩
              have s3 := s1.upd_new (o := HO.tup [.ref c0, .ref c1]) hp
              refine ⟨p, c0, c1, g0, g1, rfl, upd_same, K0.same s3, K1.same s3, fun b2 H4 s4 hb4 => ?_⟩
              have e : b2 = false := Bool.eq_iff_iff.mpr (hb4.trans ⟨fun z => hb.mpr z.1, fun z => by cases z⟩)
              subst e
              refine ⟨true, rfl, ?_⟩
              rw [if_pos rfl, if_pos rfl]
              exact ⟨rfl, it_rd F (W19.same (s3.trans s4)).T fun H5 s5 => ⟨true, rfl, true, rfl, k H5⟩⟩
theorem lenq1 {α : Type} {us : List α} (h : us.length = 1) : ∃ u0, us = [u0] := by
  match us, h with
  | [u0], _ => exact ⟨u0, rfl⟩
theorem lenq2 {α : Type} {us : List α} (h : us.length = 2) : ∃ u0 u1, us = [u0, u1] := by
  match us, h with
  | [u0, u1], _ => exact ⟨u0, u1, rfl⟩
theorem lenq3 {α : Type} {us : List α} (h : us.length = 3) : ∃ u0 u1 u2, us = [u0, u1, u2] := by
  match us, h with
  | [u0, u1, u2], _ => exact ⟨u0, u1, u2, rfl⟩
theorem lenq4 {α : Type} {us : List α} (h : us.length = 4) : ∃ u0 u1 u2 u3, us = [u0, u1, u2, u3] := by
  match us, h with
  | [u0, u1, u2, u3], _ => exact ⟨u0, u1, u2, u3, rfl⟩
theorem lenq5 {α : Type} {us : List α} (h : us.length = 5) : ∃ u0 u1 u2 u3 u4, us = [u0, u1, u2, u3, u4] := by
  match us, h with
  | [u0, u1, u2, u3, u4], _ => exact ⟨u0, u1, u2, u3, u4, rfl⟩
theorem lenq6 {α : Type} {us : List α} (h : us.length = 6) : ∃ u0 u1 u2 u3 u4 u5, us = [u0, u1, u2, u3, u4, u5] := by
  match us, h with
  | [u0, u1, u2, u3, u4, u5], _ => exact ⟨u0, u1, u2, u3, u4, u5, rfl⟩
theorem lenq7 {α : Type} {us : List α} (h : us.length = 7) : ∃ u0 u1 u2 u3 u4 u5 u6, us = [u0, u1, u2, u3, u4, u5, u6] := by
  match us, h with
  | [u0, u1, u2, u3, u4, u5, u6], _ => exact ⟨u0, u1, u2, u3, u4, u5, u6, rfl⟩
theorem lenq8 {α : Type} {us : List α} (h : us.length = 8) : ∃ u0 u1 u2 u3 u4 u5 u6 u7, us = [u0, u1, u2, u3, u4, u5, u6, u7] := by
  match us, h with
  | [u0, u1, u2, u3, u4, u5, u6, u7], _ => exact ⟨u0, u1, u2, u3, u4, u5, u6, u7, rfl⟩
theorem lenq9 {α : Type} {us : List α} (h : us.length = 9) : ∃ u0 u1 u2 u3 u4 u5 u6 u7 u8, us = [u0, u1, u2, u3, u4, u5, u6, u7, u8] := by
  match us, h with
  | [u0, u1, u2, u3, u4, u5, u6, u7, u8], _ => exact ⟨u0, u1, u2, u3, u4, u5, u6, u7, u8, rfl⟩
theorem lenq10 {α : Type} {us : List α} (h : us.length = 10) : ∃ u0 u1 u2 u3 u4 u5 u6 u7 u8 u9, us = [u0, u1, u2, u3, u4, u5, u6, u7, u8, u9] := by
  match us, h with
  | [u0, u1, u2, u3, u4, u5, u6, u7, u8, u9], _ => exact ⟨u0, u1, u2, u3, u4, u5, u6, u7, u8, u9, rfl⟩
theorem lenq11 {α : Type} {us : List α} (h : us.length = 11) : ∃ u0 u1 u2 u3 u4 u5 u6 u7 u8 u9 u10, us = [u0, u1, u2, u3, u4, u5, u6, u7, u8, u9, u10] := by
  match us, h with
  | [u0, u1, u2, u3, u4, u5, u6, u7, u8, u9, u10], _ => exact ⟨u0, u1, u2, u3, u4, u5, u6, u7, u8, u9, u10, rfl⟩
theorem all_mk {l : PySem.W.OpenLaw} {w : World} {K : PySem.W.Frag} {h : Heap} {mg : Str → Option Value} {fa : Addr} (X : K.In h) (G : h.Ns mainGlobals mg) (hfa : mg "law" = some (.ref fa))
    {f0 : Addr} {oc0 : Value} {od0 an0 : Option Addr} {sl0 : Array (Option Value)} {kV0 dc0 pm0 cd0 ct0 : Value}
    {f1 : Addr} {oc1 : Value} {od1 an1 : Option Addr} {sl1 : Array (Option Value)} {kV1 dc1 pm1 cd1 ct1 : Value}
    {f2 : Addr} {oc2 : Value} {od2 an2 : Option Addr} {sl2 : Array (Option Value)} {kV2 dc2 pm2 cd2 ct2 : Value}
    {f3 : Addr} {oc3 : Value} {od3 an3 : Option Addr} {sl3 : Array (Option Value)} {kV3 dc3 pm3 cd3 ct3 : Value}
    {f4 : Addr} {oc4 : Value} {od4 an4 : Option Addr} {sl4 : Array (Option Value)} {kV4 dc4 pm4 cd4 ct4 : Value}
    {f5 : Addr} {oc5 : Value} {od5 an5 : Option Addr} {sl5 : Array (Option Value)} {kV5 dc5 pm5 cd5 ct5 : Value}
    {f6 : Addr} {oc6 : Value} {od6 an6 : Option Addr} {sl6 : Array (Option Value)} {kV6 dc6 pm6 cd6 ct6 : Value}
    {f7 : Addr} {oc7 : Value} {od7 an7 : Option Addr} {sl7 : Array (Option Value)} {kV7 dc7 pm7 cd7 ct7 : Value}
    {f8 : Addr} {oc8 : Value} {od8 an8 : Option Addr} {sl8 : Array (Option Value)} {kV8 dc8 pm8 cd8 ct8 : Value}
    {f9 : Addr} {oc9 : Value} {od9 an9 : Option Addr} {sl9 : Array (Option Value)} {kV9 dc9 pm9 cd9 ct9 : Value}
    {f10 : Addr} {oc10 : Value} {od10 an10 : Option Addr} {sl10 : Array (Option Value)} {kV10 dc10 pm10 cd10 ct10 : Value}
    {f11 : Addr} {oc11 : Value} {od11 an11 : Option Addr} {sl11 : Array (Option Value)} {kV11 dc11 pm11 cd11 ct11 : Value}
    {f12 : Addr} {oc12 : Value} {od12 an12 : Option Addr} {sl12 : Array (Option Value)} {kV12 dc12 pm12 cd12 ct12 : Value}
    {f13 : Addr} {oc13 : Value} {od13 an13 : Option Addr} {sl13 : Array (Option Value)} {kV13 dc13 pm13 cd13 ct13 : Value}
    {f14 : Addr} {oc14 : Value} {od14 an14 : Option Addr} {sl14 : Array (Option Value)} {kV14 dc14 pm14 cd14 ct14 : Value}
    {f15 : Addr} {oc15 : Value} {od15 an15 : Option Addr} {sl15 : Array (Option Value)} {kV15 dc15 pm15 cd15 ct15 : Value}
    {f16 : Addr} {oc16 : Value} {od16 an16 : Option Addr} {sl16 : Array (Option Value)} {kV16 dc16 pm16 cd16 ct16 : Value}
    {f17 : Addr} {oc17 : Value} {od17 an17 : Option Addr} {sl17 : Array (Option Value)} {kV17 dc17 pm17 cd17 ct17 : Value}
    {f18 : Addr} {oc18 : Value} {od18 an18 : Option Addr} {sl18 : Array (Option Value)} {kV18 dc18 pm18 cd18 ct18 : Value}
    {f19 : Addr} {oc19 : Value} {od19 an19 : Option Addr} {sl19 : Array (Option Value)} {kV19 dc19 pm19 cd19 ct19 : Value}
    {f20 : Addr} {oc20 : Value} {od20 an20 : Option Addr} {sl20 : Array (Option Value)} {kV20 dc20 pm20 cd20 ct20 : Value}
    {f21 : Addr} {oc21 : Value} {od21 an21 : Option Addr} {sl21 : Array (Option Value)} {kV21 dc21 pm21 cd21 ct21 : Value}
    {f22 : Addr} {oc22 : Value} {od22 an22 : Option Addr} {sl22 : Array (Option Value)} {kV22 dc22 pm22 cd22 ct22 : Value}
    {f23 : Addr} {oc23 : Value} {od23 an23 : Option Addr} {sl23 : Array (Option Value)} {kV23 dc23 pm23 cd23 ct23 : Value}
    {ca_0 : Addr} {co_0 : Option Addr} {cn_0 : Nat} {cs_0 : Array (Option Value)} {ck_0_0 : Tok} {ck_0_1 : Tok} {ck_0_2 : Tok} {ck_0_3 : Tok}
    {ct_1 : Tok}
    (a0 : PySem.W.nsIn K mainGlobals "_law_draw" = some (some (.ref f0)))
    (l0 : K.lookup f0 = some ⟨oc0, od0, .func (PySem.W.fnOf "_law_draw" "_law_draw" (defArgs s__law_draw) (defBody s__law_draw) (defScope s__law_draw) .none kV0 dc0 pm0 an0 cd0 ct0), sl0⟩)
    (c0 : PySem.W.codeIn K cd0 "_law_draw" = true) (k0 : PySem.W.keepIn K (.ref f0) = true)
    (a1 : PySem.W.nsIn K mainGlobals "_law_deal" = some (some (.ref f1)))
    (l1 : K.lookup f1 = some ⟨oc1, od1, .func (PySem.W.fnOf "_law_deal" "_law_deal" (defArgs s__law_deal) (defBody s__law_deal) (defScope s__law_deal) .none kV1 dc1 pm1 an1 cd1 ct1), sl1⟩)
    (c1 : PySem.W.codeIn K cd1 "_law_deal" = true) (k1 : PySem.W.keepIn K (.ref f1) = true)
    (a2 : PySem.W.nsIn K mainGlobals "_law_names" = some (some (.ref f2)))
    (l2 : K.lookup f2 = some ⟨oc2, od2, .func (PySem.W.fnOf "_law_names" "_law_names" (defArgs s__law_names) (defBody s__law_names) (defScope s__law_names) .none kV2 dc2 pm2 an2 cd2 ct2), sl2⟩)
    (c2 : PySem.W.codeIn K cd2 "_law_names" = true) (k2 : PySem.W.keepIn K (.ref f2) = true)
    (a3 : PySem.W.nsIn K mainGlobals "_law_pool" = some (some (.ref f3)))
    (l3 : K.lookup f3 = some ⟨oc3, od3, .func (PySem.W.fnOf "_law_pool" "_law_pool" (defArgs s__law_pool) (defBody s__law_pool) (defScope s__law_pool) .none kV3 dc3 pm3 an3 cd3 ct3), sl3⟩)
    (c3 : PySem.W.codeIn K cd3 "_law_pool" = true) (k3 : PySem.W.keepIn K (.ref f3) = true)
    (a4 : PySem.W.nsIn K mainGlobals "_law_some" = some (some (.ref f4)))
    (l4 : K.lookup f4 = some ⟨oc4, od4, .func (PySem.W.fnOf "_law_some" "_law_some" (defArgs s__law_some) (defBody s__law_some) (defScope s__law_some) .none kV4 dc4 pm4 an4 cd4 ct4), sl4⟩)
    (c4 : PySem.W.codeIn K cd4 "_law_some" = true) (k4 : PySem.W.keepIn K (.ref f4) = true)
    (a5 : PySem.W.nsIn K mainGlobals "led" = some (some (.ref f5)))
    (l5 : K.lookup f5 = some ⟨oc5, od5, .func (PySem.W.fnOf "led" "led" (defArgs s_led) (defBody s_led) (defScope s_led) .none kV5 dc5 pm5 an5 cd5 ct5), sl5⟩)
    (c5 : PySem.W.codeIn K cd5 "led" = true) (k5 : PySem.W.keepIn K (.ref f5) = true)
    (a6 : PySem.W.nsIn K mainGlobals "all_led" = some (some (.ref f6)))
    (l6 : K.lookup f6 = some ⟨oc6, od6, .func (PySem.W.fnOf "all_led" "all_led" (defArgs s_all_led) (defBody s_all_led) (defScope s_all_led) .none kV6 dc6 pm6 an6 cd6 ct6), sl6⟩)
    (c6 : PySem.W.codeIn K cd6 "all_led" = true) (k6 : PySem.W.keepIn K (.ref f6) = true)
    (a7 : PySem.W.nsIn K mainGlobals "turned_filling" = some (some (.ref f7)))
    (l7 : K.lookup f7 = some ⟨oc7, od7, .func (PySem.W.fnOf "turned_filling" "turned_filling" (defArgs s_turned_filling) (defBody s_turned_filling) (defScope s_turned_filling) .none kV7 dc7 pm7 an7 cd7 ct7), sl7⟩)
    (c7 : PySem.W.codeIn K cd7 "turned_filling" = true) (k7 : PySem.W.keepIn K (.ref f7) = true)
    (a8 : PySem.W.nsIn K mainGlobals "_law_leads" = some (some (.ref f8)))
    (l8 : K.lookup f8 = some ⟨oc8, od8, .func (PySem.W.fnOf "_law_leads" "_law_leads" (defArgs s__law_leads) (defBody s__law_leads) (defScope s__law_leads) .none kV8 dc8 pm8 an8 cd8 ct8), sl8⟩)
    (c8 : PySem.W.codeIn K cd8 "_law_leads" = true) (k8 : PySem.W.keepIn K (.ref f8) = true)
    (a9 : PySem.W.nsIn K mainGlobals "_law_back" = some (some (.ref f9)))
    (l9 : K.lookup f9 = some ⟨oc9, od9, .func (PySem.W.fnOf "_law_back" "_law_back" (defArgs s__law_back) (defBody s__law_back) (defScope s__law_back) .none kV9 dc9 pm9 an9 cd9 ct9), sl9⟩)
    (c9 : PySem.W.codeIn K cd9 "_law_back" = true) (k9 : PySem.W.keepIn K (.ref f9) = true)
    (a10 : PySem.W.nsIn K mainGlobals "_law_rooms" = some (some (.ref f10)))
    (l10 : K.lookup f10 = some ⟨oc10, od10, .func (PySem.W.fnOf "_law_rooms" "_law_rooms" (defArgs s__law_rooms) (defBody s__law_rooms) (defScope s__law_rooms) .none kV10 dc10 pm10 an10 cd10 ct10), sl10⟩)
    (c10 : PySem.W.codeIn K cd10 "_law_rooms" = true) (k10 : PySem.W.keepIn K (.ref f10) = true)
    (a11 : PySem.W.nsIn K mainGlobals "is_number" = some (some (.ref f11)))
    (l11 : K.lookup f11 = some ⟨oc11, od11, .func (PySem.W.fnOf "is_number" "is_number" (defArgs s_is_number) (defBody s_is_number) (defScope s_is_number) .none kV11 dc11 pm11 an11 cd11 ct11), sl11⟩)
    (c11 : PySem.W.codeIn K cd11 "is_number" = true) (k11 : PySem.W.keepIn K (.ref f11) = true)
    (a12 : PySem.W.nsIn K mainGlobals "is_name" = some (some (.ref f12)))
    (l12 : K.lookup f12 = some ⟨oc12, od12, .func (PySem.W.fnOf "is_name" "is_name" (defArgs s_is_name) (defBody s_is_name) (defScope s_is_name) .none kV12 dc12 pm12 an12 cd12 ct12), sl12⟩)
    (c12 : PySem.W.codeIn K cd12 "is_name" = true) (k12 : PySem.W.keepIn K (.ref f12) = true)
    (a13 : PySem.W.nsIn K mainGlobals "leads_round" = some (some (.ref f13)))
    (l13 : K.lookup f13 = some ⟨oc13, od13, .func (PySem.W.fnOf "leads_round" "leads_round" (defArgs s_leads_round) (defBody s_leads_round) (defScope s_leads_round) .none kV13 dc13 pm13 an13 cd13 ct13), sl13⟩)
    (c13 : PySem.W.codeIn K cd13 "leads_round" = true) (k13 : PySem.W.keepIn K (.ref f13) = true)
    (a14 : PySem.W.nsIn K mainGlobals "is_turning" = some (some (.ref f14)))
    (l14 : K.lookup f14 = some ⟨oc14, od14, .func (PySem.W.fnOf "is_turning" "is_turning" (defArgs s_is_turning) (defBody s_is_turning) (defScope s_is_turning) .none kV14 dc14 pm14 an14 cd14 ct14), sl14⟩)
    (c14 : PySem.W.codeIn K cd14 "is_turning" = true) (k14 : PySem.W.keepIn K (.ref f14) = true)
    (a15 : PySem.W.nsIn K mainGlobals "_law_is_name" = some (some (.ref f15)))
    (l15 : K.lookup f15 = some ⟨oc15, od15, .func (PySem.W.fnOf "_law_is_name" "_law_is_name" (defArgs s__law_is_name) (defBody s__law_is_name) (defScope s__law_is_name) .none kV15 dc15 pm15 an15 cd15 ct15), sl15⟩)
    (c15 : PySem.W.codeIn K cd15 "_law_is_name" = true) (k15 : PySem.W.keepIn K (.ref f15) = true)
    (a16 : PySem.W.nsIn K mainGlobals "_law_is_whole" = some (some (.ref f16)))
    (l16 : K.lookup f16 = some ⟨oc16, od16, .func (PySem.W.fnOf "_law_is_whole" "_law_is_whole" (defArgs s__law_is_whole) (defBody s__law_is_whole) (defScope s__law_is_whole) .none kV16 dc16 pm16 an16 cd16 ct16), sl16⟩)
    (c16 : PySem.W.codeIn K cd16 "_law_is_whole" = true) (k16 : PySem.W.keepIn K (.ref f16) = true)
    (a17 : PySem.W.nsIn K mainGlobals "_law_good" = some (some (.ref f17)))
    (l17 : K.lookup f17 = some ⟨oc17, od17, .func (PySem.W.fnOf "_law_good" "_law_good" (defArgs s__law_good) (defBody s__law_good) (defScope s__law_good) .none kV17 dc17 pm17 an17 cd17 ct17), sl17⟩)
    (c17 : PySem.W.codeIn K cd17 "_law_good" = true) (k17 : PySem.W.keepIn K (.ref f17) = true)
    (a18 : PySem.W.nsIn K mainGlobals "_law_spoilt" = some (some (.ref f18)))
    (l18 : K.lookup f18 = some ⟨oc18, od18, .func (PySem.W.fnOf "_law_spoilt" "_law_spoilt" (defArgs s__law_spoilt) (defBody s__law_spoilt) (defScope s__law_spoilt) .none kV18 dc18 pm18 an18 cd18 ct18), sl18⟩)
    (c18 : PySem.W.codeIn K cd18 "_law_spoilt" = true) (k18 : PySem.W.keepIn K (.ref f18) = true)
    (a19 : PySem.W.nsIn K mainGlobals "turned_rooms" = some (some (.ref f19)))
    (l19 : K.lookup f19 = some ⟨oc19, od19, .func (PySem.W.fnOf "turned_rooms" "turned_rooms" (defArgs s_turned_rooms) (defBody s_turned_rooms) (defScope s_turned_rooms) .none kV19 dc19 pm19 an19 cd19 ct19), sl19⟩)
    (c19 : PySem.W.codeIn K cd19 "turned_rooms" = true) (k19 : PySem.W.keepIn K (.ref f19) = true)
    (a20 : PySem.W.nsIn K mainGlobals "_law_turned" = some (some (.ref f20)))
    (l20 : K.lookup f20 = some ⟨oc20, od20, .func (PySem.W.fnOf "_law_turned" "_law_turned" (defArgs s__law_turned) (defBody s__law_turned) (defScope s__law_turned) .none kV20 dc20 pm20 an20 cd20 ct20), sl20⟩)
    (c20 : PySem.W.codeIn K cd20 "_law_turned" = true) (k20 : PySem.W.keepIn K (.ref f20) = true)
    (a21 : PySem.W.nsIn K mainGlobals "_law_turned_rooms" = some (some (.ref f21)))
    (l21 : K.lookup f21 = some ⟨oc21, od21, .func (PySem.W.fnOf "_law_turned_rooms" "_law_turned_rooms" (defArgs s__law_turned_rooms) (defBody s__law_turned_rooms) (defScope s__law_turned_rooms) .none kV21 dc21 pm21 an21 cd21 ct21), sl21⟩)
    (c21 : PySem.W.codeIn K cd21 "_law_turned_rooms" = true) (k21 : PySem.W.keepIn K (.ref f21) = true)
    (a22 : PySem.W.nsIn K mainGlobals "_law_led_right" = some (some (.ref f22)))
    (l22 : K.lookup f22 = some ⟨oc22, od22, .func (PySem.W.fnOf "_law_led_right" "_law_led_right" (defArgs s__law_led_right) (defBody s__law_led_right) (defScope s__law_led_right) .none kV22 dc22 pm22 an22 cd22 ct22), sl22⟩)
    (c22 : PySem.W.codeIn K cd22 "_law_led_right" = true) (k22 : PySem.W.keepIn K (.ref f22) = true)
    (a23 : PySem.W.nsIn K mainGlobals "law" = some (some (.ref f23)))
    (l23 : K.lookup f23 = some ⟨oc23, od23, .func (PySem.W.fnOf "law" "law" (defArgs s_law) (defBody s_law) (defScope s_law) .none kV23 dc23 pm23 an23 cd23 ct23), sl23⟩)
    (c23 : PySem.W.codeIn K cd23 "law" = true) (k23 : PySem.W.keepIn K (.ref f23) = true)
    (z0 : PySem.W.nsIn K mainGlobals "len" = some none)
    (z1 : PySem.W.nsIn K mainGlobals "max" = some none)
    (z2 : PySem.W.nsIn K mainGlobals "sum" = some none)
    (z3 : PySem.W.nsIn K mainGlobals "list" = some none)
    (z4 : PySem.W.nsIn K mainGlobals "reversed" = some none)
    (z5 : PySem.W.nsIn K mainGlobals "range" = some none)
    (z6 : PySem.W.nsIn K mainGlobals "isinstance" = some none)
    (z7 : PySem.W.nsIn K mainGlobals "all" = some none)
    (z8 : PySem.W.nsIn K mainGlobals "any" = some none)
    (z9 : PySem.W.nsIn K mainGlobals "dict" = some none)
    (z10 : PySem.W.nsIn K mainGlobals "tuple" = some none)
    (z11 : PySem.W.nsIn K mainGlobals "sorted" = some none)
    (z12 : PySem.W.nsIn K mainGlobals "int" = some none)
    (z13 : PySem.W.nsIn K mainGlobals "str" = some none)
    (z14 : PySem.W.nsIn K mainGlobals "bool" = some none)
    (y0 : PySem.W.nsIn K mainGlobals "MARKS" = some (some (.ref ca_0)))
    (x0 : K.lookup ca_0 = some ⟨.type "tuple", co_0, .seq #[.str "in" ck_0_0, .str "from" ck_0_1, .str "to" ck_0_2, .str "end" ck_0_3] cn_0, cs_0⟩)
    (y1 : PySem.W.nsIn K mainGlobals "LONGEST_NAME" = some (some (.int 8 ct_1))) :
    ∃ fd : FuncData, (∀ (s : Shared) (v : Value), BindsTo s fd ⟨[v], []⟩ [("_law_script", v)]) ∧ ∀ base : Heap, K.In base → base.Ns mainGlobals mg → FnOk l.prog w K mg base CX0 20 fa fd ["_law_script"] (spLaw K) := by
  have e := hfa.symm.trans (PySem.W.mg_of X G a23)
  cases e
  have T : Txt K mg := ⟨PySem.W.mg_none_of X G z0, PySem.W.mg_none_of X G z1, PySem.W.mg_none_of X G z2, PySem.W.mg_none_of X G z3, PySem.W.mg_none_of X G z4, PySem.W.mg_none_of X G z5, PySem.W.mg_none_of X G z6, PySem.W.mg_none_of X G z7, PySem.W.mg_none_of X G z8, PySem.W.mg_none_of X G z9, PySem.W.mg_none_of X G z10, PySem.W.mg_none_of X G z11, PySem.W.mg_none_of X G z12, PySem.W.mg_none_of X G z13, PySem.W.mg_none_of X G z14, ⟨_, _, _, _, PySem.W.mg_of X G y0, x0, rfl, rfl, by show 4 ≤ sizeLine; decide, .cons ⟨_, rfl⟩ (.cons ⟨_, rfl⟩ (.cons ⟨_, rfl⟩ (.cons ⟨_, rfl⟩ (.nil))))⟩, ⟨_, PySem.W.mg_of X G y1⟩, (by rw [clsAt_of (PySem.W.mg_of X G a12)]; exact PySem.W.mg_of X G a12), (by rw [clsAt_of (PySem.W.mg_of X G a11)]; exact PySem.W.mg_of X G a11)⟩
  have L0 : FnL K mg "_law_draw" s__law_draw ["_law_deal_here", "_law_many"] := fnL_mk X G a0 l0 c0 k0 fun _ _ _ _ _ _ us hl => by obtain ⟨u0, u1, rfl⟩ := lenq2 hl; rfl
  have L1 : FnL K mg "_law_deal" s__law_deal ["_law_script", "_law_start"] := fnL_mk X G a1 l1 c1 k1 fun _ _ _ _ _ _ us hl => by obtain ⟨u0, u1, rfl⟩ := lenq2 hl; rfl
  have L2 : FnL K mg "_law_names" s__law_names ["_law_deal_here", "_law_many"] := fnL_mk X G a2 l2 c2 k2 fun _ _ _ _ _ _ us hl => by obtain ⟨u0, u1, rfl⟩ := lenq2 hl; rfl
  have L3 : FnL K mg "_law_pool" s__law_pool ["_law_deal_here"] := fnL_mk X G a3 l3 c3 k3 fun _ _ _ _ _ _ us hl => by obtain ⟨u0, rfl⟩ := lenq1 hl; rfl
  have L4 : FnL K mg "_law_some" s__law_some ["_law_deal_here", "_law_things", "_law_least"] := fnL_mk X G a4 l4 c4 k4 fun _ _ _ _ _ _ us hl => by obtain ⟨u0, u1, u2, rfl⟩ := lenq3 hl; rfl
  have L5 : FnL K mg "led" s_led ["leads", "thing"] := fnL_mk X G a5 l5 c5 k5 fun _ _ _ _ _ _ us hl => by obtain ⟨u0, u1, rfl⟩ := lenq2 hl; rfl
  have L6 : FnL K mg "all_led" s_all_led ["leads", "things"] := fnL_mk X G a6 l6 c6 k6 fun _ _ _ _ _ _ us hl => by obtain ⟨u0, u1, rfl⟩ := lenq2 hl; rfl
  have L7 : FnL K mg "turned_filling" s_turned_filling ["turning", "filling"] := fnL_mk X G a7 l7 c7 k7 fun _ _ _ _ _ _ us hl => by obtain ⟨u0, u1, rfl⟩ := lenq2 hl; rfl
  have L8 : FnL K mg "_law_leads" s__law_leads ["_law_deal_here", "_law_things"] := fnL_mk X G a8 l8 c8 k8 fun _ _ _ _ _ _ us hl => by obtain ⟨u0, u1, rfl⟩ := lenq2 hl; rfl
  have L9 : FnL K mg "_law_back" s__law_back ["_law_leads_here"] := fnL_mk X G a9 l9 c9 k9 fun _ _ _ _ _ _ us hl => by obtain ⟨u0, rfl⟩ := lenq1 hl; rfl
  have L10 : FnL K mg "_law_rooms" s__law_rooms ["_law_deal_here", "_law_names_here", "_law_pool_here", "_law_most"] := fnL_mk X G a10 l10 c10 k10 fun _ _ _ _ _ _ us hl => by obtain ⟨u0, u1, u2, u3, rfl⟩ := lenq4 hl; rfl
  have L11 : FnL K mg "is_number" s_is_number ["thing"] := fnL_mk X G a11 l11 c11 k11 fun _ _ _ _ _ _ us hl => by obtain ⟨u0, rfl⟩ := lenq1 hl; rfl
  have L12 : FnL K mg "is_name" s_is_name ["thing"] := fnL_mk X G a12 l12 c12 k12 fun _ _ _ _ _ _ us hl => by obtain ⟨u0, rfl⟩ := lenq1 hl; rfl
  have L13 : FnL K mg "leads_round" s_leads_round ["leads", "is_one"] := fnL_mk X G a13 l13 c13 k13 fun _ _ _ _ _ _ us hl => by obtain ⟨u0, u1, rfl⟩ := lenq2 hl; rfl
  have L14 : FnL K mg "is_turning" s_is_turning ["thing"] := fnL_mk X G a14 l14 c14 k14 fun _ _ _ _ _ _ us hl => by obtain ⟨u0, rfl⟩ := lenq1 hl; rfl
  have L15 : FnL K mg "_law_is_name" s__law_is_name ["_law_thing"] := fnL_mk X G a15 l15 c15 k15 fun _ _ _ _ _ _ us hl => by obtain ⟨u0, rfl⟩ := lenq1 hl; rfl
  have L16 : FnL K mg "_law_is_whole" s__law_is_whole ["_law_thing"] := fnL_mk X G a16 l16 c16 k16 fun _ _ _ _ _ _ us hl => by obtain ⟨u0, rfl⟩ := lenq1 hl; rfl
  have L17 : FnL K mg "_law_good" s__law_good ["_law_leads_here", "_law_names_here"] := fnL_mk X G a17 l17 c17 k17 fun _ _ _ _ _ _ us hl => by obtain ⟨u0, u1, rfl⟩ := lenq2 hl; rfl
  have L18 : FnL K mg "_law_spoilt" s__law_spoilt ["_law_deal_here", "_law_leads_here", "_law_fresh", "_law_odd"] := fnL_mk X G a18 l18 c18 k18 fun _ _ _ _ _ _ us hl => by obtain ⟨u0, u1, u2, u3, rfl⟩ := lenq4 hl; rfl
  have L19 : FnL K mg "turned_rooms" s_turned_rooms ["turning", "rooms"] := fnL_mk X G a19 l19 c19 k19 fun _ _ _ _ _ _ us hl => by obtain ⟨u0, u1, rfl⟩ := lenq2 hl; rfl
  have L20 : FnL K mg "_law_turned" s__law_turned ["_law_turning", "_law_filling"] := fnL_mk X G a20 l20 c20 k20 fun _ _ _ _ _ _ us hl => by obtain ⟨u0, u1, rfl⟩ := lenq2 hl; rfl
  have L21 : FnL K mg "_law_turned_rooms" s__law_turned_rooms ["_law_turning", "_law_rooms_here"] := fnL_mk X G a21 l21 c21 k21 fun _ _ _ _ _ _ us hl => by obtain ⟨u0, u1, rfl⟩ := lenq2 hl; rfl
  have L22 : FnL K mg "_law_led_right" s__law_led_right ["_law_turning", "_law_filling", "_law_rooms_here"] := fnL_mk X G a22 l22 c22 k22 fun _ _ _ _ _ _ us hl => by obtain ⟨u0, u1, u2, rfl⟩ := lenq3 hl; rfl
  refine ⟨PySem.W.fnOf "law" "law" (defArgs s_law) (defBody s_law) (defScope s_law) .none kV23 dc23 pm23 an23 cd23 ct23, fun s v => .of_eq rfl, fun base _ _ => ?_⟩
  have F_law_draw : Fn l.prog w K mg base "_law_draw" 1 ["_law_deal_here", "_law_many"] (spDraw) := ok__law_draw T L0 
  have F_law_deal : Fn l.prog w K mg base "_law_deal" 1 ["_law_script", "_law_start"] (spDeal K) := ok__law_deal T L1 
  have F_law_names : Fn l.prog w K mg base "_law_names" 2 ["_law_deal_here", "_law_many"] (spNames) := ok__law_names T L2 F_law_draw
  have F_law_pool : Fn l.prog w K mg base "_law_pool" 2 ["_law_deal_here"] (spPool5) := ok__law_pool T L3 F_law_draw
  have F_law_some : Fn l.prog w K mg base "_law_some" 2 ["_law_deal_here", "_law_things", "_law_least"] (spSome) := ok__law_some T L4 F_law_draw
  have Fled : Fn l.prog w K mg base "led" 1 ["leads", "thing"] (spLed) := ok_led T L5 
  have Fall_led : Fn l.prog w K mg base "all_led" 2 ["leads", "things"] (spAllLed) := ok_all_led T L6 Fled
  have Fturned_filling : Fn l.prog w K mg base "turned_filling" 2 ["turning", "filling"] (spTF) := ok_turned_filling T L7 Fled
  have F_law_leads : Fn l.prog w K mg base "_law_leads" 3 ["_law_deal_here", "_law_things"] (spLeads) := ok__law_leads T L8 F_law_some
  have F_law_back : Fn l.prog w K mg base "_law_back" 1 ["_law_leads_here"] (spBack) := ok__law_back T L9 
  have F_law_rooms : Fn l.prog w K mg base "_law_rooms" 2 ["_law_deal_here", "_law_names_here", "_law_pool_here", "_law_most"] (spRoomsQ) := ok__law_rooms T L10 F_law_draw
  have Fis_number : Fn l.prog w K mg base "is_number" 1 ["thing"] (spNumb) := ok_is_number T L11 
  have Fis_name : Fn l.prog w K mg base "is_name" 1 ["thing"] (spName) := ok_is_name T L12 
  have Fleads_roundB : Fn l.prog w K mg base "leads_round" 2 ["leads", "is_one"] (spLR mg) := ok_leads_roundB T L13 Fis_name Fis_number
  have Fleads_roundS : Fn l.prog w K mg base "leads_round" 2 ["leads", "is_one"] (spLRA l.prog w mg) := ok_leads_roundS T L13 Fis_name Fis_number
  have Fis_turning : Fn l.prog w K mg base "is_turning" 3 ["thing"] (spIT l.prog w) := ok_is_turning T L14 Fleads_roundB Fleads_roundS
  have F_law_is_name : Fn l.prog w K mg base "_law_is_name" 1 ["_law_thing"] (spName) := ok__law_is_name T L15 
  have F_law_is_whole : Fn l.prog w K mg base "_law_is_whole" 1 ["_law_thing"] (spNumb) := ok__law_is_whole T L16 
  have F_law_goodB : Fn l.prog w K mg base "_law_good" 2 ["_law_leads_here", "_law_names_here"] (spGood l.prog w) := ok__law_goodB T L17 F_law_is_name F_law_is_whole
  have F_law_goodS : Fn l.prog w K mg base "_law_good" 2 ["_law_leads_here", "_law_names_here"] (spGoodA l.prog w) := ok__law_goodS T L17 F_law_is_name F_law_is_whole
  have F_law_spoilt : Fn l.prog w K mg base "_law_spoilt" 2 ["_law_deal_here", "_law_leads_here", "_law_fresh", "_law_odd"] (spSpoilt l.prog w) := ok__law_spoilt T L18 F_law_draw
  have Fturned_rooms : Fn l.prog w K mg base "turned_rooms" 3 ["turning", "rooms"] (spTR) := ok_turned_rooms T L19 Fled Fall_led
  have F_law_turned : Fn l.prog w K mg base "_law_turned" 2 ["_law_turning", "_law_filling"] (spTF) := ok__law_turned T L20 
  have F_law_turned_rooms : Fn l.prog w K mg base "_law_turned_rooms" 2 ["_law_turning", "_law_rooms_here"] (spTR) := ok__law_turned_rooms T L21 
  have F_law_led_right : Fn l.prog w K mg base "_law_led_right" 4 ["_law_turning", "_law_filling", "_law_rooms_here"] (spRight) := ok__law_led_right T L22 F_law_back Fturned_filling Fturned_rooms F_law_turned F_law_turned_rooms
  exact ok_law T (fun_mk l23 c23 k23) F_law_deal F_law_draw F_law_names F_law_pool F_law_leads F_law_some F_law_rooms Fis_turning F_law_led_right F_law_spoilt F_law_goodB F_law_goodS
theorem walk {l : PySem.W.OpenLaw} {q : Program} {loose : List Str} {XP : (Str → Option Value) → Heap → Prop} {YP : World → Heap → Prop} {d : DefRec} {K : Params → PySem.W.Frag} (hn : l.most = some 63) (hdf : d.params.defaults = [])
    (hY : ∀ (w : World) (h : Heap), YP w h → (K w.params).In h)
    (F : ∀ (w : World) (mg : Str → Option Value) (fa : Addr) (h : Heap), (K w.params).In h → h.Ns mainGlobals mg → mg d.name = some (.ref fa) →
      ∃ fd : FuncData, (∀ (s : Shared) (u : Value), BindsTo s fd ⟨[u], []⟩ [("_law_script", u)]) ∧ ∀ base : Heap, (K w.params).In base → base.Ns mainGlobals mg → FnOk l.prog w (K w.params) mg base CX0 20 fa fd ["_law_script"] (spLaw (K w.params))) :
    PySem.W.WalkO q loose XP YP l.row.toRowW d [] (fun f vs => PySem.call f vs) :=
  L2.walk_of (n := 63) (k := 20) (x := "_law_script") (CX := fun _ => CX0) (sp := fun w => spLaw (K w.params)) hn (by decide) hdf ⟨rfl, by decide, by decide⟩ hY F (fun _ _ a ns hl _ hS => ⟨a, ns, rfl, hS, hl, fun _ => rfl⟩) fun _ _ _ _ _ z => z
noncomputable def viewQ : Program := { PySem.Challenge.pw_seekhall_k49_turnings with main := { PySem.Challenge.pw_seekhall_k49_turnings.main with body := [1, 2, 3, 4, 6, 7, 8, 9, 10, 11, 13, 14, 15, 16, 17, 18, 19, 20, 21, 22, 23, 24, 25, 26, 27, 28].map top } }
end Lw
open PySem PySem.W PyProof.Rows
local macro_rules | `(tactic| o_head $H) => do
  let hw := Lean.mkIdent `hw
  let hc := Lean.mkIdent `hc
  `(tactic| (refine holds_open (q := Lw.viewQ) (loose := List.nil) (N := 5800) (hY := Hook.of $H) (hYk := Hook.keeps $H)
                (Yf := Hook.obs $H) (Ya := Hook.val $H) (YP := Hook.says $H) (XP := XL Lw.viewQ List.nil)
                (Xt := fun s => xlAt Lw.viewQ List.nil s && recOk (RowW.records PySem.Challenge.rw_seekhall_k49_turnings.row.toRowW) s)
                ?hl (fun s e => xl_of s (Bool.and_eq_true_iff.mp e).1) XL.keeps (by rfl) (by rfl) (by rfl)
                (fun s e => recFacts_of (Bool.and_eq_true_iff.mp e).2) (by rfl) (by assumption) (by decide +kernel)
                ⟨rfl, rfl, rfl, rfl, rfl, by decide +kernel⟩ ?$hw ?$hc
             (case hl => intro w; kernel_rfl)))
set_option maxRecDepth 100000 in
set_option maxHeartbeats 0 in
theorem PySem.Challenge.cw_seekhall_k49_turnings_holds : PySem.Challenge.rw_seekhall_k49_turnings.Holds := by
  w_on; o_law; k_head; (case hw => w_witness2)
  k_fill
  refine Lw.walk (l := PySem.Challenge.rw_seekhall_k49_turnings) rfl rfl (fun w h Y => PySem.W.kIn_of Y) ?F
  case F =>
    intro w mg fa h KX G hmg
    refine' Lw.all_mk KX G hmg ?a0 ?l0 ?c0 ?k0 ?a1 ?l1 ?c1 ?k1 ?a2 ?l2 ?c2 ?k2 ?a3 ?l3 ?c3 ?k3 ?a4 ?l4 ?c4 ?k4 ?a5 ?l5 ?c5 ?k5 ?a6 ?l6 ?c6 ?k6 ?a7 ?l7 ?c7 ?k7 ?a8 ?l8 ?c8 ?k8 ?a9 ?l9 ?c9 ?k9 ?a10 ?l10 ?c10 ?k10 ?a11 ?l11 ?c11 ?k11 ?a12 ?l12 ?c12 ?k12 ?a13 ?l13 ?c13 ?k13 ?a14 ?l14 ?c14 ?k14 ?a15 ?l15 ?c15 ?k15 ?a16 ?l16 ?c16 ?k16 ?a17 ?l17 ?c17 ?k17 ?a18 ?l18 ?c18 ?k18 ?a19 ?l19 ?c19 ?k19 ?a20 ?l20 ?c20 ?k20 ?a21 ?l21 ?c21 ?k21 ?a22 ?l22 ?c22 ?k22 ?a23 ?l23 ?c23 ?k23 ?z0 ?z1 ?z2 ?z3 ?z4 ?z5 ?z6 ?z7 ?z8 ?z9 ?z10 ?z11 ?z12 ?z13 ?z14 ?y0 ?x0 ?y1
    (case a0 => k_is)
    (case l0 => k_is)
    (case c0 => k_is)
    (case k0 => k_is)
    (case a1 => k_is)
    (case l1 => k_is)
    (case c1 => k_is)
    (case k1 => k_is)
    (case a2 => k_is)
    (case l2 => k_is)
    (case c2 => k_is)
    (case k2 => k_is)
    (case a3 => k_is)
    (case l3 => k_is)
    (case c3 => k_is)
    (case k3 => k_is)
    (case a4 => k_is)
    (case l4 => k_is)
    (case c4 => k_is)
    (case k4 => k_is)
    (case a5 => k_is)
    (case l5 => k_is)
    (case c5 => k_is)
    (case k5 => k_is)
    (case a6 => k_is)
    (case l6 => k_is)
    (case c6 => k_is)
    (case k6 => k_is)
    (case a7 => k_is)
    (case l7 => k_is)
    (case c7 => k_is)
    (case k7 => k_is)
    (case a8 => k_is)
    (case l8 => k_is)
    (case c8 => k_is)
    (case k8 => k_is)
    (case a9 => k_is)
    (case l9 => k_is)
    (case c9 => k_is)
    (case k9 => k_is)
    (case a10 => k_is)
    (case l10 => k_is)
    (case c10 => k_is)
    (case k10 => k_is)
    (case a11 => k_is)
    (case l11 => k_is)
    (case c11 => k_is)
    (case k11 => k_is)
    (case a12 => k_is)
    (case l12 => k_is)
    (case c12 => k_is)
    (case k12 => k_is)
    (case a13 => k_is)
    (case l13 => k_is)
    (case c13 => k_is)
    (case k13 => k_is)
    (case a14 => k_is)
    (case l14 => k_is)
    (case c14 => k_is)
    (case k14 => k_is)
    (case a15 => k_is)
    (case l15 => k_is)
    (case c15 => k_is)
    (case k15 => k_is)
    (case a16 => k_is)
    (case l16 => k_is)
    (case c16 => k_is)
    (case k16 => k_is)
    (case a17 => k_is)
    (case l17 => k_is)
    (case c17 => k_is)
    (case k17 => k_is)
    (case a18 => k_is)
    (case l18 => k_is)
    (case c18 => k_is)
    (case k18 => k_is)
    (case a19 => k_is)
    (case l19 => k_is)
    (case c19 => k_is)
    (case k19 => k_is)
    (case a20 => k_is)
    (case l20 => k_is)
    (case c20 => k_is)
    (case k20 => k_is)
    (case a21 => k_is)
    (case l21 => k_is)
    (case c21 => k_is)
    (case k21 => k_is)
    (case a22 => k_is)
    (case l22 => k_is)
    (case c22 => k_is)
    (case k22 => k_is)
    (case a23 => k_is)
    (case l23 => k_is)
    (case c23 => k_is)
    (case k23 => k_is)
    (case z0 => k_is)
    (case z1 => k_is)
    (case z2 => k_is)
    (case z3 => k_is)
    (case z4 => k_is)
    (case z5 => k_is)
    (case z6 => k_is)
    (case z7 => k_is)
    (case z8 => k_is)
    (case z9 => k_is)
    (case z10 => k_is)
    (case z11 => k_is)
    (case z12 => k_is)
    (case z13 => k_is)
    (case z14 => k_is)
    (case y0 => k_is)
    (case x0 => k_is)
    (case y1 => k_is)
namespace Lw
end Lw
